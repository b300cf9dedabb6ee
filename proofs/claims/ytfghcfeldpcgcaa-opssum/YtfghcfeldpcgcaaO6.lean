/- The head of the laws on package ops. -/
import Derived.Test.YtfghcfeldpcgcaaO5
namespace Go.Proofs.Ytfghcfeldpcgcaa
open Go.RowKit
set_option linter.unusedVariables false

theorem addS_word {x y r : Nat} (h : Ieee.double.add x y = some r) : AddS x y r := by
  rcases add_all x y with ⟨b, k, hs⟩ | ⟨k, _⟩
  · obtain rfl : r = b := by rw [h] at k; injection k
    exact hs
  · rw [h] at k; cases k
theorem subp_word (w : World) (x y y' r : Nat) (hop : Op.unary .neg (.float .f64 y) = pure (.float .f64 y')) (h : Ieee.double.add x y' = some r) : Calls Try.prog 13 #[.float .f64 x, .float .f64 y] w (RetC w r) := by
  have HA := Lib.hid (fun w' => addp_word w' x y' r h)
  clear h
  go_enter Try.func13, Try.ntmps13
  go_wp2_with fail
  refine (HA.out _).mono ?_
  rintro _ _ ⟨rfl, rfl⟩
  go_wp2
  go_ret
  exact ⟨rfl, rfl⟩
theorem rowF_lit (w : World) (x y z : Nat) (t : TypeId) : RowF (w.alloc (.cells #[.float .f64 x, .float .f64 y, .float .f64 z] t)) (.slice (some ⟨w.heap.size, 0, none⟩) 3 3) [x, y, z] := by
  refine ⟨_, 3, rfl, Nat.le_refl _, by unfold maxLen; omega, fun _ => ⟨w.heap.size, 0, rfl, by simp, fun j hj => ?_⟩⟩
  have : j = 0 ∨ j = 1 ∨ j = 2 := by simp at hj; omega
  rcases this with rfl | rfl | rfl <;> simp [nthF]
theorem sum_lit {c : Nat} (h : Chain [4607182418800017408, 4368491638549381120, 4368491638549381120] 0 3 c) : (Ieee.double.order c 4607182418800017408 == some .eq) = true := by
  have k : Chain [4607182418800017408, 4368491638549381120, 4368491638549381120] 0 3 4607182418800017408 := .more (.more (.more .nil (addS_word (r := 4607182418800017408) (by decide +kernel))) (addS_word (r := 4607182418800017408) (by decide +kernel))) (addS_word (by decide +kernel))
  have hn : Num64 4607182418800017408 := ⟨by decide⟩
  obtain ⟨a, b⟩ := (h.uniq (fun _ _ => rfl) k).symm.key hn
  exact order_key a hn b.symm
theorem scale_lit {c : Nat} (h : ScaleS 4613937818241073152 (-1) c) : (Ieee.double.order c 4609434218613702656 == some .eq) = true := by
  rcases h with ⟨_, h⟩ | ⟨h, _⟩
  · have k : Rn (fval 4613937818241073152 * dy 1 (-1)) 4609434218613702656 := by
      have e : fval 4613937818241073152 * dy 1 (-1) = fval 4609434218613702656 := by decide +kernel
      rw [e]; exact Rn.self ⟨by decide⟩ (by omega)
    exact order_key h.num k.num (h.key_eq k)
  · exact absurd h (by decide)
theorem nan_ne {a b : Nat} (h : Nan64 a) : (Ieee.double.order a b != some .eq) = true := by rw [order_nan (.inl h.out)]; rfl

set_option maxRecDepth 10000 in
set_option maxHeartbeats 1000000 in
theorem headO_any (w : World) : Calls Try.prog 9 #[] w (RetE w (.bool true)) := by
  have hf : FloatKind.f64.format = Ieee.double := rfl
  have o1 : (Ieee.double.order 4599075939470750516 4599075939470750516 == some .eq) = true := by decide
  have o2 : (Ieee.double.order 4607182418800017408 4607182418800017408 == some .eq) = true := by decide
  have o3 : (Ieee.double.order 4609047870845172685 4609047870845172685 == some .eq) = true := by decide
  have o4 : (Ieee.double.order 9218868437227405312 9218868437227405312 == some .eq) = true := by decide
  have o5 : (Ieee.double.order 18442240474082181120 18442240474082181120 == some .eq) = true := by decide
  have hun : Op.unary .neg (.float .f64 9218868437227405312) = pure (.float .f64 18442240474082181120) := by kernel_rfl
  have a1 := Lib.hid (fun w' => addp_word w' 4591870180066957722 4596373779694328218 4599075939470750516 (by decide +kernel))
  have a2 := Lib.hid (fun w' => subp_word w' 4607182418800017408 4363988038922010624 13587360075776786432 4607182418800017408 (by kernel_rfl) (by decide +kernel))
  have a3 := Lib.hid (fun w' => mulp_word w' 4591870180066957722 4613937818241073152 4599075939470750516 (by decide +kernel))
  have a4 := Lib.hid (fun w' => rootp_word w' 4611686018427387904 4609047870845172685 (by decide +kernel))
  have a5 := Lib.hid (fun w' => scalep_any w' 4613937818241073152 (-1) (by omega) (by omega))
  have a6 := Lib.hid (fun w' => addp_word w' 9218868437227405312 4607182418800017408 9218868437227405312 (by decide +kernel))
  have a7 := Lib.hid (fun w' => addp_none w' 9218868437227405312 18442240474082181120 (by decide +kernel))
  have a8 := Lib.hid (fun w' => mulp_word w' 9218868437227405312 13835058055282163712 18442240474082181120 (by decide +kernel))
  have a9 := Lib.hid (fun w' => rootp_none w' 13830554455654793216 (by decide +kernel))
  have a10 := Lib.hid (fun w' => mulp_word w' 9218868437227405311 4611686018427387904 9218868437227405312 (by decide +kernel))
  go_enter Try.func9, Try.ntmps9
  go_wp2_with fail
  refine (inf_any _).mono ?_
  rintro _ _ ⟨rfl, rfl⟩
  go_wp2_with fail
  refine (a1.out _).mono ?_
  rintro _ _ ⟨rfl, rfl⟩
  go_wp2_with fail
  refine (a2.out _).mono ?_
  rintro _ _ ⟨rfl, rfl⟩
  go_wp2_with fail
  refine (a3.out _).mono ?_
  rintro _ _ ⟨rfl, rfl⟩
  go_wp2_with fail
  refine (a4.out _).mono ?_
  rintro _ _ ⟨rfl, rfl⟩
  go_wp2_with fail
  refine (a5.out _).mono ?_
  rintro _ w1 ⟨c1, rfl, hc1, hs1, e1⟩
  have o6 := scale_lit hs1
  go_wp2_with fail
  refine (sump_any _ _ _ (rowF_lit _ _ _ _ _)).mono ?_
  rintro _ w2 ⟨c2, rfl, hc2, hs2, e2⟩
  have o7 := sum_lit hs2
  have E2 : Ext w w2 := (e1.alloc _).trans e2
  clear e1 e2 hs1 hs2
  go_wp2_with fail
  refine (a6.out _).mono ?_
  rintro _ _ ⟨rfl, rfl⟩
  go_wp2_with fail
  refine (a7.out _).mono ?_
  rintro _ w3 ⟨c3, rfl, hc3, hn3, e3⟩
  go_wp2_with fail
  refine (a7.out _).mono ?_
  rintro _ w4 ⟨c4, rfl, hc4, hn4, e4⟩
  have o8 := nan_ne (b := c4) hn3
  go_wp2_with fail
  refine (a8.out _).mono ?_
  rintro _ _ ⟨rfl, rfl⟩
  go_wp2_with fail
  refine (a9.out _).mono ?_
  rintro _ w5 ⟨c5, rfl, hc5, hn5, e5⟩
  go_wp2_with fail
  refine (a9.out _).mono ?_
  rintro _ w6 ⟨c6, rfl, hc6, hn6, e6⟩
  have o9 := nan_ne (b := c6) hn5
  go_wp2_with fail
  refine (a10.out _).mono ?_
  rintro _ _ ⟨rfl, rfl⟩
  go_wp2
  go_ret
  exact ⟨rfl, ((((E2.trans e3).trans e4).trans e5).trans e6)⟩

end Go.Proofs.Ytfghcfeldpcgcaa
