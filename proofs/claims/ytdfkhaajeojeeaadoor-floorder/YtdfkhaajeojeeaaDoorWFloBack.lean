/- The walk of law FloBack. -/
import Derived.Test.YtdfkhaajeojeeaaDoorMJ
namespace Go.Proofs.YtdfkhaajeojeeaaDoor
open Go.RowKit
set_option linter.unusedVariables false

/-- How a double stands to the greatest finite one, and to its opposite. -/
theorem max_key : fkey 9218868437227405311 = 9218868437227405311 ∧ Num64 9218868437227405311 := ⟨by decide, ⟨by decide⟩⟩
theorem nmax_key : fkey 18442240474082181119 = -9218868437227405311 ∧ Num64 18442240474082181119 := ⟨by decide, ⟨by decide⟩⟩
theorem ord_ne {b : Nat} (h : Num64 b) : (Ieee.double.order b b != some .eq) = false := by rw [order_self h]; rfl
theorem ord_nan {b : Nat} (h : 9218868437227405312 < frung b) : (Ieee.double.order b b != some .eq) = true := by rw [order_nan (.inl h)]; rfl
theorem ord_gt {a b : Nat} (ha : Num64 a) (hb : Num64 b) (h : fkey b < fkey a) : (Ieee.double.order a b == some .gt) = true := by rw [order_num ha hb, Int.compare_eq_gt.2 h]; rfl
theorem ord_lt {a b : Nat} (ha : Num64 a) (hb : Num64 b) (h : fkey a < fkey b) : (Ieee.double.order a b == some .lt) = true := by rw [order_num ha hb, Int.compare_eq_lt.2 h]; rfl
theorem ord_not_gt {a b : Nat} (ha : Num64 a) (hb : Num64 b) (h : fkey a ≤ fkey b) : (Ieee.double.order a b == some .gt) = false := by rw [order_num ha hb]; exact cmp_not_gt h
theorem ord_not_lt {a b : Nat} (ha : Num64 a) (hb : Num64 b) (h : fkey b ≤ fkey a) : (Ieee.double.order a b == some .lt) = false := by rw [order_num ha hb]; exact cmp_not_lt h
theorem fin_key {b : Nat} (h : Fin64 b) : -9218868437227405311 ≤ fkey b ∧ fkey b ≤ 9218868437227405311 := by
  have := h.out
  unfold fkey; split <;> omega

set_option maxRecDepth 10000 in
set_option maxHeartbeats 2000000 in
theorem back_nan (w : World) (b : Nat) (hb : b < 18446744073709551616) (hno : 9218868437227405312 ≤ frung b) (h1 : (Ieee.double.order b b != some .eq) = true) (T : Tg w) : Calls Tryd.prog 4 #[.float .f64 b] w (RetE w (.bool true)) := by
  have hf : FloatKind.f64.format = Ieee.double := rfl
  have hff := ffrom_run
  have HO := Lib.hid (fun w' (T' : Tg w') => of_no w' b hb hno T')
  clear hno
  go_enter Tryd.func4, Tryd.ntmps4
  go_wp2_with fail
  refine (headF_any _ T).mono ?_
  rintro _ w1 ⟨rfl, f1⟩
  have e1 : Ext w w1 := (Ext.refl w).trans f1
  replace T := T.ext e1
  have E1 : Ext w w1 := (Ext.refl w).trans e1
  clear f1 e1
  go_wp2_with fail
  refine (HO.out _ T).mono ?_
  rintro _ w2 ⟨v2, rfl, n2, f2⟩
  have e2 : Ext w1 w2 := (Ext.refl w1).trans f2
  replace T := T.ext e2
  have E2 : Ext w w2 := E1.trans e2
  clear f2 e2 E1
  obtain ⟨bx, Ax, lx, cx, jjx, rfl⟩ := n2.form
  go_wp2_with fail
  refine (same_lit _ _ _ 0 0 rfl (n2.ext ((Ext.refl w2).alloc _)) (Dn.zero _)).mono ?_
  rintro _ w3 ⟨rfl, f3⟩
  have Bx : Box w3 (w2.heap.size) (.bool bx) (.slice Ax lx cx) (.int .i64 jjx) := Box.at ((Ext.refl _).trans f3) (by simp)
  have e3 : Ext w2 w3 := ((Ext.refl w2).alloc _).trans f3
  replace T := T.ext e3
  replace n2 := n2.ext e3
  have E3 : Ext w w3 := E2.trans e3
  clear f3 e3 E2
  go_wp2
  go_ret
  exact ⟨rfl, E3⟩

set_option maxRecDepth 10000 in
set_option maxHeartbeats 2000000 in
theorem back_pos (w : World) (b : Nat) (hb : b < 18446744073709551616) (hno : 9218868437227405312 ≤ frung b) (h1 : (Ieee.double.order b b != some .eq) = false) (h2 : (Ieee.double.order b 9218868437227405311 == some .gt) = true) (T : Tg w) : Calls Tryd.prog 4 #[.float .f64 b] w (RetE w (.bool true)) := by
  have hf : FloatKind.f64.format = Ieee.double := rfl
  have hff := ffrom_run
  have HO := Lib.hid (fun w' (T' : Tg w') => of_no w' b hb hno T')
  clear hno
  go_enter Tryd.func4, Tryd.ntmps4
  go_wp2_with fail
  refine (headF_any _ T).mono ?_
  rintro _ w1 ⟨rfl, f1⟩
  have e1 : Ext w w1 := (Ext.refl w).trans f1
  replace T := T.ext e1
  have E1 : Ext w w1 := (Ext.refl w).trans e1
  clear f1 e1
  go_wp2_with fail
  refine (HO.out _ T).mono ?_
  rintro _ w2 ⟨v2, rfl, n2, f2⟩
  have e2 : Ext w1 w2 := (Ext.refl w1).trans f2
  replace T := T.ext e2
  have E2 : Ext w w2 := E1.trans e2
  clear f2 e2 E1
  obtain ⟨bx, Ax, lx, cx, jjx, rfl⟩ := n2.form
  go_wp2_with fail
  refine (same_lit _ _ _ 0 0 rfl (n2.ext ((Ext.refl w2).alloc _)) (Dn.zero _)).mono ?_
  rintro _ w3 ⟨rfl, f3⟩
  have Bx : Box w3 (w2.heap.size) (.bool bx) (.slice Ax lx cx) (.int .i64 jjx) := Box.at ((Ext.refl _).trans f3) (by simp)
  have e3 : Ext w2 w3 := ((Ext.refl w2).alloc _).trans f3
  replace T := T.ext e3
  replace n2 := n2.ext e3
  have E3 : Ext w w3 := E2.trans e3
  clear f3 e3 E2
  go_wp2
  go_ret
  exact ⟨rfl, E3⟩

set_option maxRecDepth 10000 in
set_option maxHeartbeats 2000000 in
theorem back_neg (w : World) (b : Nat) (hb : b < 18446744073709551616) (hno : 9218868437227405312 ≤ frung b) (h1 : (Ieee.double.order b b != some .eq) = false) (h2 : (Ieee.double.order b 9218868437227405311 == some .gt) = false) (h3 : (Ieee.double.order b 18442240474082181119 == some .lt) = true) (T : Tg w) : Calls Tryd.prog 4 #[.float .f64 b] w (RetE w (.bool true)) := by
  have hf : FloatKind.f64.format = Ieee.double := rfl
  have hff := ffrom_run
  have HO := Lib.hid (fun w' (T' : Tg w') => of_no w' b hb hno T')
  clear hno
  go_enter Tryd.func4, Tryd.ntmps4
  go_wp2_with fail
  refine (headF_any _ T).mono ?_
  rintro _ w1 ⟨rfl, f1⟩
  have e1 : Ext w w1 := (Ext.refl w).trans f1
  replace T := T.ext e1
  have E1 : Ext w w1 := (Ext.refl w).trans e1
  clear f1 e1
  go_wp2_with fail
  refine (HO.out _ T).mono ?_
  rintro _ w2 ⟨v2, rfl, n2, f2⟩
  have e2 : Ext w1 w2 := (Ext.refl w1).trans f2
  replace T := T.ext e2
  have E2 : Ext w w2 := E1.trans e2
  clear f2 e2 E1
  obtain ⟨bx, Ax, lx, cx, jjx, rfl⟩ := n2.form
  go_wp2_with fail
  refine (same_lit _ _ _ 0 0 rfl (n2.ext ((Ext.refl w2).alloc _)) (Dn.zero _)).mono ?_
  rintro _ w3 ⟨rfl, f3⟩
  have Bx : Box w3 (w2.heap.size) (.bool bx) (.slice Ax lx cx) (.int .i64 jjx) := Box.at ((Ext.refl _).trans f3) (by simp)
  have e3 : Ext w2 w3 := ((Ext.refl w2).alloc _).trans f3
  replace T := T.ext e3
  replace n2 := n2.ext e3
  have E3 : Ext w w3 := E2.trans e3
  clear f3 e3 E2
  go_wp2
  go_ret
  exact ⟨rfl, E3⟩

set_option maxRecDepth 10000 in
set_option maxHeartbeats 2000000 in
theorem back_fin (w : World) (b : Nat) (hb : b < 18446744073709551616) (hF : Fin64 b) (h1 : (Ieee.double.order b b != some .eq) = false) (h2 : (Ieee.double.order b 9218868437227405311 == some .gt) = false) (h3 : (Ieee.double.order b 18442240474082181119 == some .lt) = false) (T : Tg w) : Calls Tryd.prog 4 #[.float .f64 b] w (RetE w (.bool true)) := by
  have hf : FloatKind.f64.format = Ieee.double := rfl
  have hff := ffrom_run
  have HO := Lib.hid (fun w' (T' : Tg w') => of_fin w' b hb hF T')
  have HR := Lib.hid (fun w' v (h : Dn w' v (fval b)) => rright_fin w' v b hF h)
  have HN := Lib.hid (fun w' v (h : Dn w' v (fval b)) (T' : Tg w') => retEq (near_nb w' v _ h (fin_nb hF) T') (Rn.self hF hb))
  clear hF
  go_enter Tryd.func4, Tryd.ntmps4
  go_wp2_with fail
  refine (headF_any _ T).mono ?_
  rintro _ w1 ⟨rfl, f1⟩
  have e1 : Ext w w1 := (Ext.refl w).trans f1
  replace T := T.ext e1
  have E1 : Ext w w1 := (Ext.refl w).trans e1
  clear f1 e1
  go_wp2_with fail
  refine (HO.out _ T).mono ?_
  rintro _ w2 ⟨v2, rfl, n2, f2⟩
  have e2 : Ext w1 w2 := (Ext.refl w1).trans f2
  replace T := T.ext e2
  have E2 : Ext w w2 := E1.trans e2
  clear f2 e2 E1
  obtain ⟨bx, Ax, lx, cx, jjx, rfl⟩ := n2.form
  go_wp2_with fail
  refine (HR.out _ _ (n2.ext ((Ext.refl w2).alloc _))).mono ?_
  rintro _ w3 ⟨rfl, f3⟩
  have Bx : Box w3 (w2.heap.size) (.bool bx) (.slice Ax lx cx) (.int .i64 jjx) := Box.at ((Ext.refl _).trans f3) (by simp)
  have e3 : Ext w2 w3 := ((Ext.refl w2).alloc _).trans f3
  replace T := T.ext e3
  replace n2 := n2.ext e3
  have E3 : Ext w w3 := E2.trans e3
  clear f3 e3 E2
  obtain ⟨Bx_0, Bx_1, Bx_2⟩ := id Bx
  have Bx_l := World.block_lt_of_cell? _ _ Bx_0
  go_wp2_with fail
  refine (HN.out _ _ n2 T).mono ?_
  rintro _ w4 ⟨q, rfl, oq, f4⟩
  clear Bx_0 Bx_1 Bx_2 Bx_l
  have e4 : Ext w3 w4 := (Ext.refl w3).trans f4
  replace T := T.ext e4
  replace n2 := n2.ext e4
  replace Bx := Bx.ext e4
  have E4 : Ext w w4 := E3.trans e4
  clear f4 e4 E3
  go_wp2
  go_ret
  exact ⟨rfl, E4⟩

theorem walk_FloBack (w : World) (T : Tg w) (b : Nat) (hb : b < 18446744073709551616) : Calls Tryd.prog 4 #[.float .f64 b] w (RetE w (.bool true)) := by
  by_cases hF : frung b < 9218868437227405312
  · have hf : Fin64 b := ⟨hF⟩
    obtain ⟨k1, k2⟩ := fin_key hf
    exact back_fin w b hb hf (ord_ne hf.num) (ord_not_gt hf.num max_key.2 (by rw [max_key.1]; exact k2)) (ord_not_lt hf.num nmax_key.2 (by rw [nmax_key.1]; exact k1)) T
  · by_cases hN : 9218868437227405312 < frung b
    · exact back_nan w b hb (by omega) (ord_nan hN) T
    · have hn : Num64 b := ⟨by omega⟩
      have hr : frung b = 9218868437227405312 := by omega
      cases hs : fneg b
      · have hk : fkey b = 9218868437227405312 := by unfold fkey; rw [hs, hr]; rfl
        exact back_pos w b hb (by omega) (ord_ne hn) (ord_gt hn max_key.2 (by rw [max_key.1, hk]; decide)) T
      · have hk : fkey b = -9218868437227405312 := by unfold fkey; rw [hs, hr]; rfl
        exact back_neg w b hb (by omega) (ord_ne hn) (ord_not_gt hn max_key.2 (by rw [max_key.1, hk]; decide)) (ord_lt hn nmax_key.2 (by rw [nmax_key.1, hk]; decide)) T

end Go.Proofs.YtdfkhaajeojeeaaDoor
