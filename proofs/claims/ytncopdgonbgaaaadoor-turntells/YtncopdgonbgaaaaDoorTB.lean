/- Walks of package turn: Right, Form, Times, Flip. -/
import Derived.Test.YtncopdgonbgaaaaDoorTA
import Derived.Laws.StructEq
namespace Go.Proofs.YtncopdgonbgaaaaDoor
open Go.RowKit
set_option linter.unusedVariables false
theorem B2.fresh {w : World} {x y : Value} {t : TypeId} {g : Nat} (hg : w.heap.size = g) : B2 (w.alloc (.cells #[x, y] t)) g x y := B2.at (Ext.refl _) hg
theorem Z2.fresh {w : World} {t : TypeId} {g : Nat} (hg : w.heap.size = g) : Z2 (w.alloc (.cells #[.int .i64 0, .int .i64 0] t)) g := Z2.at (Ext.refl _) hg
theorem Z2.off {w : World} {g g' : Nat} {a b : Value} (h : Z2 w g) (hg : g ≠ g') : Z2 ((w.setCell ⟨g', 0, none⟩ a).setCell ⟨g', 1, none⟩ b) g := by
  have o : ∀ j, ((w.setCell ⟨g', 0, none⟩ a).setCell ⟨g', 1, none⟩ b).cell? ⟨g, j, none⟩ = w.cell? ⟨g, j, none⟩ := fun j => by
    rw [World.cell?_setCell_other _ _ _ _ (fun e => hg (by injection e with e; exact e.symm)), World.cell?_setCell_other _ _ _ _ (fun e => hg (by injection e with e; exact e.symm))]
  exact ⟨(o 0).trans h.c0, (o 1).trans h.c1, fun j => by simp only [World.frozen?_setCell]; exact h.f j⟩
/-- At g lies an angle's variable that may be stored into. -/
structure M2 (w : World) (g : Nat) (x y : Value) : Prop where
  c0 : w.cell? ⟨g, 0, none⟩ = some x
  c1 : w.cell? ⟨g, 1, none⟩ = some y
  f : ∀ j, w.frozen? ⟨g, j, none⟩ = false
theorem M2.ext {w w' : World} {g : Nat} {x y : Value} (h : M2 w g x y) (E : Ext w w') : M2 w' g x y := by
  have hg : g < w.heap.size := World.block_lt_of_cell? w _ h.c0
  exact ⟨(E.cell hg).trans h.c0, (E.cell hg).trans h.c1, fun j => (E.frozen hg).trans (h.f j)⟩
theorem M2.fresh {w : World} {x y : Value} {t : TypeId} {g : Nat} (hg : w.heap.size = g) : M2 (w.alloc (.cells #[x, y] t)) g x y := by
  subst hg
  exact ⟨by rw [World.cell?_alloc_new]; rfl, by rw [World.cell?_alloc_new]; rfl, fun j => by simp⟩
theorem M2.b2 {w : World} {g : Nat} {x y : Value} (h : M2 w g x y) : B2 w g x y := ⟨h.c0, h.c1⟩
theorem M2.store {w : World} {g : Nat} {x y a b : Value} (h : M2 w g x y) : M2 ((w.setCell ⟨g, 0, none⟩ a).setCell ⟨g, 1, none⟩ b) g a b := by
  have o : ∀ (W : World) (i j : Nat) (v : Value), i ≠ j → (W.setCell ⟨g, i, none⟩ v).cell? ⟨g, j, none⟩ = W.cell? ⟨g, j, none⟩ := fun W i j v hij => World.cell?_setCell_other _ _ _ _ (fun h => hij (by injection h))
  exact ⟨by rw [o _ 1 0 _ (by omega)]; exact World.cell?_setCell_same _ _ _ h.c0, World.cell?_setCell_same _ _ _ (by rw [o _ 0 1 _ (by omega)]; exact h.c1), fun j => by simp only [World.frozen?_setCell]; exact h.f j⟩
theorem M2.off {w : World} {g g' : Nat} {x y a b : Value} (h : M2 w g x y) (hg : g ≠ g') : M2 ((w.setCell ⟨g', 0, none⟩ a).setCell ⟨g', 1, none⟩ b) g x y := by
  obtain ⟨k0, k1⟩ := B2.off (a := a) (b := b) h.b2 hg
  exact ⟨k0, k1, fun j => by simp only [World.frozen?_setCell]; exact h.f j⟩
set_option maxRecDepth 4000 in
set_option maxHeartbeats 1000000 in
theorem tright_any (w : World) (K Q : Int) (hK : -9223372036854775808 ≤ K ∧ K ≤ 9223372036854775807) (hQ : -9223372036854775808 ≤ Q ∧ Q ≤ 9223372036854775807) :
    Calls Tryd.prog 12 #[.agg #[.int .i64 K, .int .i64 Q]] w (RetE w (.bool (rightT K Q))) := by
  unfold rightT
  by_cases c0 : 0 ≤ Q
  · rw [decide_eq_true c0]
    have d0 : decide (0 ≤ Q) = true := decide_eq_true c0
    by_cases c1 : Q ≤ 40
    · rw [decide_eq_true c1]
      have d1 : decide (Q ≤ 40) = true := decide_eq_true c1
      by_cases c2 : -1099511627776 ≤ K
      · rw [decide_eq_true c2]
        have d2 : decide (-1099511627776 ≤ K) = true := decide_eq_true c2
        by_cases c3 : K ≤ 1099511627776
        · rw [decide_eq_true c3]
          have d3 : decide (K ≤ 1099511627776) = true := decide_eq_true c3
          go_enter Tryd.func12, Tryd.ntmps12
          go_wp2
          go_ret
          exact ⟨by simp, (Ext.refl w).alloc _⟩
        · rw [decide_eq_false c3]
          have d3 : decide (K ≤ 1099511627776) = false := decide_eq_false c3
          go_enter Tryd.func12, Tryd.ntmps12
          go_wp2
          go_ret
          exact ⟨by simp, (Ext.refl w).alloc _⟩
      · rw [decide_eq_false c2]
        have d2 : decide (-1099511627776 ≤ K) = false := decide_eq_false c2
        go_enter Tryd.func12, Tryd.ntmps12
        go_wp2
        go_ret
        exact ⟨by simp, (Ext.refl w).alloc _⟩
    · rw [decide_eq_false c1]
      have d1 : decide (Q ≤ 40) = false := decide_eq_false c1
      go_enter Tryd.func12, Tryd.ntmps12
      go_wp2
      go_ret
      exact ⟨by simp, (Ext.refl w).alloc _⟩
  · rw [decide_eq_false c0]
    have d0 : decide (0 ≤ Q) = false := decide_eq_false c0
    go_enter Tryd.func12, Tryd.ntmps12
    go_wp2
    go_ret
    exact ⟨by simp, (Ext.refl w).alloc _⟩
theorem tright_lit (w : World) (K Q : Int) (r : Bool) (hr : rightT K Q = r) (hK : -9223372036854775808 ≤ K ∧ K ≤ 9223372036854775807) (hQ : -9223372036854775808 ≤ Q ∧ Q ≤ 9223372036854775807) : Calls Tryd.prog 12 #[.agg #[.int .i64 K, .int .i64 Q]] w (RetE w (.bool r)) := by
  subst hr; exact tright_any w K Q hK hQ
set_option maxRecDepth 4000 in
set_option maxHeartbeats 1000000 in
theorem tform_any (w : World) (T : Tb w) (K k : Int) (Q q : Nat) (hK : -1099511627776 ≤ K ∧ K ≤ 1099511627776) (hQ : Q ≤ 40) (h : Fm (tv K Q) k q) :
    Calls Tryd.prog 16 #[.agg #[.int .i64 K, .int .i64 Q]] w (RetE w (.agg #[.int .i64 k, .int .i64 q])) := by
  have HR := Lib.hid (fun w' => tright_lit w' K Q true (rightT_iff.2 (by omega)) (by omega) (by omega))
  have HC := Lib.hid (fun w' T' => treduced_any w' T' K k Q q (by omega) hQ h)
  replace T := Lib.hid T
  clear h
  go_enter Tryd.func16, Tryd.ntmps16
  go_wp2_with fail
  refine (HR.out _).mono ?_
  rintro _ w1 ⟨rfl, f1⟩
  have B_n : B2 w1 (w.heap.size) (.int .i64 K) (.int .i64 (Q : Int)) := ((B2.fresh (by simp)).ext ((Ext.refl _).alloc _)).ext f1
  have Z_n : Z2 w1 (w.heap.size + 1) := (Z2.fresh (by simp)).ext f1
  have E_n : Ext w w1 := (((Ext.refl w).alloc _).alloc _).trans f1
  clear f1
  have B := B_n
  clear B_n
  have Z := Z_n
  clear Z_n
  have E := E_n
  clear E_n
  obtain ⟨B_0, B_1⟩ := id B
  have B_l := World.block_lt_of_cell? _ _ B_0
  go_wp2_with fail
  refine (HC.out _ (T.out.ext E)).mono ?_
  rintro _ w2 ⟨rfl, f2⟩
  clear B_0 B_1 B_l
  have B_n : B2 w2 (w.heap.size) (.int .i64 K) (.int .i64 (Q : Int)) := B.ext f2
  have Z_n : Z2 w2 (w.heap.size + 1) := Z.ext f2
  have E_n : Ext w w2 := E.trans f2
  clear f2 B Z E
  have B := B_n
  clear B_n
  have Z := Z_n
  clear Z_n
  have E := E_n
  clear E_n
  have Z_c0 := Z.c0
  have Z_f0 := Z.f 0
  have Z_c1 := Z.c1
  have Z_f1 := Z.f 1
  have Z_l := World.block_lt_of_cell? _ _ Z_c0
  go_wp2
  obtain ⟨k0, k1, hD⟩ := Z.done E (by omega)
  exact bodyPost_ret (by simp [results, Tryd.results16, go_sem, k0, k1]) rfl ⟨rfl, hD⟩
set_option maxRecDepth 4000 in
set_option maxHeartbeats 1000000 in
theorem ttimes_any (w : World) (T : Tb w) (K n k : Int) (Q q : Nat) (hK : -1099511627776 ≤ K ∧ K ≤ 1099511627776) (hQ : Q ≤ 40) (h : Fm (n * tv K Q % 1099511627776) k q) :
    Calls Tryd.prog 22 #[.agg #[.int .i64 K, .int .i64 Q], .int .i64 n] w (RetE w (.agg #[.int .i64 k, .int .i64 q])) := by
  obtain ⟨kf, qf, hf⟩ := fm_there (tv_range K Q).1 (tv_range K Q).2
  have HF := Lib.hid (fun w' T' => tform_any w' T' K kf Q qf hK hQ hf)
  have hv : Fm (tv (wrap64 (kf * n)) qf) k q := by
    rw [tv_wrap]
    unfold tv
    rw [show kf * n * 2 ^ (40 - qf) = n * (kf * 2 ^ (40 - qf)) by rw [Int.mul_comm kf, Int.mul_assoc], ← hf.low.2.2.2]
    exact h
  have HC := Lib.hid (fun w' T' => treduced_any w' T' (wrap64 (kf * n)) k qf q (by unfold wrap64; omega) hf.low.2.2.1 hv)
  replace T := Lib.hid T
  clear h hf hv
  go_enter Tryd.func22, Tryd.ntmps22
  go_wp2_with fail
  refine (HF.out _ (T.out.ext (((Ext.refl w).alloc _).alloc _))).mono ?_
  rintro _ w1 ⟨rfl, f1⟩
  have B_n : M2 w1 (w.heap.size) (.int .i64 K) (.int .i64 (Q : Int)) := ((M2.fresh (by simp)).ext ((Ext.refl _).alloc _)).ext f1
  have Z_n : Z2 w1 (w.heap.size + 1) := (Z2.fresh (by simp)).ext f1
  have E_n : Ext w w1 := (((Ext.refl w).alloc _).alloc _).trans f1
  clear f1
  have B := B_n
  clear B_n
  have Z := Z_n
  clear Z_n
  have E := E_n
  clear E_n
  obtain ⟨B_0, B_1, B_f⟩ := id B
  have B_f0 := B_f 0
  have B_f1 := B_f 1
  clear B_f
  have B_l := World.block_lt_of_cell? _ _ B_0
  go_wp2_with fail
  refine (HC.out _ (T.out.ext ((E.setCell (show w.heap.size ≤ w.heap.size by omega) _).setCell (show w.heap.size ≤ w.heap.size by omega) _))).mono ?_
  rintro _ w2 ⟨rfl, f2⟩
  clear B_0 B_1 B_f0 B_f1 B_l
  have B_n : M2 w2 (w.heap.size) (.int .i64 kf) (.int .i64 (qf : Int)) := (B.store).ext f2
  have Z_n : Z2 w2 (w.heap.size + 1) := (Z.off (show (w.heap.size + 1 : Nat) ≠ w.heap.size by omega)).ext f2
  have E_n : Ext w w2 := ((E.setCell (show w.heap.size ≤ w.heap.size by omega) _).setCell (show w.heap.size ≤ w.heap.size by omega) _).trans f2
  clear f2 B Z E
  have B := B_n
  clear B_n
  have Z := Z_n
  clear Z_n
  have E := E_n
  clear E_n
  have Z_c0 := Z.c0
  have Z_f0 := Z.f 0
  have Z_c1 := Z.c1
  have Z_f1 := Z.f 1
  have Z_l := World.block_lt_of_cell? _ _ Z_c0
  go_wp2
  obtain ⟨k0, k1, hD⟩ := Z.done E (by omega)
  exact bodyPost_ret (by simp [results, Tryd.results22, go_sem, k0, k1]) rfl ⟨rfl, hD⟩
set_option maxRecDepth 4000 in
set_option maxHeartbeats 1000000 in
theorem tflip_any (w : World) (T : Tb w) (K k : Int) (Q q : Nat) (hK : -1099511627776 ≤ K ∧ K ≤ 1099511627776) (hQ : Q ≤ 40) (h : Fm ((-tv K Q) % 1099511627776) k q) :
    Calls Tryd.prog 20 #[.agg #[.int .i64 K, .int .i64 Q]] w (RetE w (.agg #[.int .i64 k, .int .i64 q])) := by
  have HC := Lib.hid (fun w' T' => ttimes_any w' T' K (-1) k Q q hK hQ (by rw [Int.neg_one_mul]; exact h))
  replace T := Lib.hid T
  clear h
  go_enter Tryd.func20, Tryd.ntmps20
  go_wp2_with fail
  refine (HC.out _ (T.out.ext (((Ext.refl w).alloc _).alloc _))).mono ?_
  rintro _ w1 ⟨rfl, f1⟩
  have B_n : B2 w1 (w.heap.size) (.int .i64 K) (.int .i64 (Q : Int)) := ((B2.fresh (by simp)).ext ((Ext.refl _).alloc _)).ext f1
  have Z_n : Z2 w1 (w.heap.size + 1) := (Z2.fresh (by simp)).ext f1
  have E_n : Ext w w1 := (((Ext.refl w).alloc _).alloc _).trans f1
  clear f1
  have B := B_n
  clear B_n
  have Z := Z_n
  clear Z_n
  have E := E_n
  clear E_n
  have Z_c0 := Z.c0
  have Z_f0 := Z.f 0
  have Z_c1 := Z.c1
  have Z_f1 := Z.f 1
  have Z_l := World.block_lt_of_cell? _ _ Z_c0
  go_wp2
  obtain ⟨k0, k1, hD⟩ := Z.done E (by omega)
  exact bodyPost_ret (by simp [results, Tryd.results20, go_sem, k0, k1]) rfl ⟨rfl, hD⟩
end Go.Proofs.YtncopdgonbgaaaaDoor
