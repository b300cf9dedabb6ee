/- Walks of the document's answers on dyadic numbers: Mul. -/
import Derived.Test.YtjnnodbejnmkmaaDoorD3
namespace Go.Proofs.YtjnnodbejnmkmaaDoor
open Go.RowKit

/-- At g lie x, y, z. -/
structure Box (w : World) (g : Nat) (x y z : Value) : Prop where
  c0 : w.cell? ⟨g, 0, none⟩ = some x
  c1 : w.cell? ⟨g, 1, none⟩ = some y
  c2 : w.cell? ⟨g, 2, none⟩ = some z
theorem Box.ext {w w' : World} {g : Nat} {x y z : Value} (h : Box w g x y z) (E : Ext w w') : Box w' g x y z := by
  have hg : g < w.heap.size := World.block_lt_of_cell? w _ h.c0
  exact ⟨(E.cell hg).trans h.c0, (E.cell hg).trans h.c1, (E.cell hg).trans h.c2⟩
theorem Box.new (w : World) (x y z : Value) (t : TypeId) : Box (w.alloc (.cells #[x, y, z] t)) w.heap.size x y z :=
  ⟨by rw [World.cell?_alloc_new]; rfl, by rw [World.cell?_alloc_new]; rfl, by rw [World.cell?_alloc_new]; rfl⟩
theorem Box.at {w w' : World} {x y z : Value} {t : TypeId} {g : Nat} (E : Ext (w.alloc (.cells #[x, y, z] t)) w') (hg : w.heap.size = g) : Box w' g x y z := by
  subst hg; exact (Box.new w x y z t).ext E
theorem Box.set3 {w : World} {g g' : Nat} {x y z a b c : Value} (h : Box w g x y z) (hg : g ≠ g') : Box (set3 w g' a b c) g x y z :=
  ⟨(set3_other hg).trans h.c0, (set3_other hg).trans h.c1, (set3_other hg).trans h.c2⟩
theorem six {w : World} {g g' : Nat} {x y z x' y' z' : Value} (h : Box w g x y z) (k : Box w g' x' y' z') : w.cell? ⟨g, 0, none⟩ = some x ∧ w.cell? ⟨g, 1, none⟩ = some y ∧ w.cell? ⟨g, 2, none⟩ = some z ∧ w.cell? ⟨g', 0, none⟩ = some x' ∧ w.cell? ⟨g', 1, none⟩ = some y' ∧ w.cell? ⟨g', 2, none⟩ = some z' := ⟨h.c0, h.c1, h.c2, k.c0, k.c1, k.c2⟩
theorem six_set {w : World} {g g' i : Nat} {x y z x' y' z' a b c : Value} (h : Box w g x y z) (k : Box w g' x' y' z') (n : g ≠ i) (n' : g' ≠ i) :
    (((w.setCell ⟨i, 0, none⟩ a).setCell ⟨i, 1, none⟩ b).setCell ⟨i, 2, none⟩ c).cell? ⟨g, 0, none⟩ = some x ∧ (((w.setCell ⟨i, 0, none⟩ a).setCell ⟨i, 1, none⟩ b).setCell ⟨i, 2, none⟩ c).cell? ⟨g, 1, none⟩ = some y ∧ (((w.setCell ⟨i, 0, none⟩ a).setCell ⟨i, 1, none⟩ b).setCell ⟨i, 2, none⟩ c).cell? ⟨g, 2, none⟩ = some z ∧ (((w.setCell ⟨i, 0, none⟩ a).setCell ⟨i, 1, none⟩ b).setCell ⟨i, 2, none⟩ c).cell? ⟨g', 0, none⟩ = some x' ∧ (((w.setCell ⟨i, 0, none⟩ a).setCell ⟨i, 1, none⟩ b).setCell ⟨i, 2, none⟩ c).cell? ⟨g', 1, none⟩ = some y' ∧ (((w.setCell ⟨i, 0, none⟩ a).setCell ⟨i, 1, none⟩ b).setCell ⟨i, 2, none⟩ c).cell? ⟨g', 2, none⟩ = some z' :=
  six (h.set3 n) (k.set3 n')
theorem Rg.lt {P Q : Nat} {z e : Int} (h : Rg P Q (dy z e)) (c : Canon z e) (hb : P + Q ≤ 4800) : Lt 200 z.natAbs := by
  have := (h.canon c).2.2
  exact Lt.of_bits (Nat.le_trans (bl_of_lt this) (by omega))
theorem sg_mul (x y e : Int) : dy (sg (decide (x < 0) != decide (y < 0)) (x.natAbs * y.natAbs)) e = dy (x * y) e := by
  congr 1
  have h : (x * y).natAbs = x.natAbs * y.natAbs := Int.natAbs_mul x y
  rcases Int.lt_trichotomy x 0 with hx | hx | hx
  · rcases Int.lt_trichotomy y 0 with hy | hy | hy
    · have := Int.mul_pos_of_neg_of_neg hx hy
      rw [decide_eq_true hx, decide_eq_true hy]; simp only [bne_self_eq_false, sg]; simp; omega
    · subst hy; simp [sg]
    · have := Int.mul_neg_of_neg_of_pos hx hy
      rw [decide_eq_true hx, decide_eq_false (by omega)]; simp only [sg]; simp; omega
  · subst hx; simp [sg]
  · rcases Int.lt_trichotomy y 0 with hy | hy | hy
    · have := Int.mul_neg_of_pos_of_neg hx hy
      rw [decide_eq_false (by omega), decide_eq_true hy]; simp only [sg]; simp; omega
    · subst hy; simp [sg]
    · have := Int.mul_pos hx hy
      rw [decide_eq_false (by omega), decide_eq_false (by omega)]; simp only [bne_self_eq_false, sg]; simp; omega

set_option maxHeartbeats 1000000 in
theorem rmulD_any (w : World) (va vb : Value) (x y : Dyadic) (P Q P' Q' : Nat) (ha : Dn w va x) (hb : Dn w vb y) (hx : Rg P Q x) (hy : Rg P' Q' y) (h1 : P + Q ≤ 4800) (h2 : P' + Q' ≤ 4800) : Calls Tryd.prog 17 #[va, vb] w (RetD w (x * y)) := by
  obtain ⟨A, l, c, z, e, rfl, hN, hc, rfl, _⟩ := ha.parts
  obtain ⟨A', l', c', z', e', rfl, hN', hc', rfl, _⟩ := hb.parts
  clear ha hb
  have lz := hx.lt hc h1
  have lz' := hy.lt hc' h2
  obtain ⟨b1, b2, b3⟩ := hx.canon hc
  obtain ⟨b1', b2', b3'⟩ := hy.canon hc'
  have HM := Lib.hid (fun (w' : World) (v : Value) (hv : N w' v (z.natAbs * z'.natAbs)) => rmake_any w' (decide (z < 0) != decide (z' < 0)) v (z.natAbs * z'.natAbs) (e + e') hv ((lz.mul lz').mono (by omega)) (by omega))
  rw [sg_mul, ← dy_mul] at HM
  obtain ⟨n1, hn1⟩ : ∃ n1, n1 = decide (z < 0) := ⟨_, rfl⟩
  obtain ⟨n2, hn2⟩ : ∃ n2, n2 = decide (z' < 0) := ⟨_, rfl⟩
  rw [← hn1, ← hn2] at HM ⊢
  have he : -10000 ≤ e ∧ e ≤ 10000 := by omega
  have he' : -10000 ≤ e' ∧ e' ≤ 10000 := by omega
  clear hn1 hn2 hc hc' b3 b3'
  go_enter Tryd.func17, Tryd.ntmps17
  go_wp2
  generalize hW0 : (((w.alloc (.cells #[.bool n1, .slice A l c, .int .i64 e] 24)).alloc (.cells #[.bool n2, .slice A' l' c', .int .i64 e'] 24)).alloc (.cells #[.bool false, .slice none 0 0, .int .i64 0] 24)) = W0
  have B1 : Box W0 w.heap.size (.bool n1) (.slice A l c) (.int .i64 e) := by rw [← hW0]; exact Box.at (((Ext.refl _).alloc _).alloc _) rfl
  have B2 : Box W0 (w.heap.size + 1) (.bool n2) (.slice A' l' c') (.int .i64 e') := by rw [← hW0]; exact Box.at ((Ext.refl _).alloc _) (by simp)
  have Z0 : Zd W0 (w.heap.size + 1 + 1) := by rw [← hW0]; exact Zd.at (Ext.refl _) (by simp)
  have E0 : Ext w W0 := by rw [← hW0]; exact (((Ext.refl w).alloc _).alloc _).alloc _
  obtain ⟨p0, p1, p2⟩ := id B1
  obtain ⟨q0, q1, q2⟩ := id B2
  have M1 := hN.ext E0
  have M2 := hN'.ext E0
  clear hW0 hN hN'
  have hne1 : w.heap.size ≠ w.heap.size + 1 + 1 := by omega
  have hne2 : w.heap.size + 1 ≠ w.heap.size + 1 + 1 := by omega
  have hw1 : IntKind.i64.wrap (e + e') = e + e' := IntWalk.i64_in _ (by omega)
  go_region_held3 (fun w' => w'.cell? ⟨w.heap.size, 0, none⟩ = some (.bool n1) ∧ w'.cell? ⟨w.heap.size, 1, none⟩ = some (.slice A l c) ∧ w'.cell? ⟨w.heap.size, 2, none⟩ = some (.int .i64 e) ∧ w'.cell? ⟨w.heap.size + 1, 0, none⟩ = some (.bool n2) ∧ w'.cell? ⟨w.heap.size + 1, 1, none⟩ = some (.slice A' l' c') ∧ w'.cell? ⟨w.heap.size + 1, 2, none⟩ = some (.int .i64 e'))
    (first | (exact six_set (B1.ext F2) (B2.ext F2) hne1 hne2) | (exact six (B1.ext F2) (B2.ext F2)) | (exact six (B1.ext F1) (B2.ext F1)) | go_keep)
    (first | ((go_at_call 48); (refine (rmul_any _ _ _ z.natAbs z'.natAbs (M1.ext (Ext.refl W0).drew) (M2.ext (Ext.refl W0).drew) (lz.mono (by omega)) (lz'.mono (by omega))).mono ?_); (rintro _ w1 ⟨v1, rfl, m1, e1⟩); (have F1 : Ext W0 w1 := (Ext.refl W0).drew.trans e1)) | ((go_at_call 31); (refine (HM.out _ _ m1).mono ?_); (rintro _ w2 ⟨v2, rfl, m2, e2⟩); (obtain ⟨bb, A2, l2, c2, ee2, rfl⟩ := m2.form); (have F2 : Ext W0 w2 := F1.trans e2); (have Z2 := Z0.ext F2); (have g0 := Z2.c0); (have g1 := Z2.c1); (have g2 := Z2.c2); (have f0 := Z2.f 0); (have f1 := Z2.f 1); (have f2 := Z2.f 2)))
  go_wp2
  obtain ⟨k0, k1, k2, hD⟩ := Z2.done m2 (E0.trans F2) (by omega)
  exact bodyPost_ret (by simp [results, Tryd.results17, go_sem, k0, k1, k2]) rfl hD

end Go.Proofs.YtjnnodbejnmkmaaDoor
