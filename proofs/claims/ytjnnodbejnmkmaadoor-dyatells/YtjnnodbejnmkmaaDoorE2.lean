/- Walks of package dya: numbers' methods, Sign, Flip, Shift, Mul, Of. -/
import Derived.Test.YtjnnodbejnmkmaaDoorE1
namespace Go.Proofs.YtjnnodbejnmkmaaDoor
open Go.RowKit

theorem nsign_any (w : World) (v : Value) (d : Dyadic) (h : Dn w v d) : Calls Tryd.prog 37 #[v] w (RetE w (.int .i64 (cmpD d 0))) := by
  obtain ⟨A, l, c, z, e, rfl, hN, hc, rfl, hl, _⟩ := h.parts
  rw [cmpD_zero]
  rcases Int.lt_trichotomy z 0 with h0 | h0 | h0
  · rw [cmpI_lt h0, decide_eq_true h0]
    have hl0 : ((l : Int) == 0) = false := beq_eq_false_iff_ne.2 (by omega)
    go_enter Tryd.func37, Tryd.ntmps37
    go_wp2
    go_ret
    exact ⟨rfl, (Ext.refl w).alloc _⟩
  · subst h0
    obtain rfl : l = 0 := hl.2 rfl
    go_enter Tryd.func37, Tryd.ntmps37
    go_wp2
    go_ret
    exact ⟨rfl, (Ext.refl w).alloc _⟩
  · rw [cmpI_gt h0, decide_eq_false (by omega)]
    have hl0 : ((l : Int) == 0) = false := beq_eq_false_iff_ne.2 (by omega)
    go_enter Tryd.func37, Tryd.ntmps37
    go_wp2
    go_ret
    exact ⟨rfl, (Ext.refl w).alloc _⟩

theorem signD_any (w : World) (v : Value) (d : Dyadic) (h : Dn w v d) : Calls Tryd.prog 20 #[v] w (RetE w (.int .i64 (cmpD d 0))) := by
  have HS := Lib.hid (fun (w' : World) (hE : Ext w w') => nsign_any w' v d (h.ext hE))
  obtain ⟨b, A, l, c, e, rfl⟩ := h.form
  clear h
  go_enter Tryd.func20, Tryd.ntmps20
  go_wp2_with fail
  refine (HS.out _ ((Ext.refl w).alloc _)).mono ?_
  rintro _ w1 ⟨rfl, e1⟩
  go_wp2
  go_ret
  exact ⟨rfl, ((Ext.refl w).alloc _).trans e1⟩

theorem sg_flip (z : Int) : sg (!decide (z < 0)) z.natAbs = -z := by
  by_cases h : z < 0
  · rw [decide_eq_true h]; simp [sg]; omega
  · rw [decide_eq_false h]; simp [sg]; omega

set_option maxHeartbeats 1000000 in
theorem own_any (w : World) (v : Value) (z e : Int) (h : Dn w v (dy z e)) (hc : Canon z e) (hm : Lt 400 z.natAbs) (he : -400000 ≤ e ∧ e ≤ 400000) (T : Tb w) : Calls Tryd.prog 38 #[v] w (RetD w (dy z e)) := by
  obtain ⟨A, l, c, z', e', rfl, hN, hc', hd, hl, _⟩ := h.parts
  obtain ⟨rfl, rfl⟩ := hc.uniq hc' hd
  have HM := Lib.hid (fun (w' : World) (hE : Ext w w') => make_any w' (decide (z < 0)) _ z.natAbs (e) (hN.ext hE) hm (by omega) (T.ext hE))
  rw [sg_of] at HM
  obtain ⟨nb, hnb⟩ : ∃ nb, nb = decide (z < 0) := ⟨_, rfl⟩
  rw [← hnb] at HM ⊢
  clear hnb T
  go_enter Tryd.func38, Tryd.ntmps38
  go_wp2_with (go_at_call 30; refine (HM.out _ (((Ext.refl w).alloc _).alloc _)).mono ?_; rintro e w2 ⟨v2, rfl, n2, e2⟩; obtain ⟨b2, A2, l2, c2, ee2, rfl⟩ := n2.form; have Z2 : Zd w2 (w.heap.size + 1) := Zd.at e2 (by simp); have g0 := Z2.c0; have g1 := Z2.c1; have g2 := Z2.c2; have f0 := Z2.f 0; have f1 := Z2.f 1; have f2 := Z2.f 2)
  obtain ⟨k0, k1, k2, hD⟩ := Z2.done n2 ((((Ext.refl w).alloc _).alloc _).trans e2) (by omega)
  exact bodyPost_ret (by simp [results, Tryd.results38, go_sem, k0, k1, k2]) rfl hD

set_option maxHeartbeats 1000000 in
theorem flipD_main (w : World) (v : Value) (z e : Int) (h : Dn w v (dy z e)) (hc : Canon z e) (hm : Lt 400 z.natAbs) (he : -400000 ≤ e ∧ e ≤ 400000) (T : Tb w) : Calls Tryd.prog 22 #[v] w (RetD w (dy (-z) e)) := by
  obtain ⟨A, l, c, z', e', rfl, hN, hc', hd, hl, _⟩ := h.parts
  obtain ⟨rfl, rfl⟩ := hc.uniq hc' hd
  have HM := Lib.hid (fun (w' : World) (hE : Ext w w') => make_any w' (!decide (z < 0)) _ z.natAbs (e) (hN.ext hE) hm (by omega) (T.ext hE))
  rw [sg_flip] at HM
  obtain ⟨nb, hnb⟩ : ∃ nb, nb = decide (z < 0) := ⟨_, rfl⟩
  rw [← hnb] at HM ⊢
  clear hnb T
  go_enter Tryd.func22, Tryd.ntmps22
  go_wp2_with (go_at_call 30; refine (HM.out _ (((Ext.refl w).alloc _).alloc _)).mono ?_; rintro e w2 ⟨v2, rfl, n2, e2⟩; obtain ⟨b2, A2, l2, c2, ee2, rfl⟩ := n2.form; have Z2 : Zd w2 (w.heap.size + 1) := Zd.at e2 (by simp); have g0 := Z2.c0; have g1 := Z2.c1; have g2 := Z2.c2; have f0 := Z2.f 0; have f1 := Z2.f 1; have f2 := Z2.f 2)
  obtain ⟨k0, k1, k2, hD⟩ := Z2.done n2 ((((Ext.refl w).alloc _).alloc _).trans e2) (by omega)
  exact bodyPost_ret (by simp [results, Tryd.results22, go_sem, k0, k1, k2]) rfl hD

set_option maxHeartbeats 1000000 in
theorem shiftD_any (w : World) (v : Value) (z e k : Int) (h : Dn w v (dy z e)) (hc : Canon z e) (hm : Lt 400 z.natAbs) (he : -400000 ≤ e ∧ e ≤ 400000) (hk : -400000 ≤ k ∧ k ≤ 400000) (T : Tb w) : Calls Tryd.prog 24 #[v, .int .i64 k] w (RetD w (dy z (e + k))) := by
  obtain ⟨A, l, c, z', e', rfl, hN, hc', hd, hl, _⟩ := h.parts
  obtain ⟨rfl, rfl⟩ := hc.uniq hc' hd
  have HM := Lib.hid (fun (w' : World) (hE : Ext w w') => make_any w' (decide (z < 0)) _ z.natAbs (e + k) (hN.ext hE) hm (by omega) (T.ext hE))
  rw [sg_of] at HM
  obtain ⟨nb, hnb⟩ : ∃ nb, nb = decide (z < 0) := ⟨_, rfl⟩
  rw [← hnb] at HM ⊢
  clear hnb T
  go_enter Tryd.func24, Tryd.ntmps24
  go_wp2_with (go_at_call 30; refine (HM.out _ (((Ext.refl w).alloc _).alloc _)).mono ?_; rintro e w2 ⟨v2, rfl, n2, e2⟩; obtain ⟨b2, A2, l2, c2, ee2, rfl⟩ := n2.form; have Z2 : Zd w2 (w.heap.size + 1) := Zd.at e2 (by simp); have g0 := Z2.c0; have g1 := Z2.c1; have g2 := Z2.c2; have f0 := Z2.f 0; have f1 := Z2.f 1; have f2 := Z2.f 2)
  obtain ⟨k0, k1, k2, hD⟩ := Z2.done n2 ((((Ext.refl w).alloc _).alloc _).trans e2) (by omega)
  exact bodyPost_ret (by simp [results, Tryd.results24, go_sem, k0, k1, k2]) rfl hD

theorem Dn.rg {w : World} {v : Value} {d : Dyadic} {P Q : Nat} (h : Dn w v d) (r : Rg P Q d) (hb : P + Q ≤ 9600) : ∃ z e : Int, d = dy z e ∧ Canon z e ∧ Lt 400 z.natAbs ∧ -(P : Int) ≤ e ∧ e ≤ Q := by
  obtain ⟨M, z, e, rfl, h1, hc, rfl⟩ := h
  obtain ⟨a, b, c⟩ := r.canon hc
  exact ⟨z, e, rfl, hc, Lt.of_bits (Nat.le_trans (bl_of_lt c) (by omega)), a, b⟩
theorem ownD_any (w : World) (v : Value) (d : Dyadic) (P Q : Nat) (h : Dn w v d) (r : Rg P Q d) (hb : P + Q ≤ 9600) (T : Tb w) : Calls Tryd.prog 38 #[v] w (RetD w d) := by
  obtain ⟨z, e, rfl, hc, hl, h1, h2⟩ := h.rg r hb
  exact own_any w v z e h hc hl (by omega) T
theorem flipD_any (w : World) (v : Value) (d : Dyadic) (P Q : Nat) (h : Dn w v d) (r : Rg P Q d) (hb : P + Q ≤ 9600) (T : Tb w) : Calls Tryd.prog 22 #[v] w (RetD w (-d)) := by
  obtain ⟨z, e, rfl, hc, hl, h1, h2⟩ := h.rg r hb
  rw [dy_neg]
  exact flipD_main w v z e h hc hl (by omega) T

set_option maxHeartbeats 1000000 in
theorem ofD_any (w : World) (n : Int) (hn : -4611686018427387904 ≤ n ∧ n ≤ 4611686018427387904) (T : Tb w) : Calls Tryd.prog 28 #[.int .i64 n] w (RetD w (dy n 0)) := by
  have hlt : ∀ k : Int, k ≤ 4611686018427387904 → Lt 400 k.toNat := fun k hk => Lt.of_bits (Nat.le_trans (bl_of_lt (n := 63) (by omega)) (by omega))
  have E0 : Ext w (w.alloc (Obj.cells #[Value.bool false, Value.slice none 0 0, Value.int IntKind.i64 0] 24)) := (Ext.refl w).alloc _
  by_cases h0 : n < 0
  · have HM := Lib.hid (fun (w' : World) (v : Value) (hE : Ext w w') (hN : N w' v (-n).toNat) => make_any w' true v (-n).toNat 0 hN (hlt _ (by omega)) (by omega) (T.ext hE))
    rw [show sg true (-n).toNat = n by simp [sg]; omega] at HM
    clear T
    go_enter Tryd.func28, Tryd.ntmps28
    go_wp2_with fail
    refine (of_any _ _ (by omega)).mono ?_
    rintro _ w1 ⟨v1, rfl, n1, e1⟩
    have hmx : (max n (-n)).toNat = (-n).toNat := by omega
    rw [hmx] at n1
    clear hmx
    go_wp2_with fail
    refine (HM.out _ _ (E0.trans e1) n1).mono ?_
    rintro _ w2 ⟨v2, rfl, n2, e2⟩
    obtain ⟨b2, A2, l2, c2, ee2, rfl⟩ := n2.form
    have Z2 : Zd w2 w.heap.size := Zd.at (e1.trans e2) rfl
    have g0 := Z2.c0; have g1 := Z2.c1; have g2 := Z2.c2; have f0 := Z2.f 0; have f1 := Z2.f 1; have f2 := Z2.f 2
    go_wp2
    obtain ⟨k0, k1, k2, hD⟩ := Z2.done n2 (E0.trans (e1.trans e2)) (by omega)
    exact bodyPost_ret (by simp [results, Tryd.results28, go_sem, k0, k1, k2]) rfl hD
  · have HM := Lib.hid (fun (w' : World) (v : Value) (hE : Ext w w') (hN : N w' v n.toNat) => make_any w' false v n.toNat 0 hN (hlt _ (by omega)) (by omega) (T.ext hE))
    rw [show sg false n.toNat = n by simp [sg]; omega] at HM
    clear T
    go_enter Tryd.func28, Tryd.ntmps28
    go_wp2_with fail
    refine (of_any _ _ (by omega)).mono ?_
    rintro _ w1 ⟨v1, rfl, n1, e1⟩
    have hmx : (max n (-n)).toNat = n.toNat := by omega
    rw [hmx] at n1
    clear hmx
    go_wp2_with fail
    refine (HM.out _ _ (E0.trans e1) n1).mono ?_
    rintro _ w2 ⟨v2, rfl, n2, e2⟩
    obtain ⟨b2, A2, l2, c2, ee2, rfl⟩ := n2.form
    have Z2 : Zd w2 w.heap.size := Zd.at (e1.trans e2) rfl
    have g0 := Z2.c0; have g1 := Z2.c1; have g2 := Z2.c2; have f0 := Z2.f 0; have f1 := Z2.f 1; have f2 := Z2.f 2
    go_wp2
    obtain ⟨k0, k1, k2, hD⟩ := Z2.done n2 (E0.trans (e1.trans e2)) (by omega)
    exact bodyPost_ret (by simp [results, Tryd.results28, go_sem, k0, k1, k2]) rfl hD

theorem nlength_any (w : World) (A : Option Addr) (l c p : Nat) (nb : Bool) (e : Int) (hN : N w (.slice A l c) p) (hp : Lt 400 p) : Calls Tryd.prog 51 #[.agg #[.bool nb, .slice A l c, .int .i64 e]] w (RetE w (.int .i64 (bl p))) := by
  go_enter Tryd.func51, Tryd.ntmps51
  go_wp2_with fail
  refine (len_any _ _ p (hN.ext ((Ext.refl w).alloc _)) hp).mono ?_
  rintro _ _ ⟨rfl, rfl⟩
  go_wp2
  go_ret
  exact ⟨rfl, (Ext.refl w).alloc _⟩
set_option maxHeartbeats 1000000 in
theorem nheight_any (w : World) (A : Option Addr) (l c p : Nat) (nb : Bool) (e : Int) (hN : N w (.slice A l c) p) (hp : Lt 400 p) (he : -1000000 ≤ e ∧ e ≤ 1000000) : Calls Tryd.prog 68 #[.agg #[.bool nb, .slice A l c, .int .i64 e]] w (RetE w (.int .i64 (bl p + e))) := by
  have hbl := hp.bits
  go_enter Tryd.func68, Tryd.ntmps68
  go_wp2
  generalize hW0 : (w.alloc (.cells #[.bool nb, .slice A l c, .int .i64 e] 48)) = W0
  have B1 : Box W0 w.heap.size (.bool nb) (.slice A l c) (.int .i64 e) := by rw [← hW0]; exact Box.at (Ext.refl _) rfl
  have E0 : Ext w W0 := by rw [← hW0]; exact (Ext.refl w).alloc _
  obtain ⟨p0, p1, p2⟩ := id B1
  have M1 := hN.ext E0
  clear hW0 hN
  have hw1 : IntKind.i64.wrap ((bl p : Int) + e) = (bl p : Int) + e := IntWalk.i64_in _ (by omega)
  go_region_held3 (fun w' => w'.cell? ⟨w.heap.size, 0, none⟩ = some (.bool nb) ∧ w'.cell? ⟨w.heap.size, 1, none⟩ = some (.slice A l c) ∧ w'.cell? ⟨w.heap.size, 2, none⟩ = some (.int .i64 e))
    (first | (exact ⟨(B1.ext F1).c0, (B1.ext F1).c1, (B1.ext F1).c2⟩) | go_keep)
    (first | ((go_at_call 51); (refine (nlength_any _ _ _ _ p _ _ (M1.ext (Ext.refl W0).drew) hp).mono ?_); (rintro _ w1 ⟨rfl, e1⟩); (have F1 : Ext W0 w1 := (Ext.refl W0).drew.trans e1)))
  go_wp2
  go_ret
  exact ⟨rfl, E0.trans F1⟩
theorem nover_any (w : World) (A : Option Addr) (l c p K : Nat) (nb : Bool) (e f : Int) (hN : N w (.slice A l c) p) (hp : Lt 400 p) (hf : e - f = (K : Int)) (hK : K ≤ 20000) : Calls Tryd.prog 57 #[.agg #[.bool nb, .slice A l c, .int .i64 e], .int .i64 f] w (RetN w (p * 2 ^ K)) := by
  have HS : Hid (∀ (w' : World) (j : Int), Ext w w' → j = (K : Int) → Calls Tryd.prog 75 #[.slice A l c, .int .i64 j] w' (RetN w' (p * 2 ^ K))) := Lib.hid (fun w' j hE hj => by subst hj; exact shl_nat w' _ p K hK (hN.ext hE) hp)
  have HF := Lib.hid hf
  clear hN
  go_enter Tryd.func57, Tryd.ntmps57
  go_wp2_with fail
  refine (HS.out _ _ ((Ext.refl w).alloc _) (by have := HF.out; omega)).mono ?_
  rintro _ w1 ⟨v1, rfl, n1, e1⟩
  go_wp2
  go_ret
  exact ⟨v1, rfl, n1, ((Ext.refl w).alloc _).trans e1⟩

end Go.Proofs.YtjnnodbejnmkmaaDoor
