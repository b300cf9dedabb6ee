/- Walks of the document's answers on dyadic numbers: Sign, Flip, Shift, Of, Same. -/
import Derived.Test.YtjnnodbejnmkmaaDoorD1
namespace Go.Proofs.YtjnnodbejnmkmaaDoor
open Go.RowKit

/-- How x and y stand. -/
def cmpD (x y : Dyadic) : Int := if x < y then -1 else if x = y then 0 else 1
theorem cmpD_dy (x y e : Int) : cmpD (dy x e) (dy y e) = cmpI x y := by
  unfold cmpD cmpI
  by_cases h : x < y
  · rw [if_pos (dy_lt.2 h), if_pos h]
  · rw [if_neg (fun k => h (dy_lt.1 k)), if_neg h]
    by_cases h2 : x = y
    · rw [if_pos (by rw [h2]), if_pos h2]
    · rw [if_neg (fun k => h2 (dy_inj k)), if_neg h2]
theorem cmpD_zero (z e : Int) : cmpD (dy z e) 0 = cmpI z 0 := by
  rw [← dy_zero e]; exact cmpD_dy z 0 e
theorem Dn.parts {w : World} {v : Value} {d : Dyadic} (h : Dn w v d) : ∃ (A : Option Addr) (l c : Nat) (z e : Int), v = .agg #[.bool (decide (z < 0)), .slice A l c, .int .i64 e] ∧ N w (.slice A l c) z.natAbs ∧ Canon z e ∧ d = dy z e ∧ (l = 0 ↔ z = 0) ∧ l ≤ maxLen := by
  obtain ⟨M, z, e, rfl, ⟨xs, hr, n, ev⟩, c, rfl⟩ := h
  obtain ⟨A, cc, rfl, h1, h2, h3⟩ := id hr
  refine ⟨A, xs.length, cc, z, e, rfl, ⟨xs, hr, n, ev⟩, c, rfl, ?_, by omega⟩
  rw [List.length_eq_zero_iff]
  clear hr h3
  constructor
  · rintro rfl; simp [val] at ev; omega
  · rintro rfl
    rcases n.2 with e0 | e0
    · exact e0
    · by_cases hx : xs = []
      · exact hx
      · exfalso
        have := n.pos hx
        have := bp_pos (xs.length - 1)
        simp at ev; omega
theorem Canon.neg {z e : Int} (h : Canon z e) : Canon (-z) e := ⟨h.out.elim (fun k => .inl ⟨by omega, k.2⟩) (fun k => .inr (by omega))⟩
theorem natAbs_neg (z : Int) : (-z).natAbs = z.natAbs := by omega

theorem rsign_any (w : World) (v : Value) (d : Dyadic) (h : Dn w v d) : Calls Tryd.prog 21 #[v] w (RetE w (.int .i64 (cmpD d 0))) := by
  obtain ⟨A, l, c, z, e, rfl, hN, hc, rfl, hl, _⟩ := h.parts
  rw [cmpD_zero]
  rcases Int.lt_trichotomy z 0 with h0 | h0 | h0
  · rw [cmpI_lt h0, decide_eq_true h0]
    have hl0 : ((l : Int) == 0) = false := beq_eq_false_iff_ne.2 (by omega)
    go_enter Tryd.func21, Tryd.ntmps21
    go_wp2
    go_ret
    exact ⟨rfl, (Ext.refl w).alloc _⟩
  · subst h0
    obtain rfl : l = 0 := hl.2 rfl
    go_enter Tryd.func21, Tryd.ntmps21
    go_wp2
    go_ret
    exact ⟨rfl, (Ext.refl w).alloc _⟩
  · rw [cmpI_gt h0, decide_eq_false (by omega)]
    have hl0 : ((l : Int) == 0) = false := beq_eq_false_iff_ne.2 (by omega)
    go_enter Tryd.func21, Tryd.ntmps21
    go_wp2
    go_ret
    exact ⟨rfl, (Ext.refl w).alloc _⟩

theorem rflip_any (w : World) (v : Value) (d : Dyadic) (h : Dn w v d) : Calls Tryd.prog 23 #[v] w (RetD w (-d)) := by
  obtain ⟨A, l, c, z, e, rfl, hN, hc, rfl, hl, _⟩ := h.parts
  rw [dy_neg]
  rcases Int.lt_trichotomy z 0 with h0 | h0 | h0
  · rw [decide_eq_true h0]
    have hl0 : (0 : Int) < (l : Int) := by omega
    have hl1 : 0 < l := by omega
    go_enter Tryd.func23, Tryd.ntmps23
    go_wp2
    refine bodyPost_ret (v := .agg #[.bool false, .slice A l c, .int .i64 e]) (by simp [results, Tryd.results23, go_sem]) rfl ?_
    exact ⟨_, rfl, ⟨_, -z, e, by rw [decide_eq_false (by omega)], by rw [natAbs_neg]; exact hN.ext (((Ext.refl w).alloc _).alloc _), hc.neg, by first | rfl | (rw [h0]; rfl)⟩, ((Ext.refl w).alloc _).alloc _⟩
  · obtain rfl : l = 0 := hl.2 h0
    rw [decide_eq_false (show ¬ z < 0 by omega)] -- subst
    go_enter Tryd.func23, Tryd.ntmps23
    go_wp2
    refine bodyPost_ret (v := .agg #[.bool false, .slice A 0 c, .int .i64 e]) (by simp [results, Tryd.results23, go_sem]) rfl ?_
    exact ⟨_, rfl, ⟨_, -z, e, by rw [decide_eq_false (by omega)], by rw [natAbs_neg]; exact hN.ext (((Ext.refl w).alloc _).alloc _), hc.neg, by first | rfl | (rw [h0]; rfl)⟩, ((Ext.refl w).alloc _).alloc _⟩
  · rw [decide_eq_false (show ¬ z < 0 by omega)]
    have hl0 : (0 : Int) < (l : Int) := by omega
    have hl1 : 0 < l := by omega
    go_enter Tryd.func23, Tryd.ntmps23
    go_wp2
    refine bodyPost_ret (v := .agg #[.bool true, .slice A l c, .int .i64 e]) (by simp [results, Tryd.results23, go_sem]) rfl ?_
    exact ⟨_, rfl, ⟨_, -z, e, by rw [decide_eq_true (by omega)], by rw [natAbs_neg]; exact hN.ext (((Ext.refl w).alloc _).alloc _), hc.neg, by first | rfl | (rw [h0]; rfl)⟩, ((Ext.refl w).alloc _).alloc _⟩

theorem sg_of (z : Int) : sg (decide (z < 0)) z.natAbs = z := by
  by_cases h : z < 0
  · rw [decide_eq_true h]; simp [sg]; omega
  · rw [decide_eq_false h]; simp [sg]; omega
/-- A struct that came back is laid into the result's variable. -/
theorem Zd.done {w w2 : World} {g : Nat} {x y z : Value} {d : Dyadic} (h : Zd w2 g) (n : Dn w2 (.agg #[x, y, z]) d) (E : Ext w w2) (hg : w.heap.size ≤ g) :
    let W := ((w2.setCell ⟨g, 0, none⟩ x).setCell ⟨g, 1, none⟩ y).setCell ⟨g, 2, none⟩ z
    W.cell? ⟨g, 0, none⟩ = some x ∧ W.cell? ⟨g, 1, none⟩ = some y ∧ W.cell? ⟨g, 2, none⟩ = some z ∧ RetD w d (.returned (.agg #[x, y, z])) W := by
  obtain ⟨k0, k1, k2⟩ := h.read x y z
  refine ⟨k0, k1, k2, _, rfl, ?_, E.set3 hg⟩
  obtain ⟨A, l, c, zz, e, hv, hN, hc, rfl, _⟩ := n.parts
  injection hv with hv
  simp only [Array.mk.injEq, List.cons.injEq, and_true] at hv
  obtain ⟨rfl, rfl, rfl⟩ := hv
  exact ⟨_, zz, e, rfl, h.nat hN _ _ _, hc, rfl⟩
theorem Zd.at {w w' : World} {t : TypeId} {g : Nat} (E : Ext (w.alloc (.cells #[.bool false, .slice none 0 0, .int .i64 0] t)) w') (hg : w.heap.size = g) : Zd w' g := by
  subst hg; exact (Zd.new w t).ext E
theorem Dn.form {w : World} {v : Value} {d : Dyadic} (h : Dn w v d) : ∃ (b : Bool) (A : Option Addr) (l c : Nat) (e : Int), v = .agg #[.bool b, .slice A l c, .int .i64 e] := by
  obtain ⟨A, l, c, z, e, rfl, _⟩ := h.parts
  exact ⟨_, A, l, c, e, rfl⟩

theorem rshift_any (w : World) (v : Value) (z e k : Int) (h : Dn w v (dy z e)) (hc : Canon z e) (hm : Lt 400 z.natAbs) (he : -400000 ≤ e ∧ e ≤ 400000) (hk : -400000 ≤ k ∧ k ≤ 400000) : Calls Tryd.prog 25 #[v, .int .i64 k] w (RetD w (dy z (e + k))) := by
  obtain ⟨A, l, c, z', e', rfl, hN, hc', hd, hl, _⟩ := h.parts
  obtain ⟨rfl, rfl⟩ := hc.uniq hc' hd
  have HM := Lib.hid (fun (w' : World) (hE : Ext w w') => rmake_any w' (decide (z < 0)) _ z.natAbs (e + k) (hN.ext hE) hm (by omega))
  rw [sg_of] at HM
  obtain ⟨nb, hnb⟩ : ∃ nb, nb = decide (z < 0) := ⟨_, rfl⟩
  rw [← hnb] at HM ⊢
  clear hnb
  go_enter Tryd.func25, Tryd.ntmps25
  go_wp2_with (go_at_call 31; refine (HM.out _ (((Ext.refl w).alloc _).alloc _)).mono ?_; rintro e w2 ⟨v2, rfl, n2, e2⟩; obtain ⟨b2, A2, l2, c2, ee2, rfl⟩ := n2.form; have Z2 : Zd w2 (w.heap.size + 1) := Zd.at e2 (by simp); have g0 := Z2.c0; have g1 := Z2.c1; have g2 := Z2.c2; have f0 := Z2.f 0; have f1 := Z2.f 1; have f2 := Z2.f 2)
  obtain ⟨k0, k1, k2, hD⟩ := Z2.done n2 ((((Ext.refl w).alloc _).alloc _).trans e2) (by omega)
  exact bodyPost_ret (by simp [results, Tryd.results25, go_sem, k0, k1, k2]) rfl hD

end Go.Proofs.YtjnnodbejnmkmaaDoor
