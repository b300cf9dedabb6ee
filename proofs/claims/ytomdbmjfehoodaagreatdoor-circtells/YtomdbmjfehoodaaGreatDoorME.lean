/- Walks of package dya. -/
import Derived.Test.YtomdbmjfehoodaaGreatDoorMD
import Derived.Test.YtomdbmjfehoodaaGreatDoorMW
import Derived.Test.YtomdbmjfehoodaaGreatDoorTab
import Derived.Deep.Cut
set_option maxRecDepth 8000
/- Walks of package dya: the place of a natural's lowest bit, and Make. -/
namespace Go.Proofs.YtomdbmjfehoodaaGreatDoor
open Go.RowKit

theorem low_form {xs : List Int} {m k n : Nat} (nf : NF xs) (ev : val xs = (m : Int)) (hk : k < xs.length) (hz : ∀ j, j < k → nth xs j = 0) (hx : nth xs k = (n : Int)) (hn : n ≠ 0) :
    Even m (24 * k + Lib.ctz 64 n) ∧ m / 2 ^ (24 * k + Lib.ctz 64 n) % 2 ≠ 0 ∧ Lib.ctz 64 n < 24 := by
  have hb := nf.1.at k
  rw [hx] at hb
  obtain ⟨q, hq, _⟩ := Lib.ctzFrom_spec 64 n (by omega) (by omega)
  have e : Lib.ctz 64 n = Lib.ctzFrom 64 n := by simp [Lib.ctz, hn]
  rw [e]
  generalize Lib.ctzFrom 64 n = t at hq ⊢
  have ht : t < 24 := by
    rcases Nat.lt_or_ge t 24 with h | h
    · exact h
    · have h1 := Nat.pow_le_pow_right (show 0 < 2 by omega) h
      have h2 : 2 ^ t ≤ 2 ^ t * (2 * q + 1) := Nat.le_mul_of_pos_right _ (by omega)
      omega
  have hs := val_split (a := xs) k
  have hS : S (nth xs) k = 0 := by rw [S_congr k (k := fun _ => 0) hz]; exact S_zero k
  have hd := val_drop hk
  obtain ⟨v, hv⟩ := Int.eq_ofNat_of_zero_le (val_bounds (nf.1.drop (k + 1))).1
  rw [hS, hd, hx, hv, ev, bp_two] at hs
  have hm : m = 2 ^ (24 * k) * (n + 16777216 * v) := by
    have : (m : Int) = ((2 ^ (24 * k) * (n + 16777216 * v) : Nat) : Int) := by rw [hs, Int.natCast_mul, Int.natCast_add, Int.natCast_mul, Int.zero_add]; rfl
    exact_mod_cast this
  have hp : 16777216 = 2 ^ t * (2 * 2 ^ (23 - t)) := by
    rw [← Nat.pow_succ', ← Nat.pow_add, show t + (23 - t + 1) = 24 by omega]
  have hm2 : m = (2 * (q + 2 ^ (23 - t) * v) + 1) * 2 ^ (24 * k + t) := by
    rw [hm, hq, hp, Nat.pow_add]
    generalize 2 ^ t = a
    generalize 2 ^ (23 - t) = b
    generalize 2 ^ (24 * k) = c
    grind
  refine ⟨⟨_, hm2⟩, ?_, ht⟩
  rw [hm2, Nat.mul_div_cancel _ (Nat.two_pow_pos _)]
  omega

/-- What is told of the lowest bit of m: its place is k. -/
structure Low (m k : Nat) : Prop where
  zero : m = 0 → k = 0
  even : m ≠ 0 → Even m k
  odd : m ≠ 0 → m / 2 ^ k % 2 ≠ 0
def RetLow (w : World) (m : Nat) (e : Ending) (w' : World) : Prop := ∃ k : Nat, e = .returned (.int .i64 k) ∧ w = w' ∧ Low m k

theorem lowest_any (w : World) (v : Value) (m : Nat) (h : N w v m) (hm : Lt 400 m) (T : Tb w) : Calls Tryz.prog 92 #[v] w (RetLow w m) := by
  obtain ⟨a, ra, na, ea⟩ := h
  have la : a.length ≤ 400 := N.len hm na ea
  obtain ⟨A, c, rfl, h1, h2, h3⟩ := id ra
  have H3 := Lib.hid h3
  have NA := Lib.hid na
  have EA := Lib.hid ea
  have HT := Lib.hid T
  clear h3 na ea ra hm T
  go_enter Tryz.func92, Tryz.ntmps92
  go_wp2
  go_loop [7] (fun i => ∃ k : Nat, k ≤ a.length ∧ i = .int .i64 (k : Int) ∧ ∀ j, j < k → nth a j = 0) (fun i => (a.length - (intOf i)).toNat)
  case atStart => exact ⟨0, by omega, rfl, fun j hj => by omega⟩
  case round =>
    obtain ⟨k, hk, rfl, hz⟩ := hrel
    have HZ := Lib.hid hz
    clear hz
    by_cases hkl : k < a.length
    · obtain ⟨b1, off1, rfl, hb1, hc1⟩ := H3.out (by omega)
      have hcell := hc1 k hkl
      have hx := NA.out.1.at k
      obtain ⟨n, hn⟩ := Int.eq_ofNat_of_zero_le hx.1
      have HN := Lib.hid hn
      rw [hn] at hcell hx
      clear hn hc1
      by_cases hn0 : n = 0
      · subst hn0
        go_wp2
        go_round
        case rel => exact ⟨k + 1, by omega, by go_num, fun j hj => by
          rcases Nat.lt_or_ge j k with h | h
          · exact HZ.out j h
          · obtain rfl : j = k := by omega
            exact HN.out⟩
        case measure => simp [intOf]; omega
      · have hn1 : ((n : Int) == 0) = false := beq_eq_false_iff_ne.2 (by omega)
        have HF := Lib.hid (low_form NA.out EA.out hkl HZ.out HN.out hn0)
        have hlt := HF.out.2.2
        go_wp2_with fail
        refine (tz_any _ n hn0 (by omega) HT.out).mono ?_
        rintro _ _ ⟨rfl, rfl⟩
        go_wp2
        go_ret
        exact ⟨24 * k + Lib.ctz 64 n, by go_num, rfl, fun e => absurd (show m / 2 ^ _ % 2 = 0 by rw [e, Nat.zero_div]) HF.out.2.1, fun _ => HF.out.1, fun _ => HF.out.2.1⟩
    · have hka : k = a.length := by omega
      have hm0 : m = 0 := by
        have e := EA.out
        rw [val_S, S_congr _ (k := fun _ => 0) (fun j hj => HZ.out j (by omega)), S_zero] at e
        omega
      go_wp2
      go_ret
      exact ⟨0, rfl, rfl, fun _ => rfl, fun e => (e rfl).elim, fun e => (e rfl).elim⟩

theorem Low.form {m k : Nat} {e : Int} {neg : Bool} (h : Low m k) (hm : m ≠ 0) : m / 2 ^ k ≠ 0 ∧ k < bl m ∧ Canon (sg neg (m / 2 ^ k)) (e + k) ∧ dy (sg neg m) e = dy (sg neg (m / 2 ^ k)) (e + k) := by
  obtain ⟨h1, h2, _⟩ := (h.even hm).div hm
  exact ⟨h1, h2, (h.even hm).form hm (h.odd hm)⟩

set_option maxHeartbeats 1000000 in
theorem make_any (w : World) (neg : Bool) (v : Value) (m : Nat) (e : Int) (h : N w v m) (hm : Lt 400 m) (he : -1000000 ≤ e ∧ e ≤ 1000000) (T : Tb w) : Calls Tryz.prog 57 #[.bool neg, v, .int .i64 e] w (RetD w (dy (sg neg m) e)) := by
  have E0 : Ext w (w.alloc (Obj.cells #[Value.bool false, Value.slice none 0 0, Value.int IntKind.i64 0] 26)) := (Ext.refl w).alloc _
  have HL := Lib.hid (lowest_any _ v m (h.ext E0) hm (T.ext E0))
  have hN := h.ext E0
  have hbl := hm.bits
  clear T
  go_enter Tryz.func57, Tryz.ntmps57
  go_wp2_with fail
  refine HL.out.mono ?_
  rintro _ _ ⟨k, rfl, rfl, hk⟩
  by_cases h0 : m = 0
  · obtain rfl : k = 0 := hk.zero h0
    subst h0
    go_wp2_with fail
    refine (shr_nat _ _ 0 0 (by omega) hN hm).mono ?_
    rintro _ w2 ⟨v2, rfl, n2, e2⟩
    rw [Nat.zero_div] at n2
    obtain ⟨A, c, rfl, _⟩ := n2.form
    have Z2 := (Zd.new w _).ext e2
    have g0 := Z2.c0; have g1 := Z2.c1; have g2 := Z2.c2; have f0 := Z2.f 0; have f1 := Z2.f 1; have f2 := Z2.f 2
    go_wp2
    obtain ⟨k0, k1, k2, hD⟩ := Z2.done (Dn.zero w2) (E0.trans e2) (Nat.le_refl _)
    rw [sg_zero, dy_zero]
    exact bodyPost_ret (by simp [results, Tryz.results57, go_sem, k0, k1, k2]) rfl hD
  · obtain ⟨hq, hkb, hc, hd⟩ := hk.form (e := e) (neg := neg) h0
    have HC := Lib.hid hc
    have HD := Lib.hid hd
    clear hd hc
    go_wp2_with fail
    refine (shr_nat _ _ m k (by omega) hN hm).mono ?_
    rintro _ w2 ⟨v2, rfl, n2, e2⟩
    obtain ⟨b2, off2, len2, c2, x', rfl, hlen, _, _, _, _⟩ := n2.low hq
    have hl0 : ((len2 : Int) == 0) = false := beq_eq_false_iff_ne.2 (by omega)
    have Z2 := (Zd.new w _).ext e2
    have g0 := Z2.c0; have g1 := Z2.c1; have g2 := Z2.c2; have f0 := Z2.f 0; have f1 := Z2.f 1; have f2 := Z2.f 2
    go_wp2
    obtain ⟨k0, k1, k2, hD⟩ := Z2.done (x := .bool neg) (y := Value.slice (some { block := b2, off := off2 }) len2 c2) (z := .int .i64 (e + k)) ⟨_, sg neg (m / 2 ^ k), e + k, by rw [sg_neg hq], by rw [sg_abs]; exact n2, HC.out, rfl⟩ (E0.trans e2) (Nat.le_refl _)
    rw [← HD.out] at hD
    exact bodyPost_ret (by simp [results, Tryz.results57, go_sem, k0, k1, k2]) rfl hD

end Go.Proofs.YtomdbmjfehoodaaGreatDoor

/- Walks of package dya: numbers' methods, Sign, Flip, Shift, Mul, Of. -/
namespace Go.Proofs.YtomdbmjfehoodaaGreatDoor
open Go.RowKit

theorem nsign_any (w : World) (v : Value) (d : Dyadic) (h : Dn w v d) : Calls Tryz.prog 80 #[v] w (RetE w (.int .i64 (cmpD d 0))) := by
  obtain ⟨A, l, c, z, e, rfl, hN, hc, rfl, hl, _⟩ := h.parts
  rw [cmpD_zero]
  rcases Int.lt_trichotomy z 0 with h0 | h0 | h0
  · rw [cmpI_lt h0, decide_eq_true h0]
    have hl0 : ((l : Int) == 0) = false := beq_eq_false_iff_ne.2 (by omega)
    go_enter Tryz.func80, Tryz.ntmps80
    go_wp2
    go_ret
    exact ⟨rfl, (Ext.refl w).alloc _⟩
  · subst h0
    obtain rfl : l = 0 := hl.2 rfl
    go_enter Tryz.func80, Tryz.ntmps80
    go_wp2
    go_ret
    exact ⟨rfl, (Ext.refl w).alloc _⟩
  · rw [cmpI_gt h0, decide_eq_false (by omega)]
    have hl0 : ((l : Int) == 0) = false := beq_eq_false_iff_ne.2 (by omega)
    go_enter Tryz.func80, Tryz.ntmps80
    go_wp2
    go_ret
    exact ⟨rfl, (Ext.refl w).alloc _⟩

theorem signD_any (w : World) (v : Value) (d : Dyadic) (h : Dn w v d) : Calls Tryz.prog 95 #[v] w (RetE w (.int .i64 (cmpD d 0))) := by
  have HS := Lib.hid (fun (w' : World) (hE : Ext w w') => nsign_any w' v d (h.ext hE))
  obtain ⟨b, A, l, c, e, rfl⟩ := h.form
  clear h
  go_enter Tryz.func95, Tryz.ntmps95
  go_wp2_with fail
  refine (HS.out _ ((Ext.refl w).alloc _)).mono ?_
  rintro _ w1 ⟨rfl, e1⟩
  go_wp2
  go_ret
  exact ⟨rfl, ((Ext.refl w).alloc _).trans e1⟩

theorem sg_flip (z : Int) : sg (!decide (z < 0)) z.natAbs = -z := by
  by_cases h : z < 0
  · rw [decide_eq_true h]; simp [sg]; omega
  · rw [decide_eq_false h]; simp [sg]; omega

set_option maxHeartbeats 1000000 in
theorem own_any (w : World) (v : Value) (z e : Int) (h : Dn w v (dy z e)) (hc : Canon z e) (hm : Lt 400 z.natAbs) (he : -400000 ≤ e ∧ e ≤ 400000) (T : Tb w) : Calls Tryz.prog 105 #[v] w (RetD w (dy z e)) := by
  obtain ⟨A, l, c, z', e', rfl, hN, hc', hd, hl, _⟩ := h.parts
  obtain ⟨rfl, rfl⟩ := hc.uniq hc' hd
  have HM := Lib.hid (fun (w' : World) (hE : Ext w w') => make_any w' (decide (z < 0)) _ z.natAbs (e) (hN.ext hE) hm (by omega) (T.ext hE))
  rw [sg_of] at HM
  obtain ⟨nb, hnb⟩ : ∃ nb, nb = decide (z < 0) := ⟨_, rfl⟩
  rw [← hnb] at HM ⊢
  clear hnb T
  go_enter Tryz.func105, Tryz.ntmps105
  go_wp2_with (go_at_call 57; refine (HM.out _ (((Ext.refl w).alloc _).alloc _)).mono ?_; rintro e w2 ⟨v2, rfl, n2, e2⟩; obtain ⟨b2, A2, l2, c2, ee2, rfl⟩ := n2.form; have Z2 : Zd w2 (w.heap.size + 1) := Zd.at e2 (by simp); have g0 := Z2.c0; have g1 := Z2.c1; have g2 := Z2.c2; have f0 := Z2.f 0; have f1 := Z2.f 1; have f2 := Z2.f 2)
  obtain ⟨k0, k1, k2, hD⟩ := Z2.done n2 ((((Ext.refl w).alloc _).alloc _).trans e2) (by omega)
  exact bodyPost_ret (by simp [results, Tryz.results105, go_sem, k0, k1, k2]) rfl hD

set_option maxHeartbeats 1000000 in
theorem flipD_main (w : World) (v : Value) (z e : Int) (h : Dn w v (dy z e)) (hc : Canon z e) (hm : Lt 400 z.natAbs) (he : -400000 ≤ e ∧ e ≤ 400000) (T : Tb w) : Calls Tryz.prog 68 #[v] w (RetD w (dy (-z) e)) := by
  obtain ⟨A, l, c, z', e', rfl, hN, hc', hd, hl, _⟩ := h.parts
  obtain ⟨rfl, rfl⟩ := hc.uniq hc' hd
  have HM := Lib.hid (fun (w' : World) (hE : Ext w w') => make_any w' (!decide (z < 0)) _ z.natAbs (e) (hN.ext hE) hm (by omega) (T.ext hE))
  rw [sg_flip] at HM
  obtain ⟨nb, hnb⟩ : ∃ nb, nb = decide (z < 0) := ⟨_, rfl⟩
  rw [← hnb] at HM ⊢
  clear hnb T
  go_enter Tryz.func68, Tryz.ntmps68
  go_wp2_with (go_at_call 57; refine (HM.out _ (((Ext.refl w).alloc _).alloc _)).mono ?_; rintro e w2 ⟨v2, rfl, n2, e2⟩; obtain ⟨b2, A2, l2, c2, ee2, rfl⟩ := n2.form; have Z2 : Zd w2 (w.heap.size + 1) := Zd.at e2 (by simp); have g0 := Z2.c0; have g1 := Z2.c1; have g2 := Z2.c2; have f0 := Z2.f 0; have f1 := Z2.f 1; have f2 := Z2.f 2)
  obtain ⟨k0, k1, k2, hD⟩ := Z2.done n2 ((((Ext.refl w).alloc _).alloc _).trans e2) (by omega)
  exact bodyPost_ret (by simp [results, Tryz.results68, go_sem, k0, k1, k2]) rfl hD

set_option maxHeartbeats 1000000 in
theorem shiftD_any (w : World) (v : Value) (z e k : Int) (h : Dn w v (dy z e)) (hc : Canon z e) (hm : Lt 400 z.natAbs) (he : -400000 ≤ e ∧ e ≤ 400000) (hk : -400000 ≤ k ∧ k ≤ 400000) (T : Tb w) : Calls Tryz.prog 47 #[v, .int .i64 k] w (RetD w (dy z (e + k))) := by
  obtain ⟨A, l, c, z', e', rfl, hN, hc', hd, hl, _⟩ := h.parts
  obtain ⟨rfl, rfl⟩ := hc.uniq hc' hd
  have HM := Lib.hid (fun (w' : World) (hE : Ext w w') => make_any w' (decide (z < 0)) _ z.natAbs (e + k) (hN.ext hE) hm (by omega) (T.ext hE))
  rw [sg_of] at HM
  obtain ⟨nb, hnb⟩ : ∃ nb, nb = decide (z < 0) := ⟨_, rfl⟩
  rw [← hnb] at HM ⊢
  clear hnb T
  go_enter Tryz.func47, Tryz.ntmps47
  go_wp2_with (go_at_call 57; refine (HM.out _ (((Ext.refl w).alloc _).alloc _)).mono ?_; rintro e w2 ⟨v2, rfl, n2, e2⟩; obtain ⟨b2, A2, l2, c2, ee2, rfl⟩ := n2.form; have Z2 : Zd w2 (w.heap.size + 1) := Zd.at e2 (by simp); have g0 := Z2.c0; have g1 := Z2.c1; have g2 := Z2.c2; have f0 := Z2.f 0; have f1 := Z2.f 1; have f2 := Z2.f 2)
  obtain ⟨k0, k1, k2, hD⟩ := Z2.done n2 ((((Ext.refl w).alloc _).alloc _).trans e2) (by omega)
  exact bodyPost_ret (by simp [results, Tryz.results47, go_sem, k0, k1, k2]) rfl hD

theorem Dn.rg {w : World} {v : Value} {d : Dyadic} {P Q : Nat} (h : Dn w v d) (r : Rg P Q d) (hb : P + Q ≤ 9600) : ∃ z e : Int, d = dy z e ∧ Canon z e ∧ Lt 400 z.natAbs ∧ -(P : Int) ≤ e ∧ e ≤ Q := by
  obtain ⟨M, z, e, rfl, h1, hc, rfl⟩ := h
  obtain ⟨a, b, c⟩ := r.canon hc
  exact ⟨z, e, rfl, hc, Lt.of_bits (Nat.le_trans (bl_of_lt c) (by omega)), a, b⟩
theorem ownD_any (w : World) (v : Value) (d : Dyadic) (P Q : Nat) (h : Dn w v d) (r : Rg P Q d) (hb : P + Q ≤ 9600) (T : Tb w) : Calls Tryz.prog 105 #[v] w (RetD w d) := by
  obtain ⟨z, e, rfl, hc, hl, h1, h2⟩ := h.rg r hb
  exact own_any w v z e h hc hl (by omega) T
theorem flipD_any (w : World) (v : Value) (d : Dyadic) (P Q : Nat) (h : Dn w v d) (r : Rg P Q d) (hb : P + Q ≤ 9600) (T : Tb w) : Calls Tryz.prog 68 #[v] w (RetD w (-d)) := by
  obtain ⟨z, e, rfl, hc, hl, h1, h2⟩ := h.rg r hb
  rw [dy_neg]
  exact flipD_main w v z e h hc hl (by omega) T

set_option maxHeartbeats 1000000 in
theorem ofD_any (w : World) (n : Int) (hn : -4611686018427387904 ≤ n ∧ n ≤ 4611686018427387904) (T : Tb w) : Calls Tryz.prog 48 #[.int .i64 n] w (RetD w (dy n 0)) := by
  have hlt : ∀ k : Int, k ≤ 4611686018427387904 → Lt 400 k.toNat := fun k hk => Lt.of_bits (Nat.le_trans (bl_of_lt (n := 63) (by omega)) (by omega))
  have E0 : Ext w (w.alloc (Obj.cells #[Value.bool false, Value.slice none 0 0, Value.int IntKind.i64 0] 26)) := (Ext.refl w).alloc _
  by_cases h0 : n < 0
  · have HM := Lib.hid (fun (w' : World) (v : Value) (hE : Ext w w') (hN : N w' v (-n).toNat) => make_any w' true v (-n).toNat 0 hN (hlt _ (by omega)) (by omega) (T.ext hE))
    rw [show sg true (-n).toNat = n by simp [sg]; omega] at HM
    clear T
    go_enter Tryz.func48, Tryz.ntmps48
    go_wp2_with fail
    refine (of_any _ _ (by omega)).mono ?_
    rintro _ w1 ⟨v1, rfl, n1, e1⟩
    have hmx : (max n (-n)).toNat = (-n).toNat := by omega
    rw [hmx] at n1
    clear hmx
    go_wp2_with fail
    refine (HM.out _ _ (E0.trans e1) n1).mono ?_
    rintro _ w2 ⟨v2, rfl, n2, e2⟩
    obtain ⟨b2, A2, l2, c2, ee2, rfl⟩ := n2.form
    have Z2 : Zd w2 w.heap.size := Zd.at (e1.trans e2) rfl
    have g0 := Z2.c0; have g1 := Z2.c1; have g2 := Z2.c2; have f0 := Z2.f 0; have f1 := Z2.f 1; have f2 := Z2.f 2
    go_wp2
    obtain ⟨k0, k1, k2, hD⟩ := Z2.done n2 (E0.trans (e1.trans e2)) (by omega)
    exact bodyPost_ret (by simp [results, Tryz.results48, go_sem, k0, k1, k2]) rfl hD
  · have HM := Lib.hid (fun (w' : World) (v : Value) (hE : Ext w w') (hN : N w' v n.toNat) => make_any w' false v n.toNat 0 hN (hlt _ (by omega)) (by omega) (T.ext hE))
    rw [show sg false n.toNat = n by simp [sg]; omega] at HM
    clear T
    go_enter Tryz.func48, Tryz.ntmps48
    go_wp2_with fail
    refine (of_any _ _ (by omega)).mono ?_
    rintro _ w1 ⟨v1, rfl, n1, e1⟩
    have hmx : (max n (-n)).toNat = n.toNat := by omega
    rw [hmx] at n1
    clear hmx
    go_wp2_with fail
    refine (HM.out _ _ (E0.trans e1) n1).mono ?_
    rintro _ w2 ⟨v2, rfl, n2, e2⟩
    obtain ⟨b2, A2, l2, c2, ee2, rfl⟩ := n2.form
    have Z2 : Zd w2 w.heap.size := Zd.at (e1.trans e2) rfl
    have g0 := Z2.c0; have g1 := Z2.c1; have g2 := Z2.c2; have f0 := Z2.f 0; have f1 := Z2.f 1; have f2 := Z2.f 2
    go_wp2
    obtain ⟨k0, k1, k2, hD⟩ := Z2.done n2 (E0.trans (e1.trans e2)) (by omega)
    exact bodyPost_ret (by simp [results, Tryz.results48, go_sem, k0, k1, k2]) rfl hD

theorem nlength_any (w : World) (A : Option Addr) (l c p : Nat) (nb : Bool) (e : Int) (hN : N w (.slice A l c) p) (hp : Lt 400 p) : Calls Tryz.prog 125 #[.agg #[.bool nb, .slice A l c, .int .i64 e]] w (RetE w (.int .i64 (bl p))) := by
  go_enter Tryz.func125, Tryz.ntmps125
  go_wp2_with fail
  refine (len_any _ _ p (hN.ext ((Ext.refl w).alloc _)) hp).mono ?_
  rintro _ _ ⟨rfl, rfl⟩
  go_wp2
  go_ret
  exact ⟨rfl, (Ext.refl w).alloc _⟩
set_option maxHeartbeats 1000000 in
theorem nheight_any (w : World) (A : Option Addr) (l c p : Nat) (nb : Bool) (e : Int) (hN : N w (.slice A l c) p) (hp : Lt 400 p) (he : -1000000 ≤ e ∧ e ≤ 1000000) : Calls Tryz.prog 101 #[.agg #[.bool nb, .slice A l c, .int .i64 e]] w (RetE w (.int .i64 (bl p + e))) := by
  have hbl := hp.bits
  go_enter Tryz.func101, Tryz.ntmps101
  go_wp2
  generalize hW0 : (w.alloc (.cells #[.bool nb, .slice A l c, .int .i64 e] 85)) = W0
  have B1 : Box W0 w.heap.size (.bool nb) (.slice A l c) (.int .i64 e) := by rw [← hW0]; exact Box.at (Ext.refl _) rfl
  have E0 : Ext w W0 := by rw [← hW0]; exact (Ext.refl w).alloc _
  obtain ⟨p0, p1, p2⟩ := id B1
  have M1 := hN.ext E0
  clear hW0 hN
  have hw1 : IntKind.i64.wrap ((bl p : Int) + e) = (bl p : Int) + e := IntWalk.i64_in _ (by omega)
  go_region_held3 (fun w' => w'.cell? ⟨w.heap.size, 0, none⟩ = some (.bool nb) ∧ w'.cell? ⟨w.heap.size, 1, none⟩ = some (.slice A l c) ∧ w'.cell? ⟨w.heap.size, 2, none⟩ = some (.int .i64 e))
    (first | (exact ⟨(B1.ext F1).c0, (B1.ext F1).c1, (B1.ext F1).c2⟩) | go_keep)
    (first | ((go_at_call 125); (refine (nlength_any _ _ _ _ p _ _ (M1.ext (Ext.refl W0).drew) hp).mono ?_); (rintro _ w1 ⟨rfl, e1⟩); (have F1 : Ext W0 w1 := (Ext.refl W0).drew.trans e1)))
  go_wp2
  go_ret
  exact ⟨rfl, E0.trans F1⟩
theorem nover_any (w : World) (A : Option Addr) (l c p K : Nat) (nb : Bool) (e f : Int) (hN : N w (.slice A l c) p) (hp : Lt 400 p) (hf : e - f = (K : Int)) (hK : K ≤ 20000) : Calls Tryz.prog 126 #[.agg #[.bool nb, .slice A l c, .int .i64 e], .int .i64 f] w (RetN w (p * 2 ^ K)) := by
  have HS : Hid (∀ (w' : World) (j : Int), Ext w w' → j = (K : Int) → Calls Tryz.prog 132 #[.slice A l c, .int .i64 j] w' (RetN w' (p * 2 ^ K))) := Lib.hid (fun w' j hE hj => by subst hj; exact shl_nat w' _ p K hK (hN.ext hE) hp)
  have HF := Lib.hid hf
  clear hN
  go_enter Tryz.func126, Tryz.ntmps126
  go_wp2_with fail
  refine (HS.out _ _ ((Ext.refl w).alloc _) (by have := HF.out; omega)).mono ?_
  rintro _ w1 ⟨v1, rfl, n1, e1⟩
  go_wp2
  go_ret
  exact ⟨v1, rfl, n1, ((Ext.refl w).alloc _).trans e1⟩

end Go.Proofs.YtomdbmjfehoodaaGreatDoor

/- Walks of package dya: Add, Mul. -/
namespace Go.Proofs.YtomdbmjfehoodaaGreatDoor
open Go.RowKit

theorem callAddD : ∀ (x : Array Value) (W : World), (callFunc 107 x).run Tryz.prog W = .ok (.enter 107 x) W := fun _ _ => by kernel_rfl

set_option maxHeartbeats 1000000 in
theorem add1D_any (w : World) (vm vn : Value) (m n pa pb : Nat) (e : Int) (n1 n2 : Bool) (m1 : N w vm m) (m2 : N w vn n) (p0 : w.cell? ⟨pa, 0, none⟩ = some (.bool n1)) (q0 : w.cell? ⟨pb, 0, none⟩ = some (.bool n2))
    (la : Lt 200 m) (lb : Lt 200 n) (he : -100000 ≤ e ∧ e ≤ 100000) (T : Tb w) :
    Calls Tryz.prog 107 #[vm, vn, .int .i64 e, .pointer (some ⟨pa, 0, none⟩), .pointer (some ⟨pb, 0, none⟩)] w (RetD w (dy (sg n1 m + sg n2 n) e)) := by
  have E0 : Ext w (w.alloc (Obj.cells #[Value.bool false, Value.slice none 0 0, Value.int IntKind.i64 0] 26)) := (Ext.refl w).alloc _
  have Z0 := Zd.new w 26
  have la0 := World.block_lt_of_cell? w _ p0
  have lb0 := World.block_lt_of_cell? w _ q0
  simp only at la0 lb0
  have m1' := m1.ext E0
  have m2' := m2.ext E0
  have hpa : pa ≠ w.heap.size := by omega
  have hpb : pb ≠ w.heap.size := by omega
  have p0' := (E0.cell (p := ⟨pa, 0, none⟩) la0).trans p0
  have q0' := (E0.cell (p := ⟨pb, 0, none⟩) lb0).trans q0
  generalize hW0 : w.alloc (Obj.cells #[Value.bool false, Value.slice none 0 0, Value.int IntKind.i64 0] 26) = W0 at *
  have lW : w.heap.size ≤ W0.heap.size := E0.size
  have la1 : pa < W0.heap.size := by omega
  have lb1 : pb < W0.heap.size := by omega
  by_cases hn : n1 = n2
  · subst hn
    have HM := Lib.hid (fun (w' : World) (v : Value) (hE : Ext w w') (hv : N w' v (m + n)) => make_any w' n1 v (m + n) e hv (((la.add lb)).mono (by omega)) (by omega) (T.ext hE))
    rw [← sg_add] at HM
    clear T m1 m2 p0 q0 la0 lb0
    go_enter Tryz.func107, Tryz.ntmps107
    go_wp2
    go_region_held3 (fun w' => w'.cell? ⟨pa, 0, none⟩ = some (.bool n1)) (first | (exact (set3_other hpa).trans ((F4.cell (p := ⟨pa, 0, none⟩) la1).trans p0')) | (exact (F4.cell (p := ⟨pa, 0, none⟩) la1).trans p0') | (exact (F3.cell (p := ⟨pa, 0, none⟩) la1).trans p0') | go_keep) (first | ((go_at_call 55); (refine (add_any _ _ _ m n (m1'.ext (Ext.refl W0).drew) (m2'.ext (Ext.refl W0).drew) (la.mono (by omega)) (lb.mono (by omega))).mono ?_); (rintro _ w3 ⟨v3, rfl, m3, e3⟩); (have F3 : Ext W0 w3 := (Ext.refl W0).drew.trans e3)) | ((go_at_call 57); (refine (HM.out _ _ (E0.trans F3) m3).mono ?_); (rintro _ w4 ⟨v4, rfl, m4, e4⟩); (obtain ⟨bb, A2, l2, c2, ee2, rfl⟩ := m4.form); (have F4 : Ext W0 w4 := F3.trans e4); (have Z4 := Z0.ext F4); (have g0 := Z4.c0); (have g1 := Z4.c1); (have g2 := Z4.c2); (have f0 := Z4.f 0); (have f1 := Z4.f 1); (have f2 := Z4.f 2)))
    go_wp2
    obtain ⟨k0, k1, k2, hD⟩ := Z4.done m4 (E0.trans F4) (by omega)
    exact bodyPost_ret (by simp [results, Tryz.results107, go_sem, k0, k1, k2]) rfl hD
  · have hnb : (n1 == n2) = false := beq_eq_false_iff_ne.2 hn
    by_cases hle : n ≤ m
    · have HM := Lib.hid (fun (w' : World) (v : Value) (hE : Ext w w') (hv : N w' v (m - n)) => make_any w' n1 v (m - n) e hv ((la.of_le (Nat.sub_le m n)).mono (by omega)) (by omega) (T.ext hE))
      rw [← sg_sub hn hle] at HM
      clear T m1 m2 p0 q0 la0 lb0
      go_enter Tryz.func107, Tryz.ntmps107
      go_wp2_with fail
      refine (sub_yes W0 vm vn m n m1' m2' (la.mono (by omega)) hle).mono ?_
      rintro _ w4 ⟨v4, rfl, m4, e4⟩
      have p4 := (e4.cell (p := ⟨pa, 0, none⟩) la1).trans p0'
      go_wp2_with fail
      refine (HM.out w4 v4 (E0.trans e4) m4).mono ?_
      rintro _ w5 ⟨v5, rfl, m5, e5⟩
      obtain ⟨bb, A2, l2, c2, ee2, rfl⟩ := m5.form
      have F5 := e4.trans e5
      have Z5 := Z0.ext F5
      have g0 := Z5.c0; have g1 := Z5.c1; have g2 := Z5.c2; have f0 := Z5.f 0; have f1 := Z5.f 1; have f2 := Z5.f 2
      go_wp2
      obtain ⟨k0, k1, k2, hD⟩ := Z5.done m5 (E0.trans F5) (by omega)
      exact bodyPost_ret (by simp [results, Tryz.results107, go_sem, k0, k1, k2]) rfl hD
    · have HM := Lib.hid (fun (w' : World) (v : Value) (hE : Ext w w') (hv : N w' v (n - m)) => make_any w' n2 v (n - m) e hv ((lb.of_le (Nat.sub_le n m)).mono (by omega)) (by omega) (T.ext hE))
      rw [← sg_sub' hn (by omega)] at HM
      clear T m1 m2 p0 q0 la0 lb0
      go_enter Tryz.func107, Tryz.ntmps107
      go_wp2_with fail
      refine (sub_no W0 vm vn m n m1' m2' (by omega)).mono ?_
      rintro _ w3 ⟨v3, rfl, _, e3⟩
      go_wp2_with fail
      refine (sub_yes w3 vn vm n m (m2'.ext e3) (m1'.ext e3) (lb.mono (by omega)) (by omega)).mono ?_
      rintro _ w4 ⟨v4, rfl, m4, e4⟩
      have F4 := e3.trans e4
      have q4 := (F4.cell (p := ⟨pb, 0, none⟩) lb1).trans q0'
      go_wp2_with fail
      refine (HM.out w4 v4 (E0.trans F4) m4).mono ?_
      rintro _ w5 ⟨v5, rfl, m5, e5⟩
      obtain ⟨bb, A2, l2, c2, ee2, rfl⟩ := m5.form
      have F5 := F4.trans e5
      have Z5 := Z0.ext F5
      have g0 := Z5.c0; have g1 := Z5.c1; have g2 := Z5.c2; have f0 := Z5.f 0; have f1 := Z5.f 1; have f2 := Z5.f 2
      go_wp2
      obtain ⟨k0, k1, k2, hD⟩ := Z5.done m5 (E0.trans F5) (by omega)
      exact bodyPost_ret (by simp [results, Tryz.results107, go_sem, k0, k1, k2]) rfl hD

end Go.Proofs.YtomdbmjfehoodaaGreatDoor

/- Walks of package dya: Add. -/
namespace Go.Proofs.YtomdbmjfehoodaaGreatDoor
open Go.RowKit


set_option maxHeartbeats 2000000 in
theorem commonD_any (w : World) (A A' : Option Addr) (l c l' c' K K' p q pa pb : Nat) (e e' mn : Int) (n1 n2 : Bool) (hN : N w (.slice A l c) p) (hN' : N w (.slice A' l' c') q)
    (p0 : w.cell? ⟨pa, 0, none⟩ = some (.bool n1)) (q0 : w.cell? ⟨pb, 0, none⟩ = some (.bool n2))
    (lz : Lt 200 p) (lz' : Lt 200 q) (la : Lt 200 (p * 2 ^ K)) (lb : Lt 200 (q * 2 ^ K')) (hbe : -10000 ≤ e ∧ e ≤ 10000) (hbe' : -10000 ≤ e' ∧ e' ≤ 10000) (HK : K ≤ 20000) (HK2 : K' ≤ 20000) (hK : e - mn = (K : Int)) (hK' : e' - mn = (K' : Int)) (hmn : min e e' = mn) (T : Tb w) :
    Calls Tryz.prog 106 #[.agg #[.bool n1, .slice A l c, .int .i64 e], .agg #[.bool n2, .slice A' l' c', .int .i64 e'], .func (.func 107) #[] #[.pointer (some ⟨pa, 0, none⟩), .pointer (some ⟨pb, 0, none⟩)]] w (RetD w (dy (sg n1 (p * 2 ^ K) + sg n2 (q * 2 ^ K')) mn)) := by
  have hcall := callAddD
  have hm1 : -10000 ≤ mn ∧ mn ≤ 10000 := by omega
  have la0 := World.block_lt_of_cell? w _ p0
  have lb0 := World.block_lt_of_cell? w _ q0
  simp only at la0 lb0
  have HA := Lib.hid (fun (w' : World) (v u : Value) (hE : Ext w w') (h : N w' v (p * 2 ^ K)) (k : N w' u (q * 2 ^ K')) => add1D_any w' v u (p * 2 ^ K) (q * 2 ^ K') pa pb mn n1 n2 h k ((hE.cell (p := ⟨pa, 0, none⟩) la0).trans p0) ((hE.cell (p := ⟨pb, 0, none⟩) lb0).trans q0) la lb (by omega) (T.ext hE))
  have HO1 := Lib.hid (fun (w' : World) (hE : Ext w w') => nover_any w' A l c p K n1 e mn (hN.ext hE) (lz.mono (by omega)) hK HK)
  have HO2 := Lib.hid (fun (w' : World) (hE : Ext w w') => nover_any w' A' l' c' q K' n2 e' mn (hN'.ext hE) (lz'.mono (by omega)) hK' HK2)
  clear T hN hN' p0 q0 la0 lb0 hK hK' la lb
  generalize p * 2 ^ K = a at *
  generalize q * 2 ^ K' = b at *
  go_enter Tryz.func106, Tryz.ntmps106
  go_wp2
  generalize hW0 : (((w.alloc (.cells #[.bool n1, .slice A l c, .int .i64 e] 85)).alloc (.cells #[.bool n2, .slice A' l' c', .int .i64 e'] 85)).alloc (.cells #[.bool false, .slice none 0 0, .int .i64 0] 26)) = W0
  have B1 : Box W0 w.heap.size (.bool n1) (.slice A l c) (.int .i64 e) := by rw [← hW0]; exact Box.at (((Ext.refl _).alloc _).alloc _) rfl
  have B2 : Box W0 (w.heap.size + 1) (.bool n2) (.slice A' l' c') (.int .i64 e') := by rw [← hW0]; exact Box.at ((Ext.refl _).alloc _) (by simp)
  have Z0 : Zd W0 (w.heap.size + 1 + 1) := by rw [← hW0]; exact Zd.at (Ext.refl _) (by simp)
  have E0 : Ext w W0 := by rw [← hW0]; exact (((Ext.refl w).alloc _).alloc _).alloc _
  obtain ⟨p0, p1, p2⟩ := id B1
  obtain ⟨q0, q1, q2⟩ := id B2
  clear hW0 hmn HK HK2 lz lz' hbe hbe'
  have hne1 : w.heap.size ≠ w.heap.size + 1 + 1 := by omega
  have hne2 : w.heap.size + 1 ≠ w.heap.size + 1 + 1 := by omega
  go_region_held3 (fun w' => w'.cell? ⟨w.heap.size, 0, none⟩ = some (.bool n1) ∧ w'.cell? ⟨w.heap.size, 1, none⟩ = some (.slice A l c) ∧ w'.cell? ⟨w.heap.size, 2, none⟩ = some (.int .i64 e) ∧ w'.cell? ⟨w.heap.size + 1, 0, none⟩ = some (.bool n2) ∧ w'.cell? ⟨w.heap.size + 1, 1, none⟩ = some (.slice A' l' c') ∧ w'.cell? ⟨w.heap.size + 1, 2, none⟩ = some (.int .i64 e'))
    (first | (with_reducible exact six_set (B1.ext F3) (B2.ext F3) hne1 hne2) | (with_reducible exact six (B1.ext F3) (B2.ext F3)) | (with_reducible exact six (B1.ext F2) (B2.ext F2)) | (with_reducible exact six (B1.ext F1) (B2.ext F1)) | go_keep)
    (first | ((have hF := F2); (go_at_call 107); (refine (HA.out _ _ _ (E0.trans F2) (m1.ext e2) m2).mono ?_); (rintro _ w3 ⟨v3, rfl, m3, e3⟩); (obtain ⟨bb, A2, l2, c2, ee2, rfl⟩ := m3.form); (have F3 : Ext W0 w3 := F2.trans e3); (clear hcall HA HO1 HO2 m1 m2 e1 e2); (have Z3 := Z0.ext F3); (have g0 := Z3.c0); (have g1 := Z3.c1); (have g2 := Z3.c2); (have f0 := Z3.f 0); (have f1 := Z3.f 1); (have f2 := Z3.f 2)) | ((have hF := F1); (go_at_call 126); (refine (HO2.out _ (E0.trans F1)).mono ?_); (rintro _ w2 ⟨v2, rfl, m2, e2⟩); (have F2 : Ext W0 w2 := F1.trans e2)) | ((go_at_call 126); (refine (HO1.out _ (E0.trans (Ext.refl W0).drew)).mono ?_); (rintro _ w1 ⟨v1, rfl, m1, e1⟩); (have F1 : Ext W0 w1 := (Ext.refl W0).drew.trans e1)))
  go_wp2
  obtain ⟨k0, k1, k2, hD⟩ := Z3.done m3 (E0.trans F3) (by omega)
  exact bodyPost_ret (by simp [results, Tryz.results106, go_sem, k0, k1, k2]) rfl hD

end Go.Proofs.YtomdbmjfehoodaaGreatDoor

/- Walks of package dya: Add. -/
namespace Go.Proofs.YtomdbmjfehoodaaGreatDoor
open Go.RowKit

set_option maxHeartbeats 1000000 in
theorem addD_main (w : World) (A A' : Option Addr) (l c l' c' : Nat) (e e' : Int) (n1 n2 : Bool) (s1 s2 : Int) (x y r : Dyadic)
    (hs1 : ∀ w', Ext w w' → Calls Tryz.prog 80 #[.agg #[.bool n1, .slice A l c, .int .i64 e]] w' (RetE w' (.int .i64 s1)))
    (hs2 : ∀ w', Ext w w' → Calls Tryz.prog 80 #[.agg #[.bool n2, .slice A' l' c', .int .i64 e']] w' (RetE w' (.int .i64 s2)))
    (ho1 : ∀ w', Ext w w' → Calls Tryz.prog 105 #[.agg #[.bool n1, .slice A l c, .int .i64 e]] w' (RetD w' x))
    (ho2 : ∀ w', Ext w w' → Calls Tryz.prog 105 #[.agg #[.bool n2, .slice A' l' c', .int .i64 e']] w' (RetD w' y))
    (hc : s1 ≠ 0 → s2 ≠ 0 → ∀ w' pa pb, Ext w w' → w'.cell? ⟨pa, 0, none⟩ = some (.bool n1) → w'.cell? ⟨pb, 0, none⟩ = some (.bool n2) → Calls Tryz.prog 106 #[.agg #[.bool n1, .slice A l c, .int .i64 e], .agg #[.bool n2, .slice A' l' c', .int .i64 e'], .func (.func 107) #[] #[.pointer (some ⟨pa, 0, none⟩), .pointer (some ⟨pb, 0, none⟩)]] w' (RetD w' r))
    (d : Dyadic) (h1 : s1 = 0 → d = y) (h2 : s1 ≠ 0 → s2 = 0 → d = x) (h3 : s1 ≠ 0 → s2 ≠ 0 → d = r) :
    Calls Tryz.prog 82 #[.agg #[.bool n1, .slice A l c, .int .i64 e], .agg #[.bool n2, .slice A' l' c', .int .i64 e']] w (RetD w d) := by
  have hmf := mkf
  have HS1 := Lib.hid hs1
  have HS2 := Lib.hid hs2
  have HO1 := Lib.hid ho1
  have HO2 := Lib.hid ho2
  have HC := Lib.hid hc
  have H1 := Lib.hid h1
  have H2 := Lib.hid h2
  have H3 := Lib.hid h3
  clear hs1 hs2 ho1 ho2 hc h1 h2 h3
  go_enter Tryz.func82, Tryz.ntmps82
  go_upto_region 1 with fail
  obtain ⟨W0, hW0⟩ : ∃ W0, (((w.alloc (.cells #[.bool n1, .slice A l c, .int .i64 e] 26)).alloc (.cells #[.bool n2, .slice A' l' c', .int .i64 e'] 26)).alloc (.cells #[.bool false, .slice none 0 0, .int .i64 0] 26)) = W0 := ⟨_, rfl⟩
  have B1 : Box W0 w.heap.size (.bool n1) (.slice A l c) (.int .i64 e) := by rw [← hW0]; exact Box.at (((Ext.refl _).alloc _).alloc _) rfl
  have B2 : Box W0 (w.heap.size + 1) (.bool n2) (.slice A' l' c') (.int .i64 e') := by rw [← hW0]; exact Box.at ((Ext.refl _).alloc _) (by simp)
  have Z0 : Zd W0 (w.heap.size + 1 + 1) := by rw [← hW0]; exact Zd.at (Ext.refl _) (by simp)
  have E0 : Ext w W0 := by rw [← hW0]; exact (((Ext.refl w).alloc _).alloc _).alloc _
  have HW := Lib.hid hW0
  clear hW0
  go_cut [5, 6] from 7 (fun p5 p6 wx => ∃ g h : Nat, p5 = .pointer (some ⟨g, 0, none⟩) ∧ p6 = .pointer (some ⟨h, 0, none⟩) ∧ Box wx g (.bool n1) (.slice A l c) (.int .i64 e) ∧ Box wx h (.bool n2) (.slice A' l' c') (.int .i64 e') ∧ Ext W0 wx)
  case first =>
    clear B1 B2 Z0 E0
    go_region
    all_goals (
      go_wp2_with fail
      go_meet
      case rel => exact ⟨_, _, rfl, rfl, by first | exact Box.at (Ext.refl _).drew (by simp) | exact Box.at ((Ext.refl _).alloc _).drew (by simp), by first | exact Box.at (Ext.refl _).drew (by simp) | exact Box.at ((Ext.refl _).alloc _).drew (by simp), by rw [← HW.out]; exact (((Ext.refl _).alloc _).alloc _).drew⟩)
  case rest =>
    obtain ⟨g, h, rfl, rfl, C1, C2, F0⟩ := hcut
    replace B1 := B1.ext F0
    replace B2 := B2.ext F0
    replace Z0 := Z0.ext F0
    replace E0 := E0.trans F0
    clear HW F0
    obtain ⟨a0, a1, a2⟩ := id C1
    obtain ⟨b0, b1, b2⟩ := id C2
    go_wp2_with fail
    refine (HS1.out _ E0).mono ?_
    rintro _ w1 ⟨rfl, e1⟩
    replace C1 := C1.ext e1
    replace C2 := C2.ext e1
    replace B1 := B1.ext e1
    replace B2 := B2.ext e1
    replace Z0 := Z0.ext e1
    replace E0 := E0.trans e1
    clear a0 a1 a2 b0 b1 b2 e1 HS1
    obtain ⟨a0, a1, a2⟩ := id C1
    obtain ⟨b0, b1, b2⟩ := id C2
    by_cases hz1 : s1 = 0
    · obtain rfl := H1.out hz1
      subst hz1
      go_wp2_with fail
      refine (HO2.out _ E0).mono ?_
      rintro _ w2 ⟨v2, rfl, n2', e2⟩
      obtain ⟨bb, A2, l2, c2, ee2, rfl⟩ := n2'.form
      have Z2 := Z0.ext e2
      have g0 := Z2.c0; have g1 := Z2.c1; have g2 := Z2.c2; have f0 := Z2.f 0; have f1 := Z2.f 1; have f2 := Z2.f 2
      go_wp2
      obtain ⟨k0, k1, k2, hD⟩ := Z2.done n2' (E0.trans e2) (by omega)
      exact bodyPost_ret (by simp [results, Tryz.results82, go_sem, k0, k1, k2]) rfl hD
    · have hz1' : (s1 == 0) = false := beq_eq_false_iff_ne.2 hz1
      go_wp2_with fail
      refine (HS2.out _ E0).mono ?_
      rintro _ w2 ⟨rfl, e2⟩
      replace C1 := C1.ext e2
      replace C2 := C2.ext e2
      replace B1 := B1.ext e2
      replace B2 := B2.ext e2
      replace Z0 := Z0.ext e2
      replace E0 := E0.trans e2
      clear a0 a1 a2 b0 b1 b2 e2 HS2
      obtain ⟨a0, a1, a2⟩ := id C1
      obtain ⟨b0, b1, b2⟩ := id C2
      by_cases hz2 : s2 = 0
      · obtain rfl := H2.out hz1 hz2
        subst hz2
        go_wp2_with fail
        refine (HO1.out _ E0).mono ?_
        rintro _ w2 ⟨v2, rfl, n2', e2⟩
        obtain ⟨bb, A2, l2, c2, ee2, rfl⟩ := n2'.form
        have Z2 := Z0.ext e2
        have g0 := Z2.c0; have g1 := Z2.c1; have g2 := Z2.c2; have f0 := Z2.f 0; have f1 := Z2.f 1; have f2 := Z2.f 2
        go_wp2
        obtain ⟨k0, k1, k2, hD⟩ := Z2.done n2' (E0.trans e2) (by omega)
        exact bodyPost_ret (by simp [results, Tryz.results82, go_sem, k0, k1, k2]) rfl hD
      · obtain rfl := H3.out hz1 hz2
        have hz2' : (s2 == 0) = false := beq_eq_false_iff_ne.2 hz2
        go_wp2_with fail
        refine (HC.out hz1 hz2 _ _ _ E0 B1.c0 B2.c0).mono ?_
        rintro _ w2 ⟨v2, rfl, n2', e2⟩
        obtain ⟨bb, A2, l2, c2, ee2, rfl⟩ := n2'.form
        have Z2 := Z0.ext e2
        have g0 := Z2.c0; have g1 := Z2.c1; have g2 := Z2.c2; have f0 := Z2.f 0; have f1 := Z2.f 1; have f2 := Z2.f 2
        go_wp2
        obtain ⟨k0, k1, k2, hD⟩ := Z2.done n2' (E0.trans e2) (by omega)
        exact bodyPost_ret (by simp [results, Tryz.results82, go_sem, k0, k1, k2]) rfl hD

theorem cmpD_ne {z e : Int} : cmpD (dy z e) 0 ≠ 0 ↔ z ≠ 0 := by
  rw [cmpD_zero]; unfold cmpI; split <;> (try split) <;> omega
theorem addD_any (w : World) (va vb : Value) (x y : Dyadic) (P Q : Nat) (ha : Dn w va x) (hb : Dn w vb y) (hx : Rg P Q x) (hy : Rg P Q y) (h1 : P + Q ≤ 2400) (T : Tb w) : Calls Tryz.prog 82 #[va, vb] w (RetD w (x + y)) := by
  have Sa := fun w' (hE : Ext w w') => nsign_any w' va x (ha.ext hE)
  have Sb := fun w' (hE : Ext w w') => nsign_any w' vb y (hb.ext hE)
  have Oa := fun w' (hE : Ext w w') => ownD_any w' va x P Q (ha.ext hE) hx (by omega) (T.ext hE)
  have Ob := fun w' (hE : Ext w w') => ownD_any w' vb y P Q (hb.ext hE) hy (by omega) (T.ext hE)
  obtain ⟨A, l, c, z, e, rfl, hN, hc, rfl, hl, _⟩ := ha.parts
  obtain ⟨A', l', c', z', e', rfl, hN', hc', rfl, hl', _⟩ := hb.parts
  obtain ⟨b1, b2, b3⟩ := hx.canon hc
  obtain ⟨b1', b2', b3'⟩ := hy.canon hc'
  have lz := hx.lt hc (by omega)
  have lz' := hy.lt hc' (by omega)
  obtain ⟨K, hK⟩ : ∃ K : Nat, e - min e e' = (K : Int) := ⟨(e - min e e').toNat, by omega⟩
  obtain ⟨K', hK'⟩ : ∃ K' : Nat, e' - min e e' = (K' : Int) := ⟨(e' - min e e').toNat, by omega⟩
  have la : Lt 200 (z.natAbs * 2 ^ K) := Lt.shl b3 (by omega) h1
  have lb : Lt 200 (z'.natAbs * 2 ^ K') := Lt.shl b3' (by omega) h1
  refine addD_main w A A' l c l' c' e e' _ _ _ _ _ _ _ Sa Sb Oa Ob
    (fun _ _ w' pa pb hE hp hq => commonD_any w' A A' l c l' c' K K' z.natAbs z'.natAbs pa pb e e' (min e e') _ _ (hN.ext hE) (hN'.ext hE) hp hq lz lz' la lb (by omega) (by omega) (by omega) (by omega) hK hK' rfl (T.ext hE)) (dy z e + dy z' e') (fun h => ?_) (fun h k => ?_) (fun h k => ?_)
  · have h0 : z = 0 := by
      rcases Decidable.em (z = 0) with h0 | h0
      · exact h0
      · exact absurd h (cmpD_ne.2 h0)
    rw [h0, dy_zero]; grind
  · have h0 : z' = 0 := by
      rcases Decidable.em (z' = 0) with h0 | h0
      · exact h0
      · exact absurd k (cmpD_ne.2 h0)
    rw [h0, dy_zero]; grind
  · rw [← sg_pow, ← sg_pow, sg_of, sg_of, ← dy_add, dy_up, dy_up, ← hK, ← hK']
    congr 1 <;> congr 1 <;> omega


end Go.Proofs.YtomdbmjfehoodaaGreatDoor

/- Walks of package dya: Mul, Cmp. -/
namespace Go.Proofs.YtomdbmjfehoodaaGreatDoor
open Go.RowKit

theorem cmp_natD (w : World) (va vb : Value) (m n : Nat) (ha : N w va m) (hb : N w vb n) : Calls Tryz.prog 104 #[va, vb] w (RetQ w (.int .i64 (cmpI m n))) := by
  obtain ⟨a, ra, na, ea⟩ := ha
  obtain ⟨b, rb, nb, eb⟩ := hb
  rw [← ea, ← eb]
  exact cmp_rows w va vb a b ra rb na nb
theorem callSizes : ∀ (x : Array Value) (W : World), (callFunc 103 x).run Tryz.prog W = .ok (.enter 103 x) W := fun _ _ => by kernel_rfl
theorem sizes1_any (w : World) (va vb : Value) (m n : Nat) (e : Int) (ha : N w va m) (hb : N w vb n) : Calls Tryz.prog 103 #[va, vb, .int .i64 e] w (RetQ w (.int .i64 (cmpI (m : Int) (n : Int)))) := by
  have HC := Lib.hid (cmp_natD w va vb m n ha hb)
  clear ha hb
  go_enter Tryz.func103, Tryz.ntmps103
  go_wp2_with fail
  refine HC.out.mono ?_
  rintro _ w1 ⟨rfl, q1⟩
  go_wp2
  go_ret
  exact ⟨rfl, q1⟩

set_option maxHeartbeats 1000000 in
theorem commonI_any (w : World) (A A' : Option Addr) (l c l' c' K K' p q : Nat) (e e' mn : Int) (n1 n2 : Bool) (hN : N w (.slice A l c) p) (hN' : N w (.slice A' l' c') q)
    (lz : Lt 400 p) (lz' : Lt 400 q) (HK : K ≤ 20000) (HK2 : K' ≤ 20000) (hK : e - mn = (K : Int)) (hK' : e' - mn = (K' : Int)) (hmn : min e e' = mn) :
    Calls Tryz.prog 102 #[.agg #[.bool n1, .slice A l c, .int .i64 e], .agg #[.bool n2, .slice A' l' c', .int .i64 e'], .func (.func 103) #[] #[]] w (RetE w (.int .i64 (cmpI ((p * 2 ^ K : Nat) : Int) ((q * 2 ^ K' : Nat) : Int)))) := by
  have hcall := callSizes
  have HO1 := Lib.hid (fun (w' : World) (hE : Ext w w') => nover_any w' A l c p K n1 e mn (hN.ext hE) lz hK HK)
  have HO2 := Lib.hid (fun (w' : World) (hE : Ext w w') => nover_any w' A' l' c' q K' n2 e' mn (hN'.ext hE) lz' hK' HK2)
  clear hN hN' hK hK' HK HK2 lz lz'
  generalize p * 2 ^ K = a at *
  generalize q * 2 ^ K' = b at *
  have HA := Lib.hid (fun (w' : World) (v u : Value) (h : N w' v a) (k : N w' u b) => sizes1_any w' v u a b mn h k)
  generalize cmpI (a : Int) (b : Int) = t at *
  go_enter Tryz.func102, Tryz.ntmps102
  go_wp2
  generalize hW0 : ((w.alloc (.cells #[.bool n1, .slice A l c, .int .i64 e] 85)).alloc (.cells #[.bool n2, .slice A' l' c', .int .i64 e'] 85)) = W0
  have B1 : Box W0 w.heap.size (.bool n1) (.slice A l c) (.int .i64 e) := by rw [← hW0]; exact Box.at ((Ext.refl _).alloc _) rfl
  have B2 : Box W0 (w.heap.size + 1) (.bool n2) (.slice A' l' c') (.int .i64 e') := by rw [← hW0]; exact Box.at (Ext.refl _) (by simp)
  have E0 : Ext w W0 := by rw [← hW0]; exact ((Ext.refl w).alloc _).alloc _
  obtain ⟨p0, p1, p2⟩ := id B1
  obtain ⟨q0, q1, q2⟩ := id B2
  clear hW0 hmn
  go_region_held3 (fun w' => w'.cell? ⟨w.heap.size, 0, none⟩ = some (.bool n1) ∧ w'.cell? ⟨w.heap.size, 1, none⟩ = some (.slice A l c) ∧ w'.cell? ⟨w.heap.size, 2, none⟩ = some (.int .i64 e) ∧ w'.cell? ⟨w.heap.size + 1, 0, none⟩ = some (.bool n2) ∧ w'.cell? ⟨w.heap.size + 1, 1, none⟩ = some (.slice A' l' c') ∧ w'.cell? ⟨w.heap.size + 1, 2, none⟩ = some (.int .i64 e'))
    (first | (with_reducible exact six (B1.ext F3) (B2.ext F3)) | (with_reducible exact six (B1.ext F2) (B2.ext F2)) | (with_reducible exact six (B1.ext F1) (B2.ext F1)) | go_keep)
    (first | ((have hF := F2); (go_at_call 103); (refine (HA.out _ _ _ (m1.ext e2) m2).mono ?_); (rintro _ w3 ⟨rfl, e3⟩); (have F3 : Ext W0 w3 := F2.trans e3.ext); (clear hcall HA HO1 HO2 m1 m2 e1 e2)) | ((have hF := F1); (go_at_call 126); (refine (HO2.out _ (E0.trans F1)).mono ?_); (rintro _ w2 ⟨v2, rfl, m2, e2⟩); (have F2 : Ext W0 w2 := F1.trans e2)) | ((go_at_call 126); (refine (HO1.out _ (E0.trans (Ext.refl W0).drew)).mono ?_); (rintro _ w1 ⟨v1, rfl, m1, e1⟩); (have F1 : Ext W0 w1 := (Ext.refl W0).drew.trans e1)))
  go_wp2
  go_ret
  exact ⟨rfl, E0.trans F3⟩

end Go.Proofs.YtomdbmjfehoodaaGreatDoor

/- Walks of package dya: Cmp. -/
namespace Go.Proofs.YtomdbmjfehoodaaGreatDoor
open Go.RowKit

/-- Two numbers over one power of two. -/
theorem cmpD_over {z z' e e' mn : Int} {K K' : Nat} (hK : e - mn = (K : Int)) (hK' : e' - mn = (K' : Int)) : cmpD (dy z e) (dy z' e') = cmpI (z * 2 ^ K) (z' * 2 ^ K') := by
  have h1 : dy z e = dy (z * 2 ^ K) mn := by rw [dy_up]; congr 1; omega
  have h2 : dy z' e' = dy (z' * 2 ^ K') mn := by rw [dy_up]; congr 1; omega
  rw [h1, h2, cmpD_dy]
theorem cmpI_heights {p q K K' : Nat} (h : bl p + K < bl q + K') (hq : q ≠ 0) : cmpI ((p : Int) * 2 ^ K) ((q : Int) * 2 ^ K') = -1 := by
  apply cmpI_lt
  have h1 := bl_lt p
  have h2 := bl_le hq
  have h3 : p * 2 ^ K < 2 ^ (bl p + K) := by rw [Nat.pow_add]; exact Nat.mul_lt_mul_of_pos_right h1 (Nat.two_pow_pos K)
  have hb : bl q ≠ 0 := by intro e; have := bl_lt q; rw [e] at this; simp at this; omega
  have h4 : 2 ^ (bl q - 1 + K') ≤ q * 2 ^ K' := by rw [Nat.pow_add]; exact Nat.mul_le_mul_right _ h2
  have h5 := Nat.pow_le_pow_right (show 0 < 2 by omega) (show bl p + K ≤ bl q - 1 + K' by omega)
  have h6 : p * 2 ^ K < q * 2 ^ K' := by omega
  exact_mod_cast h6
theorem cmpI_swap (x y : Int) : cmpI x y = - cmpI y x := by
  unfold cmpI
  rcases Int.lt_trichotomy x y with h | h | h
  · rw [if_pos h, if_neg (by omega), if_neg (by omega)]
  · subst h; simp
  · rw [if_neg (by omega), if_neg (by omega), if_pos h]; rfl
theorem cmpI_neg (x y : Int) : cmpI (-x) (-y) = cmpI y x := by
  unfold cmpI
  rcases Int.lt_trichotomy x y with h | h | h
  · rw [if_neg (by omega), if_neg (by omega), if_neg (by omega), if_neg (by omega)]
  · subst h; simp
  · rw [if_pos (by omega), if_pos (by omega)]
/-- How both sizes stand. -/
def szD (z e z' e' : Int) : Int := cmpD (dy (z.natAbs : Int) e) (dy (z'.natAbs : Int) e')
theorem sz_heights {z z' e e' : Int} (hz : z = 0 ↔ z' = 0) (hc : Canon z e) (hc' : Canon z' e') (h : cmpI (bl z.natAbs + e) (bl z'.natAbs + e') ≠ 0) : szD z e z' e' = cmpI (bl z.natAbs + e) (bl z'.natAbs + e') := by
  obtain ⟨K, hK⟩ : ∃ K : Nat, e - min e e' = (K : Int) := ⟨(e - min e e').toNat, by omega⟩
  obtain ⟨K', hK'⟩ : ∃ K' : Nat, e' - min e e' = (K' : Int) := ⟨(e' - min e e').toNat, by omega⟩
  unfold szD
  rw [cmpD_over hK hK']
  by_cases h0 : z = 0
  · exfalso
    have h0' := hz.1 h0
    subst h0 h0'
    have e1 : e = 0 := by rcases hc.out with k | k <;> omega
    have e2 : e' = 0 := by rcases hc'.out with k | k <;> omega
    subst e1 e2
    exact h (cmpI_eq rfl)
  · have h0' : z' ≠ 0 := fun k => h0 (hz.2 k)
    rcases Int.lt_trichotomy ((bl z.natAbs : Int) + e) (bl z'.natAbs + e') with k | k | k
    · rw [cmpI_lt k]; exact cmpI_heights (by omega) (by omega)
    · exact absurd (cmpI_eq k) h
    · rw [cmpI_gt k, cmpI_swap, cmpI_heights (by omega) (by omega)]; rfl
theorem signs_cmp {z z' e e' : Int} : (cmpI (cmpI z 0) (cmpI z' 0) ≠ 0 → cmpD (dy z e) (dy z' e') = cmpI (cmpI z 0) (cmpI z' 0)) ∧ (cmpI (cmpI z 0) (cmpI z' 0) = 0 → cmpD (dy z e) (dy z' e') = cmpI z 0 * szD z e z' e' ∧ (z = 0 ↔ z' = 0)) := by
  obtain ⟨K, hK⟩ : ∃ K : Nat, e - min e e' = (K : Int) := ⟨(e - min e e').toNat, by omega⟩
  obtain ⟨K', hK'⟩ : ∃ K' : Nat, e' - min e e' = (K' : Int) := ⟨(e' - min e e').toNat, by omega⟩
  unfold szD
  rw [cmpD_over hK hK', cmpD_over hK hK']
  have hA := pow2_pos K
  have hB := pow2_pos K'
  generalize (2 : Int) ^ K = A at *
  generalize (2 : Int) ^ K' = B at *
  have P : ∀ {u v : Int}, 0 < u → 0 < v → 0 < u * v := fun a b => Int.mul_pos a b
  have M : ∀ {u v : Int}, u < 0 → 0 < v → u * v < 0 := fun a b => Int.mul_neg_of_neg_of_pos a b
  rcases Int.lt_trichotomy z 0 with h | h | h <;> rcases Int.lt_trichotomy z' 0 with k | k | k
  · rw [cmpI_lt h, cmpI_lt k, cmpI_eq rfl]
    refine ⟨fun e => absurd rfl e, fun _ => ⟨?_, by omega⟩⟩
    have e1 : (z.natAbs : Int) = -z := by omega
    have e2 : (z'.natAbs : Int) = -z' := by omega
    rw [e1, e2, Int.neg_mul z A, Int.neg_mul z' B, cmpI_neg, cmpI_swap]; omega
  · subst k
    rw [cmpI_lt h, cmpI_eq rfl, cmpI_lt (by omega)]
    exact ⟨fun _ => cmpI_lt (by have := M h hA; omega), fun e => absurd e (by omega)⟩
  · rw [cmpI_lt h, cmpI_gt k, cmpI_lt (by omega)]
    exact ⟨fun _ => cmpI_lt (by have := M h hA; have := P k hB; omega), fun e => absurd e (by omega)⟩
  · subst h
    rw [cmpI_lt k, cmpI_eq rfl, cmpI_gt (by omega)]
    exact ⟨fun _ => cmpI_gt (by have := M k hB; omega), fun e => absurd e (by omega)⟩
  · subst h k
    exact ⟨fun e => absurd (cmpI_eq rfl) e, fun _ => ⟨by simp [cmpI], by omega⟩⟩
  · subst h
    rw [cmpI_gt k, cmpI_eq rfl, cmpI_lt (by omega)]
    exact ⟨fun _ => cmpI_lt (by have := P k hB; omega), fun e => absurd e (by omega)⟩
  · rw [cmpI_gt h, cmpI_lt k, cmpI_gt (by omega)]
    exact ⟨fun _ => cmpI_gt (by have := P h hA; have := M k hB; omega), fun e => absurd e (by omega)⟩
  · subst k
    rw [cmpI_gt h, cmpI_eq rfl, cmpI_gt (by omega)]
    exact ⟨fun _ => cmpI_gt (by have := P h hA; omega), fun e => absurd e (by omega)⟩
  · rw [cmpI_gt h, cmpI_gt k, cmpI_eq rfl]
    refine ⟨fun e => absurd rfl e, fun _ => ⟨?_, by omega⟩⟩
    have e1 : (z.natAbs : Int) = z := by omega
    have e2 : (z'.natAbs : Int) = z' := by omega
    rw [e1, e2]; omega
set_option maxHeartbeats 1000000 in
theorem sizes_main (w : World) (A A' : Option Addr) (l c l' c' p q : Nat) (e e' t s : Int) (n1 n2 : Bool) (hN : N w (.slice A l c) p) (hN' : N w (.slice A' l' c') q) (lz : Lt 400 p) (lz' : Lt 400 q)
    (he : -100000 ≤ e ∧ e ≤ 100000) (he' : -100000 ≤ e' ∧ e' ≤ 100000) (ht : t = cmpI (bl p + e) (bl q + e')) (h1 : t ≠ 0 → s = t)
    (hc : t = 0 → ∀ w', Ext w w' → Calls Tryz.prog 102 #[.agg #[.bool n1, .slice A l c, .int .i64 e], .agg #[.bool n2, .slice A' l' c', .int .i64 e'], .func (.func 103) #[] #[]] w' (RetE w' (.int .i64 s))) :
    Calls Tryz.prog 81 #[.agg #[.bool n1, .slice A l c, .int .i64 e], .agg #[.bool n2, .slice A' l' c', .int .i64 e']] w (RetE w (.int .i64 s)) := by
  have HC := Lib.hid hc
  have H1 := Lib.hid h1
  have hbl := lz.bits
  have hbl' := lz'.bits
  have HG1 := Lib.hid (fun (w' : World) (hE : Ext w w') => nheight_any w' A l c p n1 e (hN.ext hE) lz (by omega))
  have HG2 := Lib.hid (fun (w' : World) (hE : Ext w w') => nheight_any w' A' l' c' q n2 e' (hN'.ext hE) lz' (by omega))
  have HT : Hid (∀ w' : World, Calls Tryz.prog 79 #[.int .i64 (bl p + e), .int .i64 (bl q + e')] w' fun x w'' => x = .returned (.int .i64 t) ∧ w' = w'') := Lib.hid (fun w' => by rw [ht]; exact compare_any _ _ w')
  clear hN hN' ht hc h1 he he' hbl hbl' lz lz'
  generalize (bl p : Int) + e = u at *
  generalize (bl q : Int) + e' = u' at *
  go_enter Tryz.func81, Tryz.ntmps81
  go_wp2
  generalize hW0 : ((w.alloc (.cells #[.bool n1, .slice A l c, .int .i64 e] 85)).alloc (.cells #[.bool n2, .slice A' l' c', .int .i64 e'] 85)) = W0
  have B1 : Box W0 w.heap.size (.bool n1) (.slice A l c) (.int .i64 e) := by rw [← hW0]; exact Box.at ((Ext.refl _).alloc _) rfl
  have B2 : Box W0 (w.heap.size + 1) (.bool n2) (.slice A' l' c') (.int .i64 e') := by rw [← hW0]; exact Box.at (Ext.refl _) (by simp)
  have E0 : Ext w W0 := by rw [← hW0]; exact ((Ext.refl w).alloc _).alloc _
  obtain ⟨p0, p1, p2⟩ := id B1
  obtain ⟨q0, q1, q2⟩ := id B2
  clear hW0
  go_region_held3 (fun w' => w'.cell? ⟨w.heap.size, 0, none⟩ = some (.bool n1) ∧ w'.cell? ⟨w.heap.size, 1, none⟩ = some (.slice A l c) ∧ w'.cell? ⟨w.heap.size, 2, none⟩ = some (.int .i64 e) ∧ w'.cell? ⟨w.heap.size + 1, 0, none⟩ = some (.bool n2) ∧ w'.cell? ⟨w.heap.size + 1, 1, none⟩ = some (.slice A' l' c') ∧ w'.cell? ⟨w.heap.size + 1, 2, none⟩ = some (.int .i64 e'))
    (first | (with_reducible exact six (B1.ext F3) (B2.ext F3)) | (with_reducible exact six (B1.ext F2) (B2.ext F2)) | (with_reducible exact six (B1.ext F1) (B2.ext F1)) | go_keep)
    (first | ((have hF := F2); (go_at_call 79); (refine (HT.out _).mono ?_); (rintro _ w3 ⟨rfl, e3⟩); (have F3 : Ext W0 w3 := by rw [← e3]; exact F2); (clear HG1 HG2 HT e3)) | ((have hF := F1); (go_at_call 101); (refine (HG2.out _ (E0.trans F1)).mono ?_); (rintro _ w2 ⟨rfl, e2⟩); (have F2 : Ext W0 w2 := F1.trans e2)) | ((go_at_call 101); (refine (HG1.out _ (E0.trans (Ext.refl W0).drew)).mono ?_); (rintro _ w1 ⟨rfl, e1⟩); (have F1 : Ext W0 w1 := (Ext.refl W0).drew.trans e1)))
  by_cases h0 : t = 0
  · subst h0
    obtain ⟨p0, p1, p2⟩ := B1.ext F3
    obtain ⟨q0, q1, q2⟩ := B2.ext F3
    go_wp2_with fail
    refine (HC.out trivial _ (E0.trans F3)).mono ?_
    rintro _ w4 ⟨rfl, e4⟩
    go_wp2
    go_ret
    exact ⟨rfl, (E0.trans F3).trans e4⟩
  · have h0' : (t == 0) = false := beq_eq_false_iff_ne.2 h0
    go_wp2
    go_ret
    exact ⟨by rw [H1.out h0]; rfl, E0.trans F3⟩

theorem sizes_any (w : World) (A A' : Option Addr) (l c l' c' : Nat) (z z' e e' : Int) (n1 n2 : Bool) (hN : N w (.slice A l c) z.natAbs) (hN' : N w (.slice A' l' c') z'.natAbs) (lz : Lt 400 z.natAbs) (lz' : Lt 400 z'.natAbs)
    (he : -100000 ≤ e ∧ e ≤ 100000) (he' : -100000 ≤ e' ∧ e' ≤ 100000) (hc : Canon z e) (hc' : Canon z' e') (hz : z = 0 ↔ z' = 0) :
    Calls Tryz.prog 81 #[.agg #[.bool n1, .slice A l c, .int .i64 e], .agg #[.bool n2, .slice A' l' c', .int .i64 e']] w (RetE w (.int .i64 (szD z e z' e'))) := by
  refine sizes_main w A A' l c l' c' z.natAbs z'.natAbs e e' _ _ n1 n2 hN hN' lz lz' he he' rfl (fun h => sz_heights hz hc hc' h) (fun h w' hE => ?_)
  obtain ⟨K, hK⟩ : ∃ K : Nat, e - min e e' = (K : Int) := ⟨(e - min e e').toNat, by omega⟩
  obtain ⟨K', hK'⟩ : ∃ K' : Nat, e' - min e e' = (K' : Int) := ⟨(e' - min e e').toNat, by omega⟩
  have hh : (bl z.natAbs : Int) + e = bl z'.natAbs + e' := by
    unfold cmpI at h
    split at h
    · omega
    · split at h <;> omega
  have b1 := lz.bits
  have b2 := lz'.bits
  have key := commonI_any w' A A' l c l' c' K K' z.natAbs z'.natAbs e e' (min e e') n1 n2 (hN.ext hE) (hN'.ext hE) lz lz' (by omega) (by omega) hK hK' rfl
  have e1 : szD z e z' e' = cmpI ((z.natAbs * 2 ^ K : Nat) : Int) ((z'.natAbs * 2 ^ K' : Nat) : Int) := by
    unfold szD
    rw [cmpD_over hK hK']
    push_cast
    rfl
  rw [e1]
  exact key

end Go.Proofs.YtomdbmjfehoodaaGreatDoor

/- Walks of package dya: Cmp. -/
namespace Go.Proofs.YtomdbmjfehoodaaGreatDoor
open Go.RowKit

set_option maxHeartbeats 1000000 in
theorem cmpD_main (w : World) (A A' : Option Addr) (l c l' c' : Nat) (e e' : Int) (n1 n2 : Bool) (s1 s2 t s r : Int)
    (hs1 : ∀ w', Ext w w' → Calls Tryz.prog 80 #[.agg #[.bool n1, .slice A l c, .int .i64 e]] w' (RetE w' (.int .i64 s1)))
    (hs2 : ∀ w', Ext w w' → Calls Tryz.prog 80 #[.agg #[.bool n2, .slice A' l' c', .int .i64 e']] w' (RetE w' (.int .i64 s2)))
    (ht : t = cmpI s1 s2) (h1 : t ≠ 0 → r = t)
    (hc : t = 0 → ∀ w', Ext w w' → Calls Tryz.prog 81 #[.agg #[.bool n1, .slice A l c, .int .i64 e], .agg #[.bool n2, .slice A' l' c', .int .i64 e']] w' (RetE w' (.int .i64 s)))
    (h2 : t = 0 → r = s1 * s) (hw : IntKind.i64.wrap (s1 * s) = s1 * s) :
    Calls Tryz.prog 45 #[.agg #[.bool n1, .slice A l c, .int .i64 e], .agg #[.bool n2, .slice A' l' c', .int .i64 e']] w (RetE w (.int .i64 r)) := by
  have HS1 := Lib.hid hs1
  have HS2 := Lib.hid hs2
  have HC := Lib.hid hc
  have H1 := Lib.hid h1
  have H2 := Lib.hid h2
  have HWR := Lib.hid hw
  have HT : Hid (∀ w' : World, Calls Tryz.prog 79 #[.int .i64 s1, .int .i64 s2] w' fun x w'' => x = .returned (.int .i64 t) ∧ w' = w'') := Lib.hid (fun w' => by rw [ht]; exact compare_any _ _ w')
  clear hs1 hs2 hc h1 h2 ht hw
  go_enter Tryz.func45, Tryz.ntmps45
  go_upto_region 1 with fail
  obtain ⟨W0, hW0⟩ : ∃ W0, ((w.alloc (.cells #[.bool n1, .slice A l c, .int .i64 e] 26)).alloc (.cells #[.bool n2, .slice A' l' c', .int .i64 e'] 26)) = W0 := ⟨_, rfl⟩
  have E0 : Ext w W0 := by rw [← hW0]; exact ((Ext.refl w).alloc _).alloc _
  have HW := Lib.hid hW0
  clear hW0
  go_cut [5, 6] from 8 (fun p5 p6 wx => ∃ g h : Nat, p5 = .pointer (some ⟨g, 0, none⟩) ∧ p6 = .pointer (some ⟨h, 0, none⟩) ∧ Box wx g (.bool n1) (.slice A l c) (.int .i64 e) ∧ Box wx h (.bool n2) (.slice A' l' c') (.int .i64 e') ∧ Ext W0 wx)
  case first =>
    clear E0
    go_region
    all_goals (
      go_wp2_with fail
      go_meet
      case rel => exact ⟨_, _, rfl, rfl, by first | exact Box.at (Ext.refl _).drew (by simp) | exact Box.at ((Ext.refl _).alloc _).drew (by simp), by first | exact Box.at (Ext.refl _).drew (by simp) | exact Box.at ((Ext.refl _).alloc _).drew (by simp), by rw [← HW.out]; exact (((Ext.refl _).alloc _).alloc _).drew⟩)
  case rest =>
    obtain ⟨g, h, rfl, rfl, B1, B2, F0⟩ := hcut
    replace E0 := E0.trans F0
    clear HW F0
    obtain ⟨a0, a1, a2⟩ := id B1
    obtain ⟨b0, b1, b2⟩ := id B2
    go_wp2
    go_region_held3 (fun w' => w'.cell? ⟨g, 0, none⟩ = some (.bool n1) ∧ w'.cell? ⟨g, 1, none⟩ = some (.slice A l c) ∧ w'.cell? ⟨g, 2, none⟩ = some (.int .i64 e) ∧ w'.cell? ⟨h, 0, none⟩ = some (.bool n2) ∧ w'.cell? ⟨h, 1, none⟩ = some (.slice A' l' c') ∧ w'.cell? ⟨h, 2, none⟩ = some (.int .i64 e'))
      (first | (with_reducible exact six (B1.ext F3) (B2.ext F3)) | (with_reducible exact six (B1.ext F2) (B2.ext F2)) | (with_reducible exact six (B1.ext F1) (B2.ext F1)) | go_keep)
      (first | ((have hF := F2); (go_at_call 79); (refine (HT.out _).mono ?_); (rintro _ w3 ⟨rfl, e3⟩); (have F3 : Ext wc w3 := by rw [← e3]; exact F2); (clear HS2 HT e3)) | ((have hF := F1); (go_at_call 80); (refine (HS2.out _ (E0.trans F1)).mono ?_); (rintro _ w2 ⟨rfl, e2⟩); (have F2 : Ext wc w2 := F1.trans e2)) | ((go_at_call 80); (refine (HS1.out _ (E0.trans (Ext.refl wc).drew)).mono ?_); (rintro _ w1 ⟨rfl, e1⟩); (have F1 : Ext wc w1 := (Ext.refl wc).drew.trans e1)))
    by_cases h0 : t = 0
    · subst h0
      replace B1 := B1.ext F3
      replace B2 := B2.ext F3
      replace E0 := E0.trans F3
      clear a0 a1 a2 b0 b1 b2 F3 F2 F1 e1 e2
      obtain ⟨a0, a1, a2⟩ := id B1
      obtain ⟨b0, b1, b2⟩ := id B2
      generalize hW1 : w3 = W1 at *
      have hwr := HWR.out
      go_wp2
      go_region_held3 (fun w' => w'.cell? ⟨g, 0, none⟩ = some (.bool n1) ∧ w'.cell? ⟨g, 1, none⟩ = some (.slice A l c) ∧ w'.cell? ⟨g, 2, none⟩ = some (.int .i64 e) ∧ w'.cell? ⟨h, 0, none⟩ = some (.bool n2) ∧ w'.cell? ⟨h, 1, none⟩ = some (.slice A' l' c') ∧ w'.cell? ⟨h, 2, none⟩ = some (.int .i64 e'))
        (first | (with_reducible exact six (B1.ext G2) (B2.ext G2)) | (with_reducible exact six (B1.ext G1) (B2.ext G1)) | go_keep)
        (first | ((have hG := G1); (go_at_call 81); (refine (HC.out trivial _ (E0.trans G1)).mono ?_); (rintro _ w5 ⟨rfl, e5⟩); (have G2 : Ext W1 w5 := G1.trans e5)) | ((go_at_call 80); (refine (HS1.out _ (E0.trans (Ext.refl W1).drew)).mono ?_); (rintro _ w4 ⟨rfl, e4⟩); (have G1 : Ext W1 w4 := (Ext.refl W1).drew.trans e4)))
      go_wp2
      go_ret
      exact ⟨by rw [H2.out trivial]; rfl, E0.trans G2⟩
    · have h0' : (t == 0) = false := beq_eq_false_iff_ne.2 h0
      go_wp2
      go_ret
      exact ⟨by rw [H1.out h0]; rfl, E0.trans F3⟩

theorem cmpI_range (x y : Int) : -1 ≤ cmpI x y ∧ cmpI x y ≤ 1 := by unfold cmpI; split <;> (try split) <;> omega
theorem cmpD_range (x y : Dyadic) : -1 ≤ cmpD x y ∧ cmpD x y ≤ 1 := by unfold cmpD; split <;> (try split) <;> omega
theorem small_mul {x y : Int} (h : -1 ≤ x ∧ x ≤ 1) (k : -1 ≤ y ∧ y ≤ 1) : -1 ≤ x * y ∧ x * y ≤ 1 := by
  obtain rfl | rfl | rfl : x = -1 ∨ x = 0 ∨ x = 1 := by omega
  all_goals omega
theorem cmpD_any (w : World) (va vb : Value) (x y : Dyadic) (P Q P' Q' : Nat) (ha : Dn w va x) (hb : Dn w vb y) (hx : Rg P Q x) (hy : Rg P' Q' y) (h1 : P + Q ≤ 4800) (h2 : P' + Q' ≤ 4800) : Calls Tryz.prog 45 #[va, vb] w (RetE w (.int .i64 (cmpD x y))) := by
  have Sa := fun w' (hE : Ext w w') => nsign_any w' va x (ha.ext hE)
  have Sb := fun w' (hE : Ext w w') => nsign_any w' vb y (hb.ext hE)
  obtain ⟨A, l, c, z, e, rfl, hN, hc, rfl, hl, _⟩ := ha.parts
  obtain ⟨A', l', c', z', e', rfl, hN', hc', rfl, hl', _⟩ := hb.parts
  obtain ⟨b1, b2, b3⟩ := hx.canon hc
  obtain ⟨b1', b2', b3'⟩ := hy.canon hc'
  have lz := (hx.lt hc (by omega)).mono (show 200 ≤ 400 by omega)
  have lz' := (hy.lt hc' (by omega)).mono (show 200 ≤ 400 by omega)
  rw [cmpD_zero] at Sa Sb
  obtain ⟨k1, k2⟩ := signs_cmp (z := z) (z' := z') (e := e) (e' := e')
  refine cmpD_main w A A' l c l' c' e e' _ _ _ _ _ (szD z e z' e') _ Sa Sb rfl k1 (fun h w' hE => sizes_any w' A A' l c l' c' z z' e e' _ _ (hN.ext hE) (hN'.ext hE) lz lz' (by omega) (by omega) hc hc' (k2 h).2) (fun h => (k2 h).1) ?_
  have := small_mul (cmpI_range z 0) (cmpD_range (dy (z.natAbs : Int) e) (dy (z'.natAbs : Int) e'))
  exact IntWalk.i64_in _ (by unfold szD; omega)

end Go.Proofs.YtomdbmjfehoodaaGreatDoor

/- Walks of package dya: Cut, Right. -/
namespace Go.Proofs.YtomdbmjfehoodaaGreatDoor
open Go.RowKit

theorem i64_and1 (x : Int) : bits .and .i64 x 1 = x % 2 := by
  show IntKind.i64.wrap ((BitVec.ofInt 64 x &&& BitVec.ofInt 64 (1 : Int)).toNat : Int) = _
  have e : (BitVec.ofInt 64 (1 : Int)).toNat = 2 ^ 1 - 1 := by decide
  rw [BitVec.toNat_and, e, Nat.and_two_pow_sub_one_eq_mod, BitVec.toNat_ofInt, IntKind.wrap_i64]
  omega
end Go.Proofs.YtomdbmjfehoodaaGreatDoor

