/- Walks of package circ: Floor, outwards. -/
import Derived.Test.YtomdbmjfehoodaaGreatDoorMQ
import Derived.Test.YtomdbmjfehoodaaGreatDoorCw
set_option maxRecDepth 8000
namespace Go.Proofs.YtomdbmjfehoodaaGreatDoor
open Go.RowKit
set_option linter.unusedVariables false
set_option maxHeartbeats 1000000 in
theorem floor_same (w : World) (A : Option Addr) (l c n : Nat) (z e : Int) (nb : Bool) (hnb : nb = decide (z < 0)) (P Q : Nat) (h : Dn w (.agg #[.bool nb, .slice A l c, .int .i64 e]) (dy z e)) (r : Rg P Q (dy z e)) (hb : P + Q ≤ 4800) (hn : n ≤ 1000) (he : -10000 ≤ e ∧ e ≤ 10000) (hle : -(n : Int) ≤ e) (T : Tb w) :
    Calls Tryz.prog 19 #[.agg #[.bool nb, .slice A l c, .int .i64 e], .int .i64 n] w (RetD w (dy z e)) := by
  have HS := Lib.hid (fun (w' : World) (hE : Ext w w') => shiftN_any w' _ (dy z e) (dy z e) 0 P Q (shift_none _) (h.ext hE) r (by omega) (by omega) (T.ext hE))
  clear h r T hnb
  generalize dy z e = d at *
  go_enter Tryz.func19, Tryz.ntmps19
  go_wp2_with fail
  refine (HS.out _ (((Ext.refl w).alloc _).alloc _)).mono ?_
  rintro _ w2 ⟨v2, rfl, m2, e2⟩
  obtain ⟨bb, A2, l2, c2, ee2, rfl⟩ := m2.form
  have E2 : Ext w w2 := (((Ext.refl w).alloc _).alloc _).trans e2
  have Z2 : Zd w2 (w.heap.size + 1) := Zd.at e2 (by simp)
  have g0 := Z2.c0; have g1 := Z2.c1; have g2 := Z2.c2; have f0 := Z2.f 0; have f1 := Z2.f 1; have f2 := Z2.f 2
  clear e2
  go_wp2
  obtain ⟨k0, k1, k2, hD⟩ := Z2.done m2 E2 (by omega)
  exact bodyPost_ret (by simp [results, Tryz.results19, go_sem, k0, k1, k2]) rfl hD
theorem lt_low {p : Nat} (h : Lt 200 p) (K : Nat) : Lt 400 (p / 2 ^ K) := (h.mono (by omega)).of_le (Nat.div_le_self _ _)
theorem lt_one : Lt 400 (1 : Int).toNat := Lt.of_bits (by rw [show (1 : Int).toNat = 1 from rfl]; exact Nat.le_trans (bl_of_lt (n := 1) (by decide)) (by omega))
theorem lt_down {p : Nat} (h : Lt 200 p) (K : Nat) : Lt 400 (p / 2 ^ K) := lt_low h K
theorem lt_down1 {p : Nat} (h : Lt 200 p) (K : Nat) : Lt 400 (p / 2 ^ K + 1) := by
  refine Lt.of_bits (bl_of_lt ?_)
  have h1 := Nat.div_le_self p (2 ^ K)
  have h2 := bl_lt p
  have h3 := h.bits
  have h4 := Nat.pow_le_pow_right (show 0 < 2 by omega) (show bl p + 1 ≤ 24 * 400 by omega)
  rw [Nat.pow_succ] at h4
  omega
set_option maxHeartbeats 1000000 in
theorem floor_pos (w : World) (A : Option Addr) (l c n p K : Nat) (e : Int) (hN : N w (.slice A l c) p) (lm : Lt 200 p) (hn : n ≤ 1000) (he : -10000 ≤ e ∧ e ≤ 10000) (hK : -e - (n : Int) = (K : Int)) (K0 : 0 < K) (T : Tb w) :
    Calls Tryz.prog 19 #[.agg #[.bool false, .slice A l c, .int .i64 e], .int .i64 n] w (RetD w (dy (sg false (p / 2 ^ K)) (-(n : Int)))) := by
  have HS := Lib.hid (fun (w' : World) (hE : Ext w w') => shr_nat w' _ p K (by omega) (hN.ext hE) (lm.mono (by omega)))
  have HM := Lib.hid (fun (w' : World) (v : Value) (hE : Ext w w') (hv : N w' v (p / 2 ^ K)) => make_any w' false v (p / 2 ^ K) (-(n : Int)) hv (lt_down lm K) (by omega) (T.ext hE))
  have hlt : ¬ -(n : Int) ≤ e := by omega
  have HJ : -(n : Int) - e = (K : Int) := by omega
  clear hN T hK
  go_enter Tryz.func19, Tryz.ntmps19
  go_wp2_with fail
  refine (HS.out _ (((Ext.refl w).alloc _).alloc _)).mono ?_
  rintro _ w1 ⟨v1, rfl, m1, e1⟩
  have E1 : Ext w w1 := (((Ext.refl w).alloc _).alloc _).trans e1
  have B1 : Box w1 w.heap.size (.bool false) (.slice A l c) (.int .i64 e) := Box.at (((Ext.refl _).alloc _).trans e1) rfl
  have Z1 : Zd w1 (w.heap.size + 1) := Zd.at e1 (by simp)
  obtain ⟨b0, b1, b2⟩ := id B1
  clear e1 HS
  go_wp2_with fail
  refine (HM.out _ _ E1 m1).mono ?_
  rintro _ w4 ⟨v4, rfl, m4, e4⟩
  obtain ⟨bb, A4, l4, c4, ee4, rfl⟩ := m4.form
  have Z4 := Z1.ext e4
  have g0 := Z4.c0; have g1 := Z4.c1; have g2 := Z4.c2; have f0 := Z4.f 0; have f1 := Z4.f 1; have f2 := Z4.f 2
  go_wp2
  obtain ⟨k0, k1, k2, hD⟩ := Z4.done m4 (E1.trans e4) (by omega)
  exact bodyPost_ret (by simp [results, Tryz.results19, go_sem, k0, k1, k2]) rfl hD
set_option maxHeartbeats 1000000 in
theorem floor_neg (w : World) (A : Option Addr) (l c n p K : Nat) (e : Int) (hN : N w (.slice A l c) p) (lm : Lt 200 p) (hn : n ≤ 1000) (he : -10000 ≤ e ∧ e ≤ 10000) (hK : -e - (n : Int) = (K : Int)) (K0 : 0 < K) (T : Tb w) :
    Calls Tryz.prog 19 #[.agg #[.bool true, .slice A l c, .int .i64 e], .int .i64 n] w (RetD w (dy (sg true (p / 2 ^ K + 1)) (-(n : Int)))) := by
  have HS := Lib.hid (fun (w' : World) (hE : Ext w w') => shr_nat w' _ p K (by omega) (hN.ext hE) (lm.mono (by omega)))
  have HM := Lib.hid (fun (w' : World) (v : Value) (hE : Ext w w') (hv : N w' v (p / 2 ^ K + 1)) => make_any w' true v (p / 2 ^ K + 1) (-(n : Int)) hv (lt_down1 lm K) (by omega) (T.ext hE))
  have hlt : ¬ -(n : Int) ≤ e := by omega
  have HJ : -(n : Int) - e = (K : Int) := by omega
  clear hN T hK
  go_enter Tryz.func19, Tryz.ntmps19
  go_wp2_with fail
  refine (HS.out _ (((Ext.refl w).alloc _).alloc _)).mono ?_
  rintro _ w1 ⟨v1, rfl, m1, e1⟩
  have E1 : Ext w w1 := (((Ext.refl w).alloc _).alloc _).trans e1
  have B1 : Box w1 w.heap.size (.bool true) (.slice A l c) (.int .i64 e) := Box.at (((Ext.refl _).alloc _).trans e1) rfl
  have Z1 : Zd w1 (w.heap.size + 1) := Zd.at e1 (by simp)
  obtain ⟨b0, b1, b2⟩ := id B1
  clear e1 HS
  go_wp2_with fail
  refine (of_any _ 1 (by omega)).mono ?_
  rintro _ w2 ⟨v2, rfl, m2, e2⟩
  replace m1 := m1.ext e2
  replace E1 := E1.trans e2
  replace B1 := B1.ext e2
  replace Z1 := Z1.ext e2
  clear b0 b1 b2 e2
  obtain ⟨b0, b1, b2⟩ := id B1
  go_wp2_with fail
  refine (add_any _ _ _ _ _ m1 m2 (lt_low lm K) lt_one).mono ?_
  rintro _ w3 ⟨v3, rfl, m3, e3⟩
  replace m3 : N w3 v3 (p / 2 ^ K + 1) := m3
  replace E1 := E1.trans e3
  replace B1 := B1.ext e3
  replace Z1 := Z1.ext e3
  clear b0 b1 b2 e3 m1 m2
  obtain ⟨b0, b1, b2⟩ := id B1
  go_wp2_with fail
  refine (HM.out _ _ E1 m3).mono ?_
  rintro _ w4 ⟨v4, rfl, m4, e4⟩
  obtain ⟨bb, A4, l4, c4, ee4, rfl⟩ := m4.form
  have Z4 := Z1.ext e4
  have g0 := Z4.c0; have g1 := Z4.c1; have g2 := Z4.c2; have f0 := Z4.f 0; have f1 := Z4.f 1; have f2 := Z4.f 2
  go_wp2
  obtain ⟨k0, k1, k2, hD⟩ := Z4.done m4 (E1.trans e4) (by omega)
  exact bodyPost_ret (by simp [results, Tryz.results19, go_sem, k0, k1, k2]) rfl hD
theorem floor_any (w : World) (v : Value) (d : Dyadic) (j : Int) (n P Q : Nat) (hj : j = (n : Int)) (h : Dn w v d) (r : Rg P Q d) (hb : P + Q ≤ 4800) (hn : n ≤ 1000) (T : Tb w) :
    Calls Tryz.prog 19 #[v, .int .i64 j] w (RetD w (flo n d)) := by
  subst hj
  have hD := h
  obtain ⟨A, l, c, z, e, rfl, hN, hc, rfl, _⟩ := h.parts
  obtain ⟨b1, b2, b3⟩ := r.canon hc
  have lm := r.lt hc hb
  rcases Int.lt_or_le e (-(n : Int)) with g | g
  · obtain ⟨K, hK⟩ := Int.eq_ofNat_of_zero_le (show 0 ≤ -e - (n : Int) by omega)
    rw [(flo_parts hc hK (by omega)).is]
    by_cases hz : z < 0
    · rw [if_pos hz, decide_eq_true hz]
      exact floor_neg w A l c n _ K e hN lm hn (by omega) hK (by omega) T
    · rw [if_neg hz, decide_eq_false hz]
      exact floor_pos w A l c n _ K e hN lm hn (by omega) hK (by omega) T
  · rw [(flo_same g).is]
    exact floor_same w A l c n z e _ rfl P Q hD r hb hn (by omega) g T
theorem flo_rgx {n P Q : Nat} {d : Dyadic} (r : Rg P Q d) : Rg (n + P) (Q + 1) (flo n d) := by
  obtain ⟨m, f1, f2, f3⟩ := (flo_spec n d).out
  obtain ⟨X, rfl, x1, x2⟩ := r.out
  rw [f1] at f2 ⊢
  have e1 : dy m (-(n : Int)) = dy (m * 2 ^ P) (-((n + P : Nat) : Int)) := by rw [dy_up]; congr 1; omega
  have e2 : dy (m + 1) (-(n : Int)) = dy ((m + 1) * 2 ^ P) (-((n + P : Nat) : Int)) := by rw [dy_up]; congr 1; omega
  have e3 : dy X (-(P : Int)) = dy (X * 2 ^ n) (-((n + P : Nat) : Int)) := by rw [dy_up]; congr 1; omega
  rw [e1, e3, dy_le] at f2
  rw [e2, e3, dy_lt, Int.add_mul, Int.one_mul] at f3
  rw [e1]
  refine ⟨m * 2 ^ P, rfl, ?_, ?_⟩
  · have p1 := Int.mul_lt_mul_of_pos_right x1 (pow2_pos n)
    have p2 := pow2_mono (show P ≤ P + Q + n by omega)
    rw [show n + P + (Q + 1) = (P + Q + n) + 1 by omega, Int.pow_succ]
    rw [Int.neg_mul, ← Int.pow_add] at p1
    omega
  · have p1 := Int.mul_lt_mul_of_pos_right x2 (pow2_pos n)
    have p2 := pow2_pos (P + Q + n)
    rw [show n + P + (Q + 1) = (P + Q + n) + 1 by omega, Int.pow_succ]
    rw [← Int.pow_add] at p1
    omega
set_option maxRecDepth 4000 in
set_option maxHeartbeats 1000000 in
theorem outwards_any (w : World) (va : Value) (l h : Dyadic) (j : Int) (n P Q : Nat) (hj : j = (n : Int)) (ha : In w va l h) (r1 : Rg P Q l) (r2 : Rg P Q h) (hp : P + Q + n ≤ 2000) (hn : n ≤ 1000) (T : Tb w) :
    Calls Tryz.prog 42 #[va, .int .i64 j] w (RetI w (flo n l) (-flo n (-h))) := by
  subst hj
  obtain ⟨ba, Aa, na, ca, ea, ba', Aa', na', ca', ea', rfl, a1, a2⟩ := ha
  go_enter Tryz.func42, Tryz.ntmps42
  go_wp2
  generalize hW0 : ((w.alloc (.cells #[.bool ba, .slice Aa na ca, .int .i64 ea, .bool ba', .slice Aa' na' ca', .int .i64 ea'] 33)).alloc (.cells #[.bool false, .slice none 0 0, .int .i64 0, .bool false, .slice none 0 0, .int .i64 0] 33)) = W0
  have Ba : Bx W0 (w.heap.size) (.bool ba) (.slice Aa na ca) (.int .i64 ea) (.bool ba') (.slice Aa' na' ca') (.int .i64 ea') := by rw [← hW0]; exact Bx.at ((Ext.refl _).alloc _) (by simp)
  have Z0 : Zi W0 (w.heap.size + 1) := by rw [← hW0]; exact Zi.at (Ext.refl _) (by simp)
  have E0 : Ext w W0 := by rw [← hW0]; exact (((Ext.refl w).alloc _).alloc _)
  obtain ⟨Ba_0, Ba_1, Ba_2, Ba_3, Ba_4, Ba_5⟩ := id Ba
  have NBa : (w.heap.size : Nat) ≠ w.heap.size + 1 := by omega
  replace a1 := a1.ext E0
  replace a2 := a2.ext E0
  replace T := T.ext E0
  clear hW0
  go_region_held3 (fun w' => (w'.cell? ⟨w.heap.size, 0, none⟩ = some (.bool ba) ∧ w'.cell? ⟨w.heap.size, 1, none⟩ = some (.slice Aa na ca) ∧ w'.cell? ⟨w.heap.size, 2, none⟩ = some (.int .i64 ea) ∧ w'.cell? ⟨w.heap.size, 3, none⟩ = some (.bool ba') ∧ w'.cell? ⟨w.heap.size, 4, none⟩ = some (.slice Aa' na' ca') ∧ w'.cell? ⟨w.heap.size, 5, none⟩ = some (.int .i64 ea'))) (first | (with_reducible exact bx6 (Ba.ext F4)) | (with_reducible exact bx6 (Ba.ext F3)) | (with_reducible exact bx6 (Ba.ext F2)) | (with_reducible exact bx6 (Ba.ext F1)) | (with_reducible exact bx6 (Zi.keep (Ba.ext F4) NBa)) | go_keep) (first | ((have hF4 := F3); (go_at_call 68); (refine (flipD_any _ _ (flo n (-h)) (n + P) (Q + 1) m3 (flo_rgx r2.neg) (by omega) (T.ext F3)).mono ?_); (rintro _ u4 ⟨v4, rfl, m4, e4⟩); (have F4 : Ext W0 u4 := F3.trans e4); (replace m1 := m1.ext e4); (replace m2 := m2.ext e4); (replace m3 := m3.ext e4); (obtain ⟨y1, Y1, p1, q1, x1, rfl⟩ := m1.form); (obtain ⟨y4, Y4, p4, q4, x4, rfl⟩ := m4.form); (have Z1 := Z0.ext F4); (have g0 := Z1.c0); (have f0 := Z1.f 0); (have g1 := Z1.c1); (have f1 := Z1.f 1); (have g2 := Z1.c2); (have f2 := Z1.f 2); (have g3 := Z1.c3); (have f3 := Z1.f 3); (have g4 := Z1.c4); (have f4 := Z1.f 4); (have g5 := Z1.c5); (have f5 := Z1.f 5)) | ((have hF3 := F2); (go_at_call 19); (refine (floor_any _ _ (-h) _ n P Q rfl m2 r2.neg (by omega) hn (T.ext F2)).mono ?_); (rintro _ u3 ⟨v3, rfl, m3, e3⟩); (have F3 : Ext W0 u3 := F2.trans e3); (replace m1 := m1.ext e3); (replace m2 := m2.ext e3)) | ((have hF2 := F1); (go_at_call 68); (refine (flipD_any _ _ h P Q (a2.ext F1) r2 (by omega) (T.ext F1)).mono ?_); (rintro _ u2 ⟨v2, rfl, m2, e2⟩); (have F2 : Ext W0 u2 := F1.trans e2); (replace m1 := m1.ext e2)) | ((go_at_call 19); (refine (floor_any _ _ l _ n P Q rfl (a1.ext (Ext.refl W0).drew) r1 (by omega) hn (T.ext (Ext.refl W0).drew)).mono ?_); (rintro _ u1 ⟨v1, rfl, m1, e1⟩); (have F1 : Ext W0 u1 := (Ext.refl W0).drew.trans e1)))
  go_wp2
  obtain ⟨k0, k1, k2, k3, k4, k5, hD⟩ := Z1.done m1 m4 (E0.trans F4) (by omega)
  exact bodyPost_ret (by simp [results, Tryz.results42, go_sem, k0, k1, k2, k3, k4, k5]) rfl hD
end Go.Proofs.YtomdbmjfehoodaaGreatDoor
