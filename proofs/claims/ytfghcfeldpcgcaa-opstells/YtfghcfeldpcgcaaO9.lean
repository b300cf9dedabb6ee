/- Walks of the document's answers on roots and scalings of floats. -/
import Derived.Test.YtfghcfeldpcgcaaO8
namespace Go.Proofs.Ytfghcfeldpcgcaa
open Go.RowKit
set_option linter.unusedVariables false

theorem rmake_pos (w : World) (v : Value) (m : Nat) (e : Int) (h : N w v m) (hm : Lt 400 m) (he : -1000000 ≤ e ∧ e ≤ 1000000) : Calls Try.prog 39 #[.bool false, v, .int .i64 e] w (RetD w (dy (m : Int) e)) := by
  have := rmake_any w false v m e h hm he
  have e1 : sg false m = (m : Int) := by simp [sg]
  rwa [e1] at this
theorem rsame_ext (w : World) (va vb : Value) (m n : Nat) (ha : N w va m) (hb : N w vb n) : Calls Try.prog 37 #[va, vb] w (RetE w (.bool (decide (m = n)))) := (same_nat w va vb m n ha hb).mono fun _ _ ⟨he, hq⟩ => ⟨he, hq.ext⟩
set_option maxRecDepth 10000 in
set_option maxHeartbeats 1000000 in
theorem rroot_nan (w : World) (a : Nat) (p1 : (Ieee.double.order a a != some .eq) = true) : Calls Try.prog 18 #[.float .f64 a] w (RetC w 9221120237041090561) := by
  have hf0 : FloatKind.f64.format = Ieee.double := rfl
  go_enter Try.func18, Try.ntmps18
  go_wp2_with fail
  refine (nan_run _).mono ?_
  rintro _ _ ⟨rfl, rfl⟩
  go_wp2
  go_ret
  exact ⟨rfl, rfl⟩
set_option maxRecDepth 10000 in
set_option maxHeartbeats 1000000 in
theorem rroot_neg (w : World) (a : Nat) (p1 : (Ieee.double.order a a != some .eq) = false) (p2 : (Ieee.double.order a 0 == some .lt) = true) : Calls Try.prog 18 #[.float .f64 a] w (RetC w 9221120237041090561) := by
  have hf0 : FloatKind.f64.format = Ieee.double := rfl
  go_enter Try.func18, Try.ntmps18
  go_wp2_with fail
  refine (nan_run _).mono ?_
  rintro _ _ ⟨rfl, rfl⟩
  go_wp2
  go_ret
  exact ⟨rfl, rfl⟩
set_option maxRecDepth 10000 in
set_option maxHeartbeats 1000000 in
theorem rroot_zero (w : World) (a : Nat) (p1 : (Ieee.double.order a a != some .eq) = false) (p2 : (Ieee.double.order a 0 == some .lt) = false) (p3 : (Ieee.double.order a 0 == some .eq) = true) : Calls Try.prog 18 #[.float .f64 a] w (RetC w a) := by
  have hf0 : FloatKind.f64.format = Ieee.double := rfl
  go_enter Try.func18, Try.ntmps18
  go_wp2
  go_ret
  exact ⟨rfl, rfl⟩
set_option maxRecDepth 10000 in
set_option maxHeartbeats 1000000 in
theorem rroot_inf (w : World) (a : Nat) (p1 : (Ieee.double.order a a != some .eq) = false) (p2 : (Ieee.double.order a 0 == some .lt) = false) (p3 : (Ieee.double.order a 0 == some .eq) = false) (ta : InfT a true) : Calls Try.prog 18 #[.float .f64 a] w (RetC w a) := by
  have hf0 : FloatKind.f64.format = Ieee.double := rfl
  go_enter Try.func18, Try.ntmps18
  go_wp2_with fail
  refine (ta.run _).mono ?_
  rintro _ _ ⟨rfl, rfl⟩
  go_wp2
  go_ret
  exact ⟨rfl, rfl⟩
set_option maxRecDepth 10000 in
set_option maxHeartbeats 1000000 in
theorem rrootF_even_yes (w : World) (a z r : Nat) (t : Int) (p1 : (Ieee.double.order a a != some .eq) = false) (p2 : (Ieee.double.order a 0 == some .lt) = false) (p3 : (Ieee.double.order a 0 == some .eq) = false) (ta : InfT a false) (hof : ∀ w' : World, Calls Try.prog 21 #[.float .f64 a] w' (RetDB w' (dy (z : Int) (2 * t)) true))
    (hc : Canon (z : Int) (2 * t)) (hz : z ≠ 0) (hz2 : z < 9007199254740992) (ht : -1000 ≤ t ∧ t ≤ 1000) (hr : Sq (z * 2 ^ 160) r) (hx : r * r = z * 2 ^ 160) : Calls Try.prog 18 #[.float .f64 a] w (RetFE w (dy (r : Int) (t - 80))) := by
  have hf0 : FloatKind.f64.format = Ieee.double := rfl
  have HO := Lib.hid hof
  have HCN := Lib.hid hc
  obtain ⟨m, hm⟩ : ∃ m, z * 2 ^ 160 = m := ⟨_, rfl⟩
  have h53 : z < 2 ^ 53 := Nat.lt_of_lt_of_le hz2 (by decide)
  have hlz : Lt 400 z := Lt.of_bits (Nat.le_trans (bl_of_lt h53) (by omega))
  have hml : m < 2 ^ 214 := by
    have h1 : z * 2 ^ 160 < 2 ^ 53 * 2 ^ 160 := Nat.mul_lt_mul_of_pos_right h53 (Nat.two_pow_pos _)
    rw [← Nat.pow_add] at h1
    have h2 := Nat.pow_le_pow_right (show 0 < 2 by omega) (show 53 + 160 ≤ 214 by omega)
    omega
  have hlm : Lt 400 m := Lt.of_bits (Nat.le_trans (bl_of_lt hml) (by omega))
  have hrl : r < 2 ^ 107 := by
    rcases Nat.lt_or_ge r (2 ^ 107) with k | k
    · exact k
    · exfalso
      have h1 := hr.1
      have h2 := Nat.mul_le_mul k k
      rw [← Nat.pow_add] at h2
      omega
  have hlr : Lt 400 r := Lt.of_bits (Nat.le_trans (bl_of_lt hrl) (by omega))
  have HSH := Lib.hid (fun w' v (h : N w' v z) => rshl_K w' v z 160 160 (by omega) (by omega) h hlz hz)
  rw [hm] at HSH hr hx
  have HRT := Lib.hid (fun w' v (h : N w' v m) => rroot_any w' v m h hlm)
  have HUQ := Lib.hid (fun q (h : Sq m q) => h.uniq hr)
  have HMU := Lib.hid (fun w' va vb (ha : N w' va r) (hb : N w' vb r) => rmul_any w' va vb r r ha hb hlr hlr)
  have HSM := Lib.hid (fun w' va vb (ha : N w' va (r * r)) (hb : N w' vb m) => rsame_ext w' va vb (r * r) m ha hb)
  rw [decide_eq_true hx] at HSM
  have HMK := Lib.hid (fun w' v (h : N w' v r) => rmake_pos w' v r (t - 80) h hlr (by omega))
  have HNR := Lib.hid (fun w' v (h : Dn w' v (dy (r : Int) (t - 80))) => rnear_nb w' v _ h (Nb.of_rg (P := 1100) (Q := 1100) (Rg.of_bits (n := 107) (by rw [Int.natAbs_natCast]; exact hrl) (by omega) (by omega)) (by omega) (by omega)))
  obtain ⟨e, he⟩ : ∃ e, 2 * t = e := ⟨_, rfl⟩
  have hmod : (e - 160).tmod 2 = 0 := by rw [← he, show 2 * t - 160 = 2 * (t - 80) by omega]; exact Int.mul_tmod_right 2 (t - 80)
  have hdiv : (e - 160).tdiv 2 = t - 80 := by rw [← he, show 2 * t - 160 = 2 * (t - 80) by omega]; exact Int.mul_tdiv_cancel_left _ (by omega)
  have heb : -2000 ≤ e ∧ e ≤ 2001 := by omega
  obtain ⟨heb1, heb2⟩ := heb
  rw [he] at HO HCN
  have HZ := Lib.hid hz
  have hE1 : -1080 ≤ t - 80 := by omega
  have hE2 : t - 80 ≤ 920 := by omega
  generalize t - 80 = E at *
  clear hof hc hm hlz hml hlm hrl hlr hr hx hz2 h53 ht he hz
  go_enter Try.func18, Try.ntmps18
  go_wp2_with fail
  refine (ta.run _).mono ?_
  rintro _ _ ⟨rfl, rfl⟩
  go_wp2_with fail
  refine (HO.out _).mono ?_
  rintro _ w1 ⟨vd, rfl, nd, f1⟩
  have e1 : Ext w w1 := (Ext.refl w).trans f1
  have E1 : Ext w w1 := (Ext.refl w).trans e1
  clear f1 e1
  obtain ⟨A, l, c, z', e', rfl, hN, hc', hd, hl, _⟩ := nd.parts
  obtain ⟨rfl, rfl⟩ := HCN.out.uniq hc' hd
  rw [Int.natAbs_natCast] at hN
  clear nd hc' hd hl
  generalize decide (((z : Nat) : Int) < 0) = ng at *
  go_wp2_with fail
  refine (HSH.out _ _ (hN.ext ((Ext.refl w1).alloc _))).mono ?_
  rintro _ w2 ⟨vm, rfl, nm, f2⟩
  have Bd : Box w2 (w1.heap.size) (.bool ng) (.slice A l c) (.int .i64 e) := Box.at ((Ext.refl _).trans f2) (by simp)
  have e2 : Ext w1 w2 := ((Ext.refl w1).alloc _).trans f2
  replace hN := hN.ext e2
  have E2 : Ext w w2 := E1.trans e2
  clear f2 e2 E1
  go_wp2_with fail
  refine (HRT.out _ _ nm).mono ?_
  rintro _ w3 ⟨q, hq, vr, rfl, nr, f3⟩
  have e3 : Ext w2 w3 := (Ext.refl w2).trans f3
  replace nm := nm.ext e3
  replace Bd := Bd.ext e3
  have E3 : Ext w w3 := E2.trans e3
  clear f3 e3 E2
  obtain rfl := HUQ.out q hq
  obtain ⟨Bd_0, Bd_1, Bd_2⟩ := id Bd
  have Bd_l := World.block_lt_of_cell? _ _ Bd_0
  go_wp2_with fail
  refine (HMU.out _ _ _ nr nr).mono ?_
  rintro _ w4 ⟨vs, rfl, ns, f4⟩
  clear Bd_0 Bd_1 Bd_2 Bd_l
  have e4 : Ext w3 w4 := (Ext.refl w3).trans f4
  replace nm := nm.ext e4
  replace nr := nr.ext e4
  replace Bd := Bd.ext e4
  have E4 : Ext w w4 := E3.trans e4
  clear f4 e4 E3
  go_wp2_with fail
  refine (HSM.out _ _ _ ns nm).mono ?_
  rintro _ w5 ⟨rfl, f5⟩
  have e5 : Ext w4 w5 := (Ext.refl w4).trans f5
  replace nm := nm.ext e5
  replace nr := nr.ext e5
  replace Bd := Bd.ext e5
  have E5 : Ext w w5 := E4.trans e5
  clear f5 e5 E4
  go_wp2_with fail
  refine (HMK.out _ _ nr).mono ?_
  rintro _ w6 ⟨vk, rfl, nk, f6⟩
  have e6 : Ext w5 w6 := (Ext.refl w5).trans f6
  replace nm := nm.ext e6
  replace nr := nr.ext e6
  replace Bd := Bd.ext e6
  have E6 : Ext w w6 := E5.trans e6
  clear f6 e6 E5
  go_wp2_with fail
  refine (HNR.out _ _ nk).mono ?_
  rintro _ w7 ⟨c9, rfl, hc9, f7⟩
  have e7 : Ext w6 w7 := (Ext.refl w6).trans f7
  replace nm := nm.ext e7
  replace nr := nr.ext e7
  replace Bd := Bd.ext e7
  have E7 : Ext w w7 := E6.trans e7
  clear f7 e7 E6
  go_wp2
  go_ret
  exact ⟨c9, rfl, hc9, E7⟩
set_option maxRecDepth 10000 in
set_option maxHeartbeats 1000000 in
theorem rrootF_even_no (w : World) (a z r : Nat) (t : Int) (p1 : (Ieee.double.order a a != some .eq) = false) (p2 : (Ieee.double.order a 0 == some .lt) = false) (p3 : (Ieee.double.order a 0 == some .eq) = false) (ta : InfT a false) (hof : ∀ w' : World, Calls Try.prog 21 #[.float .f64 a] w' (RetDB w' (dy (z : Int) (2 * t)) true))
    (hc : Canon (z : Int) (2 * t)) (hz : z ≠ 0) (hz2 : z < 9007199254740992) (ht : -1000 ≤ t ∧ t ≤ 1000) (hr : Sq (z * 2 ^ 160) r) (hx : r * r ≠ z * 2 ^ 160) : Calls Try.prog 18 #[.float .f64 a] w (RetFE w (dy ((2 * r + 1 : Nat) : Int) (t - 80 - 1))) := by
  have hf0 : FloatKind.f64.format = Ieee.double := rfl
  have HO := Lib.hid hof
  have HCN := Lib.hid hc
  obtain ⟨m, hm⟩ : ∃ m, z * 2 ^ 160 = m := ⟨_, rfl⟩
  have h53 : z < 2 ^ 53 := Nat.lt_of_lt_of_le hz2 (by decide)
  have hlz : Lt 400 z := Lt.of_bits (Nat.le_trans (bl_of_lt h53) (by omega))
  have hml : m < 2 ^ 214 := by
    have h1 : z * 2 ^ 160 < 2 ^ 53 * 2 ^ 160 := Nat.mul_lt_mul_of_pos_right h53 (Nat.two_pow_pos _)
    rw [← Nat.pow_add] at h1
    have h2 := Nat.pow_le_pow_right (show 0 < 2 by omega) (show 53 + 160 ≤ 214 by omega)
    omega
  have hlm : Lt 400 m := Lt.of_bits (Nat.le_trans (bl_of_lt hml) (by omega))
  have hrl : r < 2 ^ 107 := by
    rcases Nat.lt_or_ge r (2 ^ 107) with k | k
    · exact k
    · exfalso
      have h1 := hr.1
      have h2 := Nat.mul_le_mul k k
      rw [← Nat.pow_add] at h2
      omega
  have hlr : Lt 400 r := Lt.of_bits (Nat.le_trans (bl_of_lt hrl) (by omega))
  have HSH := Lib.hid (fun w' v (h : N w' v z) => rshl_K w' v z 160 160 (by omega) (by omega) h hlz hz)
  rw [hm] at HSH hr hx
  have HRT := Lib.hid (fun w' v (h : N w' v m) => rroot_any w' v m h hlm)
  have HUQ := Lib.hid (fun q (h : Sq m q) => h.uniq hr)
  have HMU := Lib.hid (fun w' va vb (ha : N w' va r) (hb : N w' vb r) => rmul_any w' va vb r r ha hb hlr hlr)
  have HSM := Lib.hid (fun w' va vb (ha : N w' va (r * r)) (hb : N w' vb m) => rsame_ext w' va vb (r * r) m ha hb)
  rw [decide_eq_false hx] at HSM
  have hr0 : r ≠ 0 := by
    rintro rfl
    have h1 := hr.2
    have h2 : 1 * 2 ^ 160 ≤ z * 2 ^ 160 := Nat.mul_le_mul_right _ (by omega)
    have h3 := Nat.pow_le_pow_right (show 0 < 2 by omega) (show 1 ≤ 160 by omega)
    omega
  have h108 : (2 : Nat) ^ 108 = 2 * 2 ^ 107 := by decide
  have hb2 : 2 * r + 1 < 2 ^ 108 := by omega
  have hl2 : Lt 400 (2 * r + 1) := Lt.of_bits (Nat.le_trans (bl_of_lt hb2) (by omega))
  have HS1 := Lib.hid (fun w' v (h : N w' v r) => rshl_K w' v r 1 1 (by omega) (by omega) h hlr hr0)
  rw [show r * 2 ^ 1 = 2 * r by omega] at HS1
  have HAD := Lib.hid (fun w' va vb (ha : N w' va (2 * r)) (hb : N w' vb 1) => radd_any w' va vb (2 * r) 1 ha hb (Lt.of_le hl2 (by omega)) (Lt.of_le hl2 (by omega)))
  have HMK := Lib.hid (fun w' v (h : N w' v (2 * r + 1)) => rmake_pos w' v (2 * r + 1) (t - 80 - 1) h hl2 (by omega))
  have HNR := Lib.hid (fun w' v (h : Dn w' v (dy ((2 * r + 1 : Nat) : Int) (t - 80 - 1))) => rnear_nb w' v _ h (Nb.of_rg (P := 1100) (Q := 1100) (Rg.of_bits (n := 108) (by rw [Int.natAbs_natCast]; exact hb2) (by omega) (by omega)) (by omega) (by omega)))
  obtain ⟨e, he⟩ : ∃ e, 2 * t = e := ⟨_, rfl⟩
  have hmod : (e - 160).tmod 2 = 0 := by rw [← he, show 2 * t - 160 = 2 * (t - 80) by omega]; exact Int.mul_tmod_right 2 (t - 80)
  have hdiv : (e - 160).tdiv 2 = t - 80 := by rw [← he, show 2 * t - 160 = 2 * (t - 80) by omega]; exact Int.mul_tdiv_cancel_left _ (by omega)
  have heb : -2000 ≤ e ∧ e ≤ 2001 := by omega
  obtain ⟨heb1, heb2⟩ := heb
  rw [he] at HO HCN
  have HZ := Lib.hid hz
  have hE1 : -1080 ≤ t - 80 := by omega
  have hE2 : t - 80 ≤ 920 := by omega
  generalize t - 80 = E at *
  clear hof hc hm hlz hml hlm hrl hlr hr hx hz2 h53 ht he hz hr0 hb2 hl2 h108
  go_enter Try.func18, Try.ntmps18
  go_wp2_with fail
  refine (ta.run _).mono ?_
  rintro _ _ ⟨rfl, rfl⟩
  go_wp2_with fail
  refine (HO.out _).mono ?_
  rintro _ w1 ⟨vd, rfl, nd, f1⟩
  have e1 : Ext w w1 := (Ext.refl w).trans f1
  have E1 : Ext w w1 := (Ext.refl w).trans e1
  clear f1 e1
  obtain ⟨A, l, c, z', e', rfl, hN, hc', hd, hl, _⟩ := nd.parts
  obtain ⟨rfl, rfl⟩ := HCN.out.uniq hc' hd
  rw [Int.natAbs_natCast] at hN
  clear nd hc' hd hl
  generalize decide (((z : Nat) : Int) < 0) = ng at *
  go_wp2_with fail
  refine (HSH.out _ _ (hN.ext ((Ext.refl w1).alloc _))).mono ?_
  rintro _ w2 ⟨vm, rfl, nm, f2⟩
  have Bd : Box w2 (w1.heap.size) (.bool ng) (.slice A l c) (.int .i64 e) := Box.at ((Ext.refl _).trans f2) (by simp)
  have e2 : Ext w1 w2 := ((Ext.refl w1).alloc _).trans f2
  replace hN := hN.ext e2
  have E2 : Ext w w2 := E1.trans e2
  clear f2 e2 E1
  go_wp2_with fail
  refine (HRT.out _ _ nm).mono ?_
  rintro _ w3 ⟨q, hq, vr, rfl, nr, f3⟩
  have e3 : Ext w2 w3 := (Ext.refl w2).trans f3
  replace nm := nm.ext e3
  replace Bd := Bd.ext e3
  have E3 : Ext w w3 := E2.trans e3
  clear f3 e3 E2
  obtain rfl := HUQ.out q hq
  obtain ⟨Bd_0, Bd_1, Bd_2⟩ := id Bd
  have Bd_l := World.block_lt_of_cell? _ _ Bd_0
  go_wp2_with fail
  refine (HMU.out _ _ _ nr nr).mono ?_
  rintro _ w4 ⟨vs, rfl, ns, f4⟩
  clear Bd_0 Bd_1 Bd_2 Bd_l
  have e4 : Ext w3 w4 := (Ext.refl w3).trans f4
  replace nm := nm.ext e4
  replace nr := nr.ext e4
  replace Bd := Bd.ext e4
  have E4 : Ext w w4 := E3.trans e4
  clear f4 e4 E3
  go_wp2_with fail
  refine (HSM.out _ _ _ ns nm).mono ?_
  rintro _ w5 ⟨rfl, f5⟩
  have e5 : Ext w4 w5 := (Ext.refl w4).trans f5
  replace nm := nm.ext e5
  replace nr := nr.ext e5
  replace Bd := Bd.ext e5
  have E5 : Ext w w5 := E4.trans e5
  clear f5 e5 E4
  go_wp2_with fail
  refine (HS1.out _ _ nr).mono ?_
  rintro _ w6 ⟨vt, rfl, nt, f6⟩
  have e6 : Ext w5 w6 := (Ext.refl w5).trans f6
  replace nm := nm.ext e6
  replace nr := nr.ext e6
  replace Bd := Bd.ext e6
  have E6 : Ext w w6 := E5.trans e6
  clear f6 e6 E5
  go_wp2_with fail
  refine (HAD.out _ _ _ (nt.ext ((Ext.refl w6).alloc _)) (one_nat _ _)).mono ?_
  rintro _ w7 ⟨vu, rfl, nu, f7⟩
  have e7 : Ext w6 w7 := ((Ext.refl w6).alloc _).trans f7
  replace Bd := Bd.ext e7
  have E7 : Ext w w7 := E6.trans e7
  clear f7 e7 E6
  go_wp2_with fail
  refine (HMK.out _ _ nu).mono ?_
  rintro _ w8 ⟨vk, rfl, nk, f8⟩
  have e8 : Ext w7 w8 := (Ext.refl w7).trans f8
  replace Bd := Bd.ext e8
  have E8 : Ext w w8 := E7.trans e8
  clear f8 e8 E7
  go_wp2_with fail
  refine (HNR.out _ _ nk).mono ?_
  rintro _ w9 ⟨c9, rfl, hc9, f9⟩
  have e9 : Ext w8 w9 := (Ext.refl w8).trans f9
  replace Bd := Bd.ext e9
  have E9 : Ext w w9 := E8.trans e9
  clear f9 e9 E8
  go_wp2
  go_ret
  exact ⟨c9, rfl, hc9, E9⟩
set_option maxRecDepth 10000 in
set_option maxHeartbeats 1000000 in
theorem rrootF_odd_yes (w : World) (a z r : Nat) (t : Int) (p1 : (Ieee.double.order a a != some .eq) = false) (p2 : (Ieee.double.order a 0 == some .lt) = false) (p3 : (Ieee.double.order a 0 == some .eq) = false) (ta : InfT a false) (hof : ∀ w' : World, Calls Try.prog 21 #[.float .f64 a] w' (RetDB w' (dy (z : Int) (2 * t + 1)) true))
    (hc : Canon (z : Int) (2 * t + 1)) (hz : z ≠ 0) (hz2 : z < 9007199254740992) (ht : -1000 ≤ t ∧ t ≤ 1000) (hr : Sq (z * 2 ^ 161) r) (hx : r * r = z * 2 ^ 161) : Calls Try.prog 18 #[.float .f64 a] w (RetFE w (dy (r : Int) (t - 80))) := by
  have hf0 : FloatKind.f64.format = Ieee.double := rfl
  have HO := Lib.hid hof
  have HCN := Lib.hid hc
  obtain ⟨m, hm⟩ : ∃ m, z * 2 ^ 161 = m := ⟨_, rfl⟩
  have h53 : z < 2 ^ 53 := Nat.lt_of_lt_of_le hz2 (by decide)
  have hlz : Lt 400 z := Lt.of_bits (Nat.le_trans (bl_of_lt h53) (by omega))
  have hml : m < 2 ^ 214 := by
    have h1 : z * 2 ^ 161 < 2 ^ 53 * 2 ^ 161 := Nat.mul_lt_mul_of_pos_right h53 (Nat.two_pow_pos _)
    rw [← Nat.pow_add] at h1
    have h2 := Nat.pow_le_pow_right (show 0 < 2 by omega) (show 53 + 161 ≤ 214 by omega)
    omega
  have hlm : Lt 400 m := Lt.of_bits (Nat.le_trans (bl_of_lt hml) (by omega))
  have hrl : r < 2 ^ 107 := by
    rcases Nat.lt_or_ge r (2 ^ 107) with k | k
    · exact k
    · exfalso
      have h1 := hr.1
      have h2 := Nat.mul_le_mul k k
      rw [← Nat.pow_add] at h2
      omega
  have hlr : Lt 400 r := Lt.of_bits (Nat.le_trans (bl_of_lt hrl) (by omega))
  have HSH := Lib.hid (fun w' v (h : N w' v z) => rshl_K w' v z 161 161 (by omega) (by omega) h hlz hz)
  rw [hm] at HSH hr hx
  have HRT := Lib.hid (fun w' v (h : N w' v m) => rroot_any w' v m h hlm)
  have HUQ := Lib.hid (fun q (h : Sq m q) => h.uniq hr)
  have HMU := Lib.hid (fun w' va vb (ha : N w' va r) (hb : N w' vb r) => rmul_any w' va vb r r ha hb hlr hlr)
  have HSM := Lib.hid (fun w' va vb (ha : N w' va (r * r)) (hb : N w' vb m) => rsame_ext w' va vb (r * r) m ha hb)
  rw [decide_eq_true hx] at HSM
  have HMK := Lib.hid (fun w' v (h : N w' v r) => rmake_pos w' v r (t - 80) h hlr (by omega))
  have HNR := Lib.hid (fun w' v (h : Dn w' v (dy (r : Int) (t - 80))) => rnear_nb w' v _ h (Nb.of_rg (P := 1100) (Q := 1100) (Rg.of_bits (n := 107) (by rw [Int.natAbs_natCast]; exact hrl) (by omega) (by omega)) (by omega) (by omega)))
  obtain ⟨e, he⟩ : ∃ e, 2 * t + 1 = e := ⟨_, rfl⟩
  have hmod : ((e - 160).tmod 2 != 0) = true := by
    have h1 := Int.tmod_add_mul_tdiv (e - 160) 2
    have : (e - 160).tmod 2 ≠ 0 := by omega
    simpa using this
  have hdiv : (e - 161).tdiv 2 = t - 80 := by rw [← he, show 2 * t + 1 - 161 = 2 * (t - 80) by omega]; exact Int.mul_tdiv_cancel_left _ (by omega)
  have heb : -2000 ≤ e ∧ e ≤ 2001 := by omega
  obtain ⟨heb1, heb2⟩ := heb
  rw [he] at HO HCN
  have HZ := Lib.hid hz
  have hE1 : -1080 ≤ t - 80 := by omega
  have hE2 : t - 80 ≤ 920 := by omega
  generalize t - 80 = E at *
  clear hof hc hm hlz hml hlm hrl hlr hr hx hz2 h53 ht he hz
  go_enter Try.func18, Try.ntmps18
  go_wp2_with fail
  refine (ta.run _).mono ?_
  rintro _ _ ⟨rfl, rfl⟩
  go_wp2_with fail
  refine (HO.out _).mono ?_
  rintro _ w1 ⟨vd, rfl, nd, f1⟩
  have e1 : Ext w w1 := (Ext.refl w).trans f1
  have E1 : Ext w w1 := (Ext.refl w).trans e1
  clear f1 e1
  obtain ⟨A, l, c, z', e', rfl, hN, hc', hd, hl, _⟩ := nd.parts
  obtain ⟨rfl, rfl⟩ := HCN.out.uniq hc' hd
  rw [Int.natAbs_natCast] at hN
  clear nd hc' hd hl
  generalize decide (((z : Nat) : Int) < 0) = ng at *
  go_wp2_with fail
  refine (HSH.out _ _ (hN.ext ((Ext.refl w1).alloc _))).mono ?_
  rintro _ w2 ⟨vm, rfl, nm, f2⟩
  have Bd : Box w2 (w1.heap.size) (.bool ng) (.slice A l c) (.int .i64 e) := Box.at ((Ext.refl _).trans f2) (by simp)
  have e2 : Ext w1 w2 := ((Ext.refl w1).alloc _).trans f2
  replace hN := hN.ext e2
  have E2 : Ext w w2 := E1.trans e2
  clear f2 e2 E1
  go_wp2_with fail
  refine (HRT.out _ _ nm).mono ?_
  rintro _ w3 ⟨q, hq, vr, rfl, nr, f3⟩
  have e3 : Ext w2 w3 := (Ext.refl w2).trans f3
  replace nm := nm.ext e3
  replace Bd := Bd.ext e3
  have E3 : Ext w w3 := E2.trans e3
  clear f3 e3 E2
  obtain rfl := HUQ.out q hq
  obtain ⟨Bd_0, Bd_1, Bd_2⟩ := id Bd
  have Bd_l := World.block_lt_of_cell? _ _ Bd_0
  go_wp2_with fail
  refine (HMU.out _ _ _ nr nr).mono ?_
  rintro _ w4 ⟨vs, rfl, ns, f4⟩
  clear Bd_0 Bd_1 Bd_2 Bd_l
  have e4 : Ext w3 w4 := (Ext.refl w3).trans f4
  replace nm := nm.ext e4
  replace nr := nr.ext e4
  replace Bd := Bd.ext e4
  have E4 : Ext w w4 := E3.trans e4
  clear f4 e4 E3
  go_wp2_with fail
  refine (HSM.out _ _ _ ns nm).mono ?_
  rintro _ w5 ⟨rfl, f5⟩
  have e5 : Ext w4 w5 := (Ext.refl w4).trans f5
  replace nm := nm.ext e5
  replace nr := nr.ext e5
  replace Bd := Bd.ext e5
  have E5 : Ext w w5 := E4.trans e5
  clear f5 e5 E4
  go_wp2_with fail
  refine (HMK.out _ _ nr).mono ?_
  rintro _ w6 ⟨vk, rfl, nk, f6⟩
  have e6 : Ext w5 w6 := (Ext.refl w5).trans f6
  replace nm := nm.ext e6
  replace nr := nr.ext e6
  replace Bd := Bd.ext e6
  have E6 : Ext w w6 := E5.trans e6
  clear f6 e6 E5
  go_wp2_with fail
  refine (HNR.out _ _ nk).mono ?_
  rintro _ w7 ⟨c9, rfl, hc9, f7⟩
  have e7 : Ext w6 w7 := (Ext.refl w6).trans f7
  replace nm := nm.ext e7
  replace nr := nr.ext e7
  replace Bd := Bd.ext e7
  have E7 : Ext w w7 := E6.trans e7
  clear f7 e7 E6
  go_wp2
  go_ret
  exact ⟨c9, rfl, hc9, E7⟩
set_option maxRecDepth 10000 in
set_option maxHeartbeats 1000000 in
theorem rrootF_odd_no (w : World) (a z r : Nat) (t : Int) (p1 : (Ieee.double.order a a != some .eq) = false) (p2 : (Ieee.double.order a 0 == some .lt) = false) (p3 : (Ieee.double.order a 0 == some .eq) = false) (ta : InfT a false) (hof : ∀ w' : World, Calls Try.prog 21 #[.float .f64 a] w' (RetDB w' (dy (z : Int) (2 * t + 1)) true))
    (hc : Canon (z : Int) (2 * t + 1)) (hz : z ≠ 0) (hz2 : z < 9007199254740992) (ht : -1000 ≤ t ∧ t ≤ 1000) (hr : Sq (z * 2 ^ 161) r) (hx : r * r ≠ z * 2 ^ 161) : Calls Try.prog 18 #[.float .f64 a] w (RetFE w (dy ((2 * r + 1 : Nat) : Int) (t - 80 - 1))) := by
  have hf0 : FloatKind.f64.format = Ieee.double := rfl
  have HO := Lib.hid hof
  have HCN := Lib.hid hc
  obtain ⟨m, hm⟩ : ∃ m, z * 2 ^ 161 = m := ⟨_, rfl⟩
  have h53 : z < 2 ^ 53 := Nat.lt_of_lt_of_le hz2 (by decide)
  have hlz : Lt 400 z := Lt.of_bits (Nat.le_trans (bl_of_lt h53) (by omega))
  have hml : m < 2 ^ 214 := by
    have h1 : z * 2 ^ 161 < 2 ^ 53 * 2 ^ 161 := Nat.mul_lt_mul_of_pos_right h53 (Nat.two_pow_pos _)
    rw [← Nat.pow_add] at h1
    have h2 := Nat.pow_le_pow_right (show 0 < 2 by omega) (show 53 + 161 ≤ 214 by omega)
    omega
  have hlm : Lt 400 m := Lt.of_bits (Nat.le_trans (bl_of_lt hml) (by omega))
  have hrl : r < 2 ^ 107 := by
    rcases Nat.lt_or_ge r (2 ^ 107) with k | k
    · exact k
    · exfalso
      have h1 := hr.1
      have h2 := Nat.mul_le_mul k k
      rw [← Nat.pow_add] at h2
      omega
  have hlr : Lt 400 r := Lt.of_bits (Nat.le_trans (bl_of_lt hrl) (by omega))
  have HSH := Lib.hid (fun w' v (h : N w' v z) => rshl_K w' v z 161 161 (by omega) (by omega) h hlz hz)
  rw [hm] at HSH hr hx
  have HRT := Lib.hid (fun w' v (h : N w' v m) => rroot_any w' v m h hlm)
  have HUQ := Lib.hid (fun q (h : Sq m q) => h.uniq hr)
  have HMU := Lib.hid (fun w' va vb (ha : N w' va r) (hb : N w' vb r) => rmul_any w' va vb r r ha hb hlr hlr)
  have HSM := Lib.hid (fun w' va vb (ha : N w' va (r * r)) (hb : N w' vb m) => rsame_ext w' va vb (r * r) m ha hb)
  rw [decide_eq_false hx] at HSM
  have hr0 : r ≠ 0 := by
    rintro rfl
    have h1 := hr.2
    have h2 : 1 * 2 ^ 161 ≤ z * 2 ^ 161 := Nat.mul_le_mul_right _ (by omega)
    have h3 := Nat.pow_le_pow_right (show 0 < 2 by omega) (show 1 ≤ 161 by omega)
    omega
  have h108 : (2 : Nat) ^ 108 = 2 * 2 ^ 107 := by decide
  have hb2 : 2 * r + 1 < 2 ^ 108 := by omega
  have hl2 : Lt 400 (2 * r + 1) := Lt.of_bits (Nat.le_trans (bl_of_lt hb2) (by omega))
  have HS1 := Lib.hid (fun w' v (h : N w' v r) => rshl_K w' v r 1 1 (by omega) (by omega) h hlr hr0)
  rw [show r * 2 ^ 1 = 2 * r by omega] at HS1
  have HAD := Lib.hid (fun w' va vb (ha : N w' va (2 * r)) (hb : N w' vb 1) => radd_any w' va vb (2 * r) 1 ha hb (Lt.of_le hl2 (by omega)) (Lt.of_le hl2 (by omega)))
  have HMK := Lib.hid (fun w' v (h : N w' v (2 * r + 1)) => rmake_pos w' v (2 * r + 1) (t - 80 - 1) h hl2 (by omega))
  have HNR := Lib.hid (fun w' v (h : Dn w' v (dy ((2 * r + 1 : Nat) : Int) (t - 80 - 1))) => rnear_nb w' v _ h (Nb.of_rg (P := 1100) (Q := 1100) (Rg.of_bits (n := 108) (by rw [Int.natAbs_natCast]; exact hb2) (by omega) (by omega)) (by omega) (by omega)))
  obtain ⟨e, he⟩ : ∃ e, 2 * t + 1 = e := ⟨_, rfl⟩
  have hmod : ((e - 160).tmod 2 != 0) = true := by
    have h1 := Int.tmod_add_mul_tdiv (e - 160) 2
    have : (e - 160).tmod 2 ≠ 0 := by omega
    simpa using this
  have hdiv : (e - 161).tdiv 2 = t - 80 := by rw [← he, show 2 * t + 1 - 161 = 2 * (t - 80) by omega]; exact Int.mul_tdiv_cancel_left _ (by omega)
  have heb : -2000 ≤ e ∧ e ≤ 2001 := by omega
  obtain ⟨heb1, heb2⟩ := heb
  rw [he] at HO HCN
  have HZ := Lib.hid hz
  have hE1 : -1080 ≤ t - 80 := by omega
  have hE2 : t - 80 ≤ 920 := by omega
  generalize t - 80 = E at *
  clear hof hc hm hlz hml hlm hrl hlr hr hx hz2 h53 ht he hz hr0 hb2 hl2 h108
  go_enter Try.func18, Try.ntmps18
  go_wp2_with fail
  refine (ta.run _).mono ?_
  rintro _ _ ⟨rfl, rfl⟩
  go_wp2_with fail
  refine (HO.out _).mono ?_
  rintro _ w1 ⟨vd, rfl, nd, f1⟩
  have e1 : Ext w w1 := (Ext.refl w).trans f1
  have E1 : Ext w w1 := (Ext.refl w).trans e1
  clear f1 e1
  obtain ⟨A, l, c, z', e', rfl, hN, hc', hd, hl, _⟩ := nd.parts
  obtain ⟨rfl, rfl⟩ := HCN.out.uniq hc' hd
  rw [Int.natAbs_natCast] at hN
  clear nd hc' hd hl
  generalize decide (((z : Nat) : Int) < 0) = ng at *
  go_wp2_with fail
  refine (HSH.out _ _ (hN.ext ((Ext.refl w1).alloc _))).mono ?_
  rintro _ w2 ⟨vm, rfl, nm, f2⟩
  have Bd : Box w2 (w1.heap.size) (.bool ng) (.slice A l c) (.int .i64 e) := Box.at ((Ext.refl _).trans f2) (by simp)
  have e2 : Ext w1 w2 := ((Ext.refl w1).alloc _).trans f2
  replace hN := hN.ext e2
  have E2 : Ext w w2 := E1.trans e2
  clear f2 e2 E1
  go_wp2_with fail
  refine (HRT.out _ _ nm).mono ?_
  rintro _ w3 ⟨q, hq, vr, rfl, nr, f3⟩
  have e3 : Ext w2 w3 := (Ext.refl w2).trans f3
  replace nm := nm.ext e3
  replace Bd := Bd.ext e3
  have E3 : Ext w w3 := E2.trans e3
  clear f3 e3 E2
  obtain rfl := HUQ.out q hq
  obtain ⟨Bd_0, Bd_1, Bd_2⟩ := id Bd
  have Bd_l := World.block_lt_of_cell? _ _ Bd_0
  go_wp2_with fail
  refine (HMU.out _ _ _ nr nr).mono ?_
  rintro _ w4 ⟨vs, rfl, ns, f4⟩
  clear Bd_0 Bd_1 Bd_2 Bd_l
  have e4 : Ext w3 w4 := (Ext.refl w3).trans f4
  replace nm := nm.ext e4
  replace nr := nr.ext e4
  replace Bd := Bd.ext e4
  have E4 : Ext w w4 := E3.trans e4
  clear f4 e4 E3
  go_wp2_with fail
  refine (HSM.out _ _ _ ns nm).mono ?_
  rintro _ w5 ⟨rfl, f5⟩
  have e5 : Ext w4 w5 := (Ext.refl w4).trans f5
  replace nm := nm.ext e5
  replace nr := nr.ext e5
  replace Bd := Bd.ext e5
  have E5 : Ext w w5 := E4.trans e5
  clear f5 e5 E4
  go_wp2_with fail
  refine (HS1.out _ _ nr).mono ?_
  rintro _ w6 ⟨vt, rfl, nt, f6⟩
  have e6 : Ext w5 w6 := (Ext.refl w5).trans f6
  replace nm := nm.ext e6
  replace nr := nr.ext e6
  replace Bd := Bd.ext e6
  have E6 : Ext w w6 := E5.trans e6
  clear f6 e6 E5
  go_wp2_with fail
  refine (HAD.out _ _ _ (nt.ext ((Ext.refl w6).alloc _)) (one_nat _ _)).mono ?_
  rintro _ w7 ⟨vu, rfl, nu, f7⟩
  have e7 : Ext w6 w7 := ((Ext.refl w6).alloc _).trans f7
  replace Bd := Bd.ext e7
  have E7 : Ext w w7 := E6.trans e7
  clear f7 e7 E6
  go_wp2_with fail
  refine (HMK.out _ _ nu).mono ?_
  rintro _ w8 ⟨vk, rfl, nk, f8⟩
  have e8 : Ext w7 w8 := (Ext.refl w7).trans f8
  replace Bd := Bd.ext e8
  have E8 : Ext w w8 := E7.trans e8
  clear f8 e8 E7
  go_wp2_with fail
  refine (HNR.out _ _ nk).mono ?_
  rintro _ w9 ⟨c9, rfl, hc9, f9⟩
  have e9 : Ext w8 w9 := (Ext.refl w8).trans f9
  replace Bd := Bd.ext e9
  have E9 : Ext w w9 := E8.trans e9
  clear f9 e9 E8
  go_wp2
  go_ret
  exact ⟨c9, rfl, hc9, E9⟩
theorem exists_sq (n : Nat) : ∃ r, Sq n r := ⟨_, rootFrom_spec n (n.log2 / 2 + 1) 0 (by omega) (root_start n)⟩
theorem big_shift {z k : Nat} (hz : z ≠ 0) (hk : 108 ≤ k) : 324518553658426726783156020576256 ≤ z * 2 ^ k := by
  have h1 : 1 * 2 ^ k ≤ z * 2 ^ k := Nat.mul_le_mul_right _ (by omega)
  have h2 := Nat.pow_le_pow_right (show 0 < 2 by omega) hk
  have h3 : 2 ^ 108 = 324518553658426726783156020576256 := by decide
  omega
theorem stick_yes {n r : Nat} {E : Int} (h : Sq n r) (hn : 324518553658426726783156020576256 ≤ n) (hE : E ≤ 900) (hx : r * r = n) : Stick (dy (n : Int) (2 * E)) (dy (r : Int) E) r E := by
  have := stick_of h hn hE
  rw [show (r * r != n) = false by simpa using hx] at this
  rw [dy_nat_double r E]; exact this
theorem stick_no {n r : Nat} {E : Int} (h : Sq n r) (hn : 324518553658426726783156020576256 ≤ n) (hE : E ≤ 900) (hx : r * r ≠ n) : Stick (dy (n : Int) (2 * E)) (dy ((2 * r + 1 : Nat) : Int) (E - 1)) r E := by
  have := stick_of h hn hE
  rw [show (r * r != n) = true by simpa using hx] at this
  exact this
theorem val_over (z k : Nat) (e E : Int) (h : e = 2 * E + (k : Int)) : dy (z : Int) e = dy ((z * 2 ^ k : Nat) : Int) (2 * E) := by
  have := dy_up (z : Int) (2 * E) k
  rw [h, ← this, Int.natCast_mul, Int.natCast_pow]
  rfl
theorem key_pos_val {a : Nat} (h : 0 < fkey a) : 0 < fval a := by
  obtain ⟨s1, s2⟩ := pos_sign h
  unfold fval; rw [s1]; simp only [Bool.false_eq_true, if_false]
  exact rval_pos (by omega)
theorem rrootF_fin (w : World) (a : Nat) (ha : a < 18446744073709551616) (hF : Fin64 a) (hp : 0 < fkey a) : Calls Try.prog 18 #[.float .f64 a] w (RetW w (RootS a)) := by
  obtain ⟨z, e, hv, hc, hz, he1, he2⟩ := fin_canon hF
  have hpos := key_pos_val hp
  rw [hv, ← dy_zero e, dy_lt] at hpos
  obtain ⟨z, rfl⟩ : ∃ n : Nat, z = (n : Int) := ⟨z.toNat, by omega⟩
  rw [Int.natAbs_natCast] at hz
  have hz2 : z < 9007199254740992 := Nat.lt_of_lt_of_le hz (by decide)
  have hz0 : z ≠ 0 := by omega
  have p1 := ord_ne hF.num
  have p2 := ord_not_lt hF.num zero_key.2 (by rw [zero_key.1]; omega)
  have p3 := ord_neq hF.num zero_key.2 (by rw [zero_key.1]; omega)
  have ta := fin_t hF
  have hof : ∀ w' : World, Calls Try.prog 21 #[.float .f64 a] w' (RetDB w' (dy (z : Int) e) true) := fun w' => hv ▸ rofF_fin w' a ha hF
  have fin : ∀ {d : Dyadic} {r : Nat} {E : Int}, Stick (fval a) d r E → ∀ e' w', RetFE w d e' w' → RetW w (RootS a) e' w' := fun hs e' w' ⟨c, h1, h2, h3⟩ => ⟨c, h1, h2.lt, root_of_stick hF hp h2 hs, h3⟩
  rcases (by omega : e % 2 = 0 ∨ e % 2 = 1) with hpar | hpar
  · obtain ⟨t, ht⟩ : ∃ t, e = 2 * t := ⟨e / 2, by omega⟩
    subst ht
    have hn := big_shift (k := 160) hz0 (by omega)
    have hv2 := hv.trans (val_over z 160 (2 * t) (t - 80) (by omega))
    obtain ⟨r, hr⟩ := exists_sq (z * 2 ^ 160)
    by_cases hx : r * r = z * 2 ^ 160
    · exact (rrootF_even_yes w a z r t p1 p2 p3 ta hof hc hz0 hz2 (by omega) hr hx).mono (fin (by rw [hv2]; exact stick_yes hr hn (by omega) hx))
    · exact (rrootF_even_no w a z r t p1 p2 p3 ta hof hc hz0 hz2 (by omega) hr hx).mono (fin (by rw [hv2]; exact stick_no hr hn (by omega) hx))
  · obtain ⟨t, ht⟩ : ∃ t, e = 2 * t + 1 := ⟨e / 2, by omega⟩
    subst ht
    have hn := big_shift (k := 161) hz0 (by omega)
    have hv2 := hv.trans (val_over z 161 (2 * t + 1) (t - 80) (by omega))
    obtain ⟨r, hr⟩ := exists_sq (z * 2 ^ 161)
    by_cases hx : r * r = z * 2 ^ 161
    · exact (rrootF_odd_yes w a z r t p1 p2 p3 ta hof hc hz0 hz2 (by omega) hr hx).mono (fin (by rw [hv2]; exact stick_yes hr hn (by omega) hx))
    · exact (rrootF_odd_no w a z r t p1 p2 p3 ta hof hc hz0 hz2 (by omega) hr hx).mono (fin (by rw [hv2]; exact stick_no hr hn (by omega) hx))
theorem rrootF_any (w : World) (a : Nat) (ha : a < 18446744073709551616) : Calls Try.prog 18 #[.float .f64 a] w (RetW w (RootS a)) := by
  rcases nan_or_num a with h | h
  · exact (rroot_nan w a (ord_nan h.out)).mono fun _ _ k => RetC.al (c := 0) k (by omega) (.nan (.inl h) nan_word)
  · rcases Int.lt_trichotomy (fkey a) 0 with k | k | k
    · exact (rroot_neg w a (ord_ne h) (ord_lt h zero_key.2 (by rw [zero_key.1]; exact k))).mono fun _ _ r => RetC.al (c := 0) r (by omega) (.nan (.inr ⟨h, k⟩) nan_word)
    · exact (rroot_zero w a (ord_ne h) (ord_not_lt h zero_key.2 (by rw [zero_key.1]; omega)) (order_key h zero_key.2 (by rw [zero_key.1]; exact k))).mono fun _ _ r => RetC.al (c := 0) r ha (.zero h k h k)
    · rcases kinds a with q | q | q
      · exact (q.not h).elim
      · exact (rroot_inf w a (ord_ne h) (ord_not_lt h zero_key.2 (by rw [zero_key.1]; omega)) (ord_neq h zero_key.2 (by rw [zero_key.1]; omega)) (inf_t q)).mono fun _ _ r => RetC.al (c := 0) r ha (.inf q k (Al.refl a))
      · exact rrootF_fin w a ha q k
theorem rnear_nil (w : World) (nb : Bool) (A : Option Addr) (c : Nat) (e : Int) : Calls Try.prog 33 #[.agg #[.bool nb, .slice A 0 c, .int .i64 e]] w (RetFE w 0) := by
  have hx : Rn 0 0 := zero_rn (by rw [mid_zero]; decide +kernel)
  have HX := Lib.hid hx
  clear hx
  go_enter Try.func33, Try.ntmps33
  go_wp2
  go_ret
  exact ⟨_, rfl, HX.out, (Ext.refl w).alloc _⟩
set_option maxRecDepth 10000 in
theorem rscale_no (w : World) (a : Nat) (k : Int) (hof : ∀ w' : World, Calls Try.prog 21 #[.float .f64 a] w' (RetDB w' 0 false)) : Calls Try.prog 20 #[.float .f64 a, .int .i64 k] w (RetE w (.float .f64 a)) := by
  have HO := Lib.hid hof
  clear hof
  go_enter Try.func20, Try.ntmps20
  go_wp2_with fail
  refine (HO.out _).mono ?_
  rintro _ w1 ⟨v, rfl, n1, e1⟩
  obtain ⟨b1, A1, l1, c1, j1, rfl⟩ := n1.form
  go_wp2
  go_ret
  exact ⟨rfl, e1.alloc _⟩
set_option maxRecDepth 10000 in
theorem rscale_yes (w : World) (a : Nat) (k : Int) (z e : Int) (hof : ∀ w' : World, Calls Try.prog 21 #[.float .f64 a] w' (RetDB w' (dy z e) true)) (hc : Canon z e) (hz : z.natAbs < 2 ^ 53) (he : -1074 ≤ e ∧ e ≤ 1024) (hk : -5000 ≤ k ∧ k ≤ 5000) : Calls Try.prog 20 #[.float .f64 a, .int .i64 k] w (RetFE w (dy z (e + k))) := by
  have HO := Lib.hid hof
  have HCN := Lib.hid hc
  have HN := Lib.hid (fun w' v (h : Dn w' v (dy z (e + k))) (hc2 : Canon z (e + k)) => rnear_any w' v z (e + k) h hc2 (Lt.of_bits (Nat.le_trans (bl_of_lt hz) (by omega))) (by omega))
  have he1 : -1074 ≤ e := he.1
  have he2 : e ≤ 1024 := he.2
  have hk1 : -5000 ≤ k := hk.1
  have hk2 : k ≤ 5000 := hk.2
  clear hof hc hz he hk
  go_enter Try.func20, Try.ntmps20
  go_wp2_with fail
  refine (HO.out _).mono ?_
  rintro _ w1 ⟨v, rfl, n1, e1⟩
  obtain ⟨A, l, c, z', e', rfl, hN, hc', hd, hl, _⟩ := n1.parts
  obtain ⟨rfl, rfl⟩ := HCN.out.uniq hc' hd
  by_cases hz0 : z = 0
  · obtain rfl : l = 0 := hl.2 hz0
    have HV := Lib.hid (show dy z (e + k) = 0 by rw [hz0]; exact dy_zero _)
    clear n1 hc' hd hl hN HN
    generalize decide (z < 0) = ng at *
    go_wp2_with fail
    refine (rnear_nil _ _ _ _ _).mono ?_
    rintro _ w2 ⟨q, rfl, hq, e2⟩
    rw [← HV.out] at hq
    go_wp2
    go_ret
    exact ⟨q, rfl, hq, (e1.alloc _).trans e2⟩
  · have hc2 : Canon z (e + k) := ⟨by rcases hc'.out with h | h; exact absurd h.1 hz0; exact .inr h⟩
    have HC2 := Lib.hid hc2
    have HD := Lib.hid (fun (w' : World) (hE : Ext w1 w') => (⟨_, z, e + k, rfl, hN.ext hE, hc2, rfl⟩ : Dn w' (.agg #[.bool (decide (z < 0)), .slice A l c, .int .i64 (e + k)]) (dy z (e + k))))
    clear n1 hc' hd hl hN hc2
    generalize decide (z < 0) = ng at *
    go_wp2_with fail
    refine (HN.out _ _ (HD.out _ ((Ext.refl w1).alloc _)) HC2.out).mono ?_
    rintro _ w2 ⟨q, rfl, hq, e2⟩
    go_wp2
    go_ret
    exact ⟨q, rfl, hq, (e1.alloc _).trans e2⟩
theorem rscaleF_any (w : World) (a : Nat) (k : Int) (ha : a < 18446744073709551616) (hk : -5000 ≤ k ∧ k ≤ 5000) : Calls Try.prog 20 #[.float .f64 a, .int .i64 k] w (RetW w (ScaleS a k)) := by
  by_cases h : frung a < 9218868437227405312
  · obtain ⟨z, e, hv, hc, hz, he1, he2⟩ := fin_canon ⟨h⟩
    refine (rscale_yes w a k z e (fun w' => hv ▸ rofF_fin w' a ha ⟨h⟩) hc hz ⟨he1, he2⟩ hk).mono fun _ _ ⟨c, h1, h2, h3⟩ => ⟨c, h1, h2.lt, .inl ⟨⟨h⟩, ?_⟩, h3⟩
    rw [hv, dy_mul, Int.mul_one]; exact h2
  · exact (rscale_no w a k (fun w' => rofF_no w' a ha (by omega))).mono fun _ _ ⟨h1, h2⟩ => ⟨a, h1, ha, .inr ⟨by omega, rfl⟩, h2⟩

end Go.Proofs.Ytfghcfeldpcgcaa
