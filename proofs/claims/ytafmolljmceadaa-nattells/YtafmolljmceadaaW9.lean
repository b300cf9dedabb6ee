/- The walk of Root. -/
import Derived.Test.YtafmolljmceadaaW8
import Derived.Deep.RegionWith
import Derived.Deep.RegionHeld3
namespace Go.Proofs.Ytafmolljmceadaa
open Go.RowKit

theorem bl_shift {m : Nat} (k : Nat) (h : m ≠ 0) : bl (m * 2 ^ k) = bl m + k := by
  have hp := Nat.two_pow_pos k
  have h1 := bl_lt m
  have h2 := bl_le h
  have h3 : bl m ≠ 0 := by intro e0; rw [e0] at h1; simp at h1; omega
  obtain ⟨n, hn⟩ : ∃ n, bl m = n + 1 := ⟨bl m - 1, by omega⟩
  rw [hn] at h1 h2 ⊢
  rw [Nat.add_sub_cancel] at h2
  rw [Nat.add_right_comm]
  apply bl_is
  · rw [Nat.pow_add]; exact Nat.mul_le_mul_right _ h2
  · rw [Nat.add_right_comm, Nat.pow_add]; exact Nat.mul_lt_mul_of_pos_right h1 hp
theorem bl_pos {m : Nat} (h : m ≠ 0) : 0 < bl m := by
  rcases Nat.eq_zero_or_pos (bl m) with e | e
  · have := bl_lt m; rw [e] at this; simp at this; omega
  · exact e
theorem wide_len {b : List Int} {M m u : Nat} (nb : NF b) (eb : val b = (M : Int)) (hm : m ≠ 0) (hu : u = (47 - (bl m - 1) % 48) / 2) (hM : M = m * 2 ^ (2 * u)) : ∃ t, b.length = 2 * t + 2 := by
  have hM0 : M ≠ 0 := by
    rw [hM]; exact Nat.mul_ne_zero hm (by have := Nat.two_pow_pos (2 * u); omega)
  have hb0 : b ≠ [] := by
    intro e; subst e; simp [val] at eb; omega
  have hl : b.length ≠ 0 := by simpa using hb0
  obtain ⟨t0, t1⟩ := nb.1.at (b.length - 1)
  obtain ⟨t, ht⟩ := Int.eq_ofNat_of_zero_le t0
  have htop := bl_top nb hb0 eb ht
  have h24 : bl t ≤ 24 := bl_of_lt (n := 24) (by omega)
  have ht0 : t ≠ 0 := by
    rcases nb.2 with e | e
    · exact absurd e hb0
    · omega
  have hpos := bl_pos ht0
  have hsh : bl M = bl m + 2 * u := by rw [hM]; exact bl_shift _ hm
  have hmp := bl_pos hm
  exact ⟨b.length / 2 - 1, by omega⟩
/-- The upper end of a row, two limbs more. -/
theorem val_two {b : List Int} {t : Nat} (h : 2 * t + 1 < b.length) : val (b.drop (2 * t)) = val (b.drop (2 * (t + 1))) * 281474976710656 + nth b (2 * t + 1) * 16777216 + nth b (2 * t) := by
  have e1 := val_drop (a := b) (k := 2 * t) (by omega)
  have e2 := val_drop (a := b) (k := 2 * t + 1) (by omega)
  have e3 : 2 * (t + 1) = 2 * t + 1 + 1 := by omega
  rw [e3]
  omega

theorem first_int (w : World) (z : Int) (n : Nat) (hz : z = (n : Int)) (h1 : n < 281474976710656) (h0 : 0 < n) : Calls Try.prog 48 #[.int .i64 z] w (FirstPost w n) := by
  subst hz; exact first_any w n h1 h0

/-- It returned the root of m. -/
def RetSq (w : World) (m : Nat) (e : Ending) (w' : World) : Prop := ∃ r, Sq m r ∧ RetN w r e w'

set_option maxRecDepth 100000 in
set_option maxHeartbeats 4000000 in
theorem root_any (w : World) (v : Value) (m : Nat) (h : N w v m) (hm : Lt 300 m) : Calls Try.prog 32 #[v] w (RetSq w m) := by
  have hlen := len_any w v m h (hm.mono (by omega))
  obtain ⟨a, ra, na, ea⟩ := id h
  have la : a.length ≤ 300 := N.len hm na ea
  have hright := right_any w v a ra
  rw [right_iff.2 ⟨na, la⟩] at hright
  obtain ⟨A, c, rfl, h1, h2, h3⟩ := id ra
  by_cases hp : 0 < a.length
  · have hm0 : m ≠ 0 := by
      have := na.pos (by intro e; subst e; simp at hp)
      have := bp_pos (a.length - 1)
      omega
    obtain ⟨u, hu⟩ : ∃ u, u = (47 - (bl m - 1) % 48) / 2 := ⟨_, rfl⟩
    have hbl : bl m ≤ 7200 := hm.bits
    have hbp := bl_pos hm0
    have eu : (47 - ((bl m : Int) - 1) % 48) / 2 = (u : Int) := by omega
    have hu24 : u ≤ 23 := by omega
    have lM : Lt 302 (m * 2 ^ (2 * u)) := Lt.of_bits (by rw [bl_shift _ hm0]; omega)
    have HLen := Lib.hid hlen
    have HR := Lib.hid hright
    have HU := Lib.hid hu
    have hne : ((a.length : Int) == 0) = false := beq_eq_false_iff_ne.2 (by omega)
    have EU := Lib.hid eu
    have H := Lib.hid h
    clear hlen hright hu eu ra na ea h3
    go_enter Try.func32, Try.ntmps32
    go_wp2_with fail
    refine HR.out.mono ?_
    rintro e w' ⟨rfl, rfl⟩
    go_wp2_with fail
    refine HLen.out.mono ?_
    rintro e w' ⟨rfl, rfl⟩
    go_wp2_with fail
    rw [EU.out]
    refine (shl_nat w _ m (2 * u) (by omega) H.out (hm.mono (by omega))).mono ?_
    rintro e w1 ⟨vw, rfl, nw, e1⟩
    obtain ⟨M, hM⟩ : ∃ M, M = m * 2 ^ (2 * u) := ⟨_, rfl⟩
    rw [← hM] at nw lM
    obtain ⟨b, rb, nb, eb⟩ := id nw
    have lb : b.length ≤ 302 := N.len lM nb eb
    obtain ⟨T, hT⟩ := wide_len nb eb hm0 HU.out hM
    obtain ⟨B, cb, rfl, k1, k2, k3⟩ := id rb
    obtain ⟨bb, ob, rfl, hbb, hcb⟩ := k3 (by omega)
    have HCB := Lib.hid hcb
    have NB := Lib.hid nb
    have EB := Lib.hid eb
    have HM := Lib.hid hM
    have HT := Lib.hid hT
    clear k3 hcb nb eb hM rb nw hT
    obtain ⟨p, hp2⟩ : ∃ p, b.length = p + 2 := ⟨2 * T, HT.out⟩
    have hc1 := HCB.out (p + 1) (by omega)
    have hc2 := HCB.out p (by omega)
    obtain ⟨x1, hx1⟩ := Int.eq_ofNat_of_zero_le (NB.out.1.at (p + 1)).1
    obtain ⟨x0, hx0⟩ := Int.eq_ofNat_of_zero_le (NB.out.1.at p).1
    have y1 := (NB.out.1.at (p + 1)).2
    have y0 := (NB.out.1.at p).2
    rw [hx1] at hc1 y1
    rw [hx0] at hc2 y0
    have hpos : 0 < x1 * 16777216 + x0 := by
      rcases NB.out.2 with e | e
      · rw [e] at hp2; simp at hp2
      · rw [hp2] at e
        have e3 : p + 2 - 1 = p + 1 := by omega
        rw [e3, hx1] at e; omega
    have HX1 := Lib.hid hx1
    have HX0 := Lib.hid hx0
    have HP2 := Lib.hid hp2
    have ep : (b.length : Int) - 2 = (p : Int) := by omega
    have j1 : (p : Int) < (b.length : Int) := by omega
    have j2 : (p : Int) + 1 < (b.length : Int) := by omega
    have j3 : (0 : Int) ≤ (p : Int) + 1 := by omega
    have j4 : ((p : Int) + 1).toNat = p + 1 := by omega
    have HZ := Lib.hid (show (x1 : Int) * 16777216 + (x0 : Int) = ((x1 * 16777216 + x0 : Nat) : Int) by omega)
    have HZ1 := Lib.hid (show x1 * 16777216 + x0 < 281474976710656 by omega)
    have HZ0 := Lib.hid hpos
    have j6 : IntKind.i64.wrap ((x1 : Int) * 16777216) = (x1 : Int) * 16777216 := IntWalk.i64_in _ (by omega)
    have j7 : IntKind.i64.wrap ((x1 : Int) * 16777216 + (x0 : Int)) = (x1 : Int) * 16777216 + (x0 : Int) := IntWalk.i64_in _ (by omega)
    have j5 : IntKind.i64.wrap ((p : Int) + 1) = (p : Int) + 1 := IntWalk.i64_in _ (by omega)
    clear hx1 hx0 hp2 hpos
    go_wp2
    go_region_held3 (fun w' => w'.cell? ⟨bb, ob + (p + 1), none⟩ = some (.int .i64 x1) ∧ w'.cell? ⟨bb, ob + p, none⟩ = some (.int .i64 x0))
      (first | go_keep | exact ⟨(e2.cell hbb).trans (by first | exact hc1 | assumption), (e2.cell hbb).trans (by first | exact hc2 | assumption)⟩)
      ((go_at_call 48; refine (first_int _ _ (x1 * 16777216 + x0) HZ.out HZ1.out HZ0.out).mono ?_; rintro e w2 ⟨r, hsq, v1, v2, rfl, n1, n2, e2⟩))
    clear j1 j2 j3 j4 j5 j6 j7
    have hpb : p ≤ 302 := by have := HP2.out; omega
    have E2 : Ext w1 w2 := (Ext.refl w1).drew.trans e2
    have hval : val (b.drop (2 * T)) = ((r * r + (x1 * 16777216 + x0 - r * r) : Nat) : Int) := by
      have e1 : 2 * T = p := by have := HT.out; have := HP2.out; omega
      have e3 := val_drop (a := b) (k := p) (by have := HP2.out; omega)
      have e4 := val_drop (a := b) (k := p + 1) (by have := HP2.out; omega)
      have e5 : b.drop (p + 1 + 1) = [] := List.drop_eq_nil_of_le (by have := HP2.out; omega)
      rw [e5] at e4
      have h0 : val [] = 0 := rfl
      rw [e1, e3, e4, HX0.out, HX1.out, h0]
      have := hsq.1
      omega
    have hrest := sq_rest hsq (s := x1 * 16777216 + x0 - r * r) (by have := hsq.1; omega)
    have hr0 : 0 < r := by
      rcases Nat.eq_zero_or_pos r with e | e
      · have := hsq.2; have := HZ0.out; subst e; omega
      · exact e
    generalize x1 * 16777216 + x0 - r * r = s at *
    have HV := Lib.hid hval
    have hpT : p = 2 * T := by have := HT.out; have := HP2.out; omega
    have HPT := Lib.hid hpT
    clear hval hsq hc1 hc2 HZ HZ1 HZ0 y0 y1 HX1 HX0 ep hpT e2
    go_wp2
    go_loopw [5, 6, 7] (fun pl ro re wr => ∃ (z : Int) (t r s : Nat), pl = .int .i64 z ∧ Hid (z = 2 * (t : Int) - 2) ∧ t ≤ 151 ∧ Hid (2 * t + 2 ≤ b.length) ∧ Hid (val (b.drop (2 * t)) = ((r * r + s : Nat) : Int)) ∧ s ≤ 2 * r ∧ 0 < r ∧ N wr ro r ∧ N wr re s ∧ Ext w1 wr)
      (fun pl _ _ _ => (intOf pl + 2).toNat)
    case atStart => exact ⟨(p : Int) - 2, T, r, s, rfl, by show _ = _; have := HPT.out; omega, by have := HT.out; omega, by show _ ≤ _; have := HT.out; omega, HV.out, hrest, hr0, n1, n2, E2⟩
    case round =>
      clear n1 n2 E2 HV hrest hr0
      obtain ⟨z, t, r, s, rfl, hz, ht, htl, hv, hs, hr, n1, n2, e2⟩ := hrel
      cases t with
      | zero =>
        have hz2 : z = -2 := hz.out
        subst hz2
        have hv := hv.out
        rw [Nat.mul_zero, List.drop_zero, EB.out] at hv
        have hsq : Sq M r := sq_of_rest (by exact_mod_cast hv) hs
        have lr : Lt 151 r := Lt.root (lM.mono (by omega)) hsq.1
        have hfin := sq_down (m := m) (u := u) (R := r) (by rw [← HM.out]; exact hsq)
        have HF := Lib.hid hfin
        clear hv hsq hfin
        go_wp2_with fail
        refine (shr_nat wr _ r u (by omega) n1 (lr.mono (by omega))).mono ?_
        rintro e w3 ⟨v3, rfl, n3, e3⟩
        go_wp2
        go_ret
        exact ⟨_, HF.out, _, rfl, n3, e1.trans (e2.trans e3)⟩
      | succ t =>
        obtain ⟨q, hq⟩ : ∃ q, q = 2 * t := ⟨_, rfl⟩
        have hzq : z = (q : Int) := by have := hz.out; omega
        subst hzq
        have hc1 := (e2.cell (p := ⟨bb, ob + (q + 1), none⟩) hbb).trans (HCB.out (q + 1) (by have := htl.out; omega))
        have hc2 := (e2.cell (p := ⟨bb, ob + q, none⟩) hbb).trans (HCB.out q (by have := htl.out; omega))
        obtain ⟨x1, hx1⟩ := Int.eq_ofNat_of_zero_le (NB.out.1.at (q + 1)).1
        obtain ⟨x0, hx0⟩ := Int.eq_ofNat_of_zero_le (NB.out.1.at q).1
        have y1 := (NB.out.1.at (q + 1)).2
        have y0 := (NB.out.1.at q).2
        rw [hx1] at hc1 y1
        rw [hx0] at hc2 y0
        have hbw : bb < wr.heap.size := Nat.lt_of_lt_of_le hbb e2.size
        have lr : Lt 151 r := by
          refine Lt.root (x := r * r + s) ?_ (by omega)
          refine ⟨?_⟩
          rw [← hv.out]
          have h1 := val_drop_le NB.out.1 (2 * (t + 1))
          have h2 := (lM.mono (show 302 ≤ 151 + 151 by omega)).out
          rw [EB.out] at h1
          omega
        have hnew := val_two (b := b) (t := t) (by have := htl.out; omega)
        rw [hv.out, ← hq, hx1, hx0] at hnew
        have HNEW := Lib.hid hnew
        have HQ := Lib.hid hq
        have Y1 := Lib.hid (show x1 < 16777216 by omega)
        have Y0 := Lib.hid (show x0 < 16777216 by omega)
        have LR := Lib.hid (lr.mono (show 151 ≤ 160 by omega))
        have j1 : (q : Int) < (b.length : Int) := by have := htl.out; omega
        have j2 : (q : Int) + 1 < (b.length : Int) := by have := htl.out; omega
        have j3 : (0 : Int) ≤ (q : Int) + 1 := by omega
        have j0 : (0 : Int) ≤ (q : Int) := by omega
        have j4 : ((q : Int) + 1).toNat = q + 1 := by omega
        have j5 : IntKind.i64.wrap ((q : Int) + 1) = (q : Int) + 1 := IntWalk.i64_in _ (by have := htl.out; omega)
        clear hx1 hx0 hnew hq
        go_wp2
        go_region_held3 (fun w' => w'.cell? ⟨bb, ob + (q + 1), none⟩ = some (.int .i64 x1) ∧ w'.cell? ⟨bb, ob + q, none⟩ = some (.int .i64 x0))
          (first | go_keep | exact ⟨(e5.cell hbw).trans (by first | exact hc1 | assumption), (e5.cell hbw).trans (by first | exact hc2 | assumption)⟩)
          ((go_at_call 49; refine (next_any _ _ _ r s x1 x0 (n1.ext (Ext.refl wr).drew) (n2.ext (Ext.refl wr).drew) Y1.out Y0.out hr hs LR.out).mono ?_; rintro e w3 ⟨l, hf, hn, v1, v2, rfl, n5, n6, e5⟩))
        clear j1 j2 j3 j4 j5 j0
        have hqb : q ≤ 302 := by have := HQ.out; omega
        go_wp2
        go_roundw
        case rel =>
          have hst := fit_step (x := r * r + s) rfl hf hn
          have E5 : Ext w1 w3 := e2.trans ((Ext.refl wr).drew.trans e5)
          refine ⟨(q : Int) - 2, t, _, _, by go_num, by show _ = _; have := HQ.out; omega, by omega, by show _ ≤ _; have := htl.out; omega, ?_, sq_rest hst.1 hst.2, ?_, n5, n6, E5⟩
          · show _ = _
            rw [← hst.2, ← HQ.out, HNEW.out]
            generalize r * r + s = X
            omega
          · omega
        case measure => simp [intOf]; omega
  · have e0 : a = [] := List.eq_nil_of_length_eq_zero (by omega)
    subst e0
    have hm0 : m = 0 := by simp [val] at ea; omega
    subst hm0
    clear h3 ra na ea hright hlen h
    go_enter Try.func32, Try.ntmps32
    go_wp2
    go_ret
    exact ⟨0, ⟨by omega, by omega⟩, _, rfl, N.zero _ _ _ (by simp [maxLen]), Ext.refl _⟩

end Go.Proofs.Ytafmolljmceadaa
