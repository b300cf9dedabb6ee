/- The head of the laws on dyadic numbers. -/
import Derived.Test.YtjnnodbejnmkmaaDoorG1
namespace Go.Proofs.YtjnnodbejnmkmaaDoor
open Go.RowKit

theorem nat_one (w : World) (x : Int) (t : TypeId) (m : Nat) (h0 : 0 < x) (h1 : x < 16777216) (hm : x = (m : Int)) : N (w.alloc (.cells #[.int .i64 x] t)) (.slice (some ⟨w.heap.size, 0, none⟩) 1 1) m :=
  ⟨[x], row_one w x t, ⟨fun j hj => by
    have : j = 0 := by simpa using hj
    subst this; rw [nth_cons_zero]; omega, .inr (by simp [nth_cons_zero]; omega)⟩, by simp [val]; omega⟩
/-- A number that is written out. -/
theorem lit_dn (w : World) (x e z : Int) (neg : Bool) (t : TypeId) (h0 : 0 < x) (h1 : x < 16777216) (h2 : x % 2 = 1) (hz : z = sg neg x.toNat) : Dn (w.alloc (.cells #[.int .i64 x] t)) (.agg #[.bool neg, .slice (some ⟨w.heap.size, 0, none⟩) 1 1, .int .i64 e]) (dy z e) := by
  subst hz
  refine ⟨_, sg neg x.toNat, e, by rw [sg_neg (by omega)], by rw [sg_abs]; exact nat_one w x t x.toNat h0 h1 (by omega), ⟨.inr ?_⟩, rfl⟩
  cases neg
  · show ((x.toNat : Nat) : Int) % 2 = 1; omega
  · show -((x.toNat : Nat) : Int) % 2 = 1; omega
theorem same_lit (w : World) (va vb : Value) (x y : Dyadic) (h : x = y) (ha : Dn w va x) (hb : Dn w vb y) : Calls Tryd.prog 13 #[va, vb] w (RetE w (.bool true)) := by
  subst h; exact rsameD_eq w va vb x ha hb
theorem cmp_lit (w : World) (va vb : Value) (x y : Dyadic) (P Q P' Q' : Nat) (r : Int) (h : cmpD x y = r) (ha : Dn w va x) (hb : Dn w vb y) (hx : Rg P Q x) (hy : Rg P' Q' y) (h1 : P + Q ≤ 4800) (h2 : P' + Q' ≤ 4800) : Calls Tryd.prog 18 #[va, vb] w (RetE w (.int .i64 r)) := by
  subst h; exact cmpD_any w va vb x y P Q P' Q' ha hb hx hy h1 h2
theorem sign_lit (w : World) (v : Value) (d : Dyadic) (r : Int) (h : cmpD d 0 = r) (hd : Dn w v d) : Calls Tryd.prog 20 #[v] w (RetE w (.int .i64 r)) := by
  subst h; exact signD_any w v d hd
theorem make_lit (w : World) (neg : Bool) (v : Value) (m : Nat) (e : Int) (d : Dyadic) (hd : dy (sg neg m) e = d) (h : N w v m) (hm : Lt 400 m) (he : -1000000 ≤ e ∧ e ≤ 1000000) (T : Tb w) : Calls Tryd.prog 30 #[.bool neg, v, .int .i64 e] w (RetD w d) := by
  subst hd; exact make_any w neg v m e h hm he T
theorem add_lit (w : World) (va vb : Value) (x y d : Dyadic) (P Q : Nat) (hd : x + y = d) (ha : Dn w va x) (hb : Dn w vb y) (hx : Rg P Q x) (hy : Rg P Q y) (h1 : P + Q ≤ 2400) (T : Tb w) : Calls Tryd.prog 14 #[va, vb] w (RetD w d) := by
  subst hd; exact addD_any w va vb x y P Q ha hb hx hy h1 T
theorem mul_lit (w : World) (va vb : Value) (x y d : Dyadic) (P Q P' Q' : Nat) (hd : x * y = d) (ha : Dn w va x) (hb : Dn w vb y) (hx : Rg P Q x) (hy : Rg P' Q' y) (h1 : P + Q ≤ 4800) (h2 : P' + Q' ≤ 4800) (T : Tb w) : Calls Tryd.prog 16 #[va, vb] w (RetD w d) := by
  subst hd; exact mulD_any w va vb x y P Q P' Q' ha hb hx hy h1 h2 T
theorem flip_lit (w : World) (v : Value) (x d : Dyadic) (P Q : Nat) (hd : -x = d) (h : Dn w v x) (r : Rg P Q x) (hb : P + Q ≤ 9600) (T : Tb w) : Calls Tryd.prog 22 #[v] w (RetD w d) := by
  subst hd; exact flipD_any w v x P Q h r hb T
theorem shift_lit (w : World) (v : Value) (z e k : Int) (d : Dyadic) (hd : dy z (e + k) = d) (h : Dn w v (dy z e)) (hc : Canon z e) (hm : Lt 400 z.natAbs) (he : -400000 ≤ e ∧ e ≤ 400000) (hk : -400000 ≤ k ∧ k ≤ 400000) (T : Tb w) : Calls Tryd.prog 24 #[v, .int .i64 k] w (RetD w d) := by
  subst hd; exact shiftD_any w v z e k h hc hm he hk T
theorem cut_lit (w : World) (v : Value) (z e i : Int) (n P Q : Nat) (up : Bool) (x d : Dyadic) (hi : i = (n : Int)) (hx : x = dy z e) (hd : cutD z e n up = d) (h : Dn w v x) (hc : Canon z e) (hr : Rg P Q (dy z e)) (hb : P + Q ≤ 4800) (hn : n ≤ 100000) (T : Tb w) : Calls Tryd.prog 26 #[v, .int .i64 i, .bool up] w (RetD w d) := by
  subst hd hi hx; exact cutD_any w v z e n P Q up h hc hr hb hn T
theorem right_dn {w : World} {v : Value} {d : Dyadic} {P Q : Nat} (h : Dn w v d) (r : Rg P Q d) (hb : P + Q ≤ 1440) : ∃ (nb : Bool) (M : Value) (xs : List Int) (e : Int), v = .agg #[.bool nb, M, .int .i64 e] ∧ Row w M xs ∧ rightD nb xs e = true ∧ -9223372036854775808 ≤ e ∧ e ≤ 9223372036854775807 := by
  obtain ⟨M, z, e, rfl, ⟨xs, hr, nf, ev⟩, hc, rfl⟩ := h
  obtain ⟨a, b, c⟩ := r.canon hc
  refine ⟨_, M, xs, e, rfl, hr, ?_, by omega, by omega⟩
  have hl : xs.length ≤ 60 := N.len (m := z.natAbs) (Lt.of_bits (Nat.le_trans (bl_of_lt c) (by omega))) nf ev
  unfold rightD
  rw [right_iff.2 ⟨nf, by omega⟩, decide_eq_true hl]
  by_cases h0 : xs.length = 0
  · rw [if_pos h0]
    obtain rfl : xs = [] := by simpa using h0
    have hz : z = 0 := by simp [val] at ev; omega
    subst hz
    have he : e = 0 := by rcases hc.out with k | k <;> omega
    subst he
    rfl
  · rw [if_neg h0]
    have hne : xs ≠ [] := by intro e0; subst e0; simp at h0
    have hodd := val_mod2 hne
    have hz : z % 2 = 1 := by
      rcases hc.out with k | k
      · exfalso
        have := nf.pos hne
        have := bp_pos (xs.length - 1)
        omega
      · exact k
    rw [decide_eq_true (show nth xs 0 % 2 = 1 by omega), decide_eq_true (show -6000 ≤ e by omega), decide_eq_true (show e ≤ 6000 by omega)]
    rfl
theorem rightDn_any (w : World) (v : Value) (d : Dyadic) (P Q : Nat) (h : Dn w v d) (r : Rg P Q d) (hb : P + Q ≤ 1440) : Calls Tryd.prog 10 #[v] w (RetE w (.bool true)) := by
  obtain ⟨nb, M, xs, e, rfl, hr, ht, he⟩ := right_dn h r hb
  have := rightD_any w nb M xs e hr he
  rwa [ht] at this
theorem rrightDn_any (w : World) (v : Value) (d : Dyadic) (P Q : Nat) (h : Dn w v d) (r : Rg P Q d) (hb : P + Q ≤ 1440) : Calls Tryd.prog 11 #[v] w (RetE w (.bool true)) := by
  obtain ⟨nb, M, xs, e, rfl, hr, ht, he⟩ := right_dn h r hb
  have := rrightD_any w nb M xs e hr he
  rwa [ht] at this
theorem rightLit_any (w : World) (nb : Bool) (v : Value) (xs : List Int) (e : Int) (h : Row w v xs) (he : -9223372036854775808 ≤ e ∧ e ≤ 9223372036854775807) (hr : rightD nb xs e = false) : Calls Tryd.prog 10 #[.agg #[.bool nb, v, .int .i64 e]] w (RetE w (.bool false)) := by
  have := rightD_any w nb v xs e h he
  rwa [hr] at this
theorem rg_lit (z e : Int) (h : -1000 ≤ z ∧ z ≤ 1000) (k : -20 ≤ e ∧ e ≤ 20) : Rg 20 31 (dy z e) := by
  refine ⟨z * 2 ^ (e + 20).toNat, dy_down z e 20 (by omega), ?_⟩
  have h1 := pow2_mono (show (e + 20).toNat ≤ 40 by omega)
  have h2 := pow2_pos (e + 20).toNat
  have := mul_bound h2 (x := z) (a := 1024) (by omega) (by omega)
  have h3 : (1024 : Int) * 2 ^ (e + 20).toNat ≤ 1024 * 2 ^ 40 := Int.mul_le_mul_of_nonneg_left h1 (by omega)
  have h4 : (1024 : Int) * 2 ^ 40 ≤ 2 ^ (20 + 31) := by decide
  omega

theorem box3 {w : World} {g : Nat} {x y z : Value} (h : Box w g x y z) : w.cell? ⟨g, 0, none⟩ = some x ∧ w.cell? ⟨g, 1, none⟩ = some y ∧ w.cell? ⟨g, 2, none⟩ = some z := ⟨h.c0, h.c1, h.c2⟩
theorem box3_set {w : World} {g i : Nat} {x y z a b c : Value} (h : Box w g x y z) (n : g ≠ i) :
    (((w.setCell ⟨i, 0, none⟩ a).setCell ⟨i, 1, none⟩ b).setCell ⟨i, 2, none⟩ c).cell? ⟨g, 0, none⟩ = some x ∧ (((w.setCell ⟨i, 0, none⟩ a).setCell ⟨i, 1, none⟩ b).setCell ⟨i, 2, none⟩ c).cell? ⟨g, 1, none⟩ = some y ∧ (((w.setCell ⟨i, 0, none⟩ a).setCell ⟨i, 1, none⟩ b).setCell ⟨i, 2, none⟩ c).cell? ⟨g, 2, none⟩ = some z := box3 (h.set3 n)
/-- The numbers that the head asks of, behind names. -/
structure HeadD (xa xb x3 xm xf xs x5 x6 x4 xn xo : Dyadic) : Prop where
  a : xa = dy (-5) (-1)
  b : xb = dy 1 (-1)
  three : x3 = dy 3 0
  m : xm = dy (-5) (-2)
  f : xf = dy 5 (-1)
  s : xs = dy (-5) 1
  five : x5 = dy 5 0
  six : x6 = dy 6 0
  four : x4 = dy 4 0
  nfive : xn = dy (-5) 0
  nfour : xo = dy (-4) 0

set_option maxRecDepth 100000 in
set_option maxHeartbeats 4000000 in
theorem headD_any (w : World) (T : Tb w) : Calls Tryd.prog 9 #[] w (RetE w (.bool true)) := by
  obtain ⟨xa, xb, x3, xm, xf, xs, x5, x6, x4, xn, xo, H⟩ : ∃ xa xb x3 xm xf xs x5 x6 x4 xn xo, HeadD xa xb x3 xm xf xs x5 x6 x4 xn xo := ⟨_, _, _, _, _, _, _, _, _, _, _, ⟨rfl, rfl, rfl, rfl, rfl, rfl, rfl, rfl, rfl, rfl, rfl⟩⟩
  have ra : Rg 20 31 xa := by rw [H.a]; exact rg_lit _ _ (by omega) (by omega)
  have rb : Rg 20 31 xb := by rw [H.b]; exact rg_lit _ _ (by omega) (by omega)
  have r3 : Rg 20 31 x3 := by rw [H.three]; exact rg_lit _ _ (by omega) (by omega)
  have q1 : xa + x3 = xb := by rw [H.a, H.b, H.three]; decide +kernel
  have q2 : xa * xb = xm := by rw [H.a, H.b, H.m]; decide +kernel
  have q3 : cmpD xa xb = -1 := by rw [H.a, H.b]; decide +kernel
  have q4 : cmpD xa 0 = -1 := by rw [H.a]; decide +kernel
  have q5 : cmpD 0 0 = 0 := by decide +kernel
  have q6 : -xa = xf := by rw [H.a, H.f]; decide +kernel
  have q0 : dy (sg true 20) (-3) = xa := by rw [H.a]; decide +kernel
  have HQ := Lib.hid (And.intro q1 (And.intro q2 (And.intro q3 (And.intro q4 (And.intro q5 (And.intro q6 q0))))))
  clear q1 q2 q3 q4 q5 q6 q0
  go_enter Tryd.func9, Tryd.ntmps9
  go_wp2_with fail
  refine (rof_any _ _ (by omega)).mono ?_
  rintro _ w1 ⟨v1, rfl, n1, e1⟩
  replace T := T.ext e1
  have E1 := e1
  clear e1
  go_wp2_with fail
  refine (make_lit _ true v1 20 (-3) xa HQ.out.2.2.2.2.2.2 n1 (Lt.of_bits (by decide)) (by omega) T).mono ?_
  rintro _ w2 ⟨v2, rfl, n2, e2⟩
  replace T := T.ext e2
  have E2 := E1.trans e2
  clear E1
  clear e2
  clear n1
  obtain ⟨b2, A2, l2, c2, i2, rfl⟩ := n2.form
  have Ba0 : Box (w2.alloc (.cells #[.bool b2, .slice A2 l2 c2, .int .i64 i2] 24)) w2.heap.size (.bool b2) (.slice A2 l2 c2) (.int .i64 i2) := Box.at (Ext.refl _) rfl
  have e0 : Ext w2 (w2.alloc (.cells #[.bool b2, .slice A2 l2 c2, .int .i64 i2] 24)) := (Ext.refl _).alloc _
  replace T := T.ext e0
  replace n2 := n2.ext e0
  replace E2 := E2.trans e0
  go_upto_region 2 with fail
  generalize hW0 : w2.alloc (.cells #[.bool b2, .slice A2 l2 c2, .int .i64 i2] 24) = W0 at *
  obtain ⟨ga, Ba⟩ : ∃ ga, ga = w2.heap.size := ⟨_, rfl⟩
  rw [← Ba] at Ba0
  have hga : ga < W0.heap.size := World.block_lt_of_cell? W0 _ Ba0.c0
  simp only [← Ba]
  clear Ba hW0 e0
  go_cut [2] from 3 (fun p2 wx => ∃ (gb : Nat) (x y z : Value), p2 = .pointer (some ⟨gb, 0, none⟩) ∧ Box wx gb x y z ∧ Dn wx (.agg #[x, y, z]) xb ∧ Ext W0 wx)
  case first =>
    obtain ⟨a0, a1, a2⟩ := id Ba0
    have hne0 : ga ≠ W0.heap.size := by omega
    go_region_held3 (fun w' => w'.cell? ⟨ga, 0, none⟩ = some (.bool b2) ∧ w'.cell? ⟨ga, 1, none⟩ = some (.slice A2 l2 c2) ∧ w'.cell? ⟨ga, 2, none⟩ = some (.int .i64 i2)) (first | (with_reducible exact box3 (Ba0.ext F2)) | (with_reducible exact box3 (Ba0.ext (F2.alloc _))) | (with_reducible exact box3_set (Ba0.ext F2) hne0) | (with_reducible exact box3_set (Ba0.ext F2) hne3) | (with_reducible exact box3 (Ba0.ext F1)) | (with_reducible exact box3 (Ba0.ext (F1.alloc _))) | go_keep) (first | ((have hF := F1); (go_at_call 14); (refine (add_lit _ _ _ xa x3 xb 20 31 HQ.out.1 (n2.ext (by first | exact F1 | exact F1.alloc _)) (m1.ext (by first | exact Ext.refl _ | exact (Ext.refl _).alloc _)) ra r3 (by omega) (T.ext (by first | exact F1 | exact F1.alloc _))).mono ?_); (rintro _ w4 ⟨v4, rfl, m4, e4⟩); (obtain ⟨b4, A4, l4, c4, i4, rfl⟩ := m4.form); (have F2 : Ext W0 w4 := (by first | exact F1.trans e4 | exact (F1.alloc _).trans e4)); (try (have Zm := Zn.ext e4)); (try (have Zm := Zd.at e4 rfl)); (try (obtain ⟨z0, z1, z2, z3, zf⟩ := id Zm; have f0 := zf 0; have f1 := zf 1; have f2 := zf 2; clear z3 zf))) | ((go_at_call 28); (refine (ofD_any _ 3 (by omega) (T.ext (by first | exact (Ext.refl _).drew | exact ((Ext.refl _).alloc _).drew | exact (Ext.refl _).drew.alloc _))).mono ?_); (rintro _ w3 ⟨v3, rfl, m1, e3⟩); (rw [← H.three] at m1); (have F1 : Ext W0 w3 := (by first | exact (Ext.refl _).drew.trans e3 | exact (((Ext.refl _).alloc _).drew).trans e3 | exact ((Ext.refl _).drew.alloc _).trans e3)); (have hne3 : ga ≠ w3.heap.size := (by have := F1.size; omega)); (try (have Zn := Zd.at (w := W0) ((Ext.refl _).drew.trans e3) rfl))))
    all_goals (
      go_wp2_with fail
      go_meet
      case rel =>
        first
        | exact ⟨_, _, _, _, rfl, Box.at (Ext.refl _) rfl, m4.ext ((Ext.refl _).alloc _), F2.alloc _⟩
        | (obtain ⟨k0, k1, k2, hD⟩ := Zm.done m4 F2 (by have := F1.size; omega)
           obtain ⟨_, hv, hD, hE⟩ := hD
           injection hv with hv
           subst hv
           exact ⟨_, _, _, _, rfl, ⟨k0, k1, k2⟩, hD, hE⟩))
  case rest =>
    obtain ⟨gb, xb1, yb1, zb1, rfl, Bb, nb, F0⟩ := hcut
    have Ba := Ba0.ext F0
    replace T := T.ext F0
    replace n2 := n2.ext F0
    have E3 := E2.trans F0
    clear F0 Ba0 E2 hga
    obtain ⟨Ba_0, Ba_1, Ba_2⟩ := id Ba
    obtain ⟨Bb_0, Bb_1, Bb_2⟩ := id Bb
    go_wp2_with fail
    refine (same_lit _ _ _ xa (dy (-5) (-1)) (H.a) (n2.ext ((Ext.refl wc).alloc _)) (lit_dn _ 5 (-1) (-5) true _ (by omega) (by omega) (by omega) (by decide))).mono ?_
    rintro _ w5 ⟨rfl, f5⟩
    have e5 : Ext wc w5 := ((Ext.refl wc).alloc _).trans f5
    clear f5
    clear Ba_0 Ba_1 Ba_2 Bb_0 Bb_1 Bb_2
    replace T := T.ext e5
    replace n2 := n2.ext e5
    replace nb := nb.ext e5
    replace Ba := Ba.ext e5
    replace Bb := Bb.ext e5
    have E5 := E3.trans e5
    clear E3
    clear e5
    obtain ⟨Ba_0, Ba_1, Ba_2⟩ := id Ba
    obtain ⟨Bb_0, Bb_1, Bb_2⟩ := id Bb
    go_wp2_with fail
    refine (same_lit _ _ _ xb (dy (1) (-1)) (H.b) (nb.ext ((Ext.refl w5).alloc _)) (lit_dn _ 1 (-1) (1) false _ (by omega) (by omega) (by omega) (by decide))).mono ?_
    rintro _ w6 ⟨rfl, f6⟩
    have e6 : Ext w5 w6 := ((Ext.refl w5).alloc _).trans f6
    clear f6
    clear Ba_0 Ba_1 Ba_2 Bb_0 Bb_1 Bb_2
    replace T := T.ext e6
    replace n2 := n2.ext e6
    replace nb := nb.ext e6
    replace Ba := Ba.ext e6
    replace Bb := Bb.ext e6
    have E6 := E5.trans e6
    clear E5
    clear e6
    obtain ⟨Ba_0, Ba_1, Ba_2⟩ := id Ba
    obtain ⟨Bb_0, Bb_1, Bb_2⟩ := id Bb
    go_wp2_with fail
    refine (mul_lit _ _ _ xa xb xm 20 31 20 31 HQ.out.2.1 n2 nb ra rb (by omega) (by omega) T).mono ?_
    rintro _ w7 ⟨v7, rfl, n7, e7⟩
    clear Ba_0 Ba_1 Ba_2 Bb_0 Bb_1 Bb_2
    replace T := T.ext e7
    replace n2 := n2.ext e7
    replace nb := nb.ext e7
    replace Ba := Ba.ext e7
    replace Bb := Bb.ext e7
    have E7 := E6.trans e7
    clear E6
    clear e7
    obtain ⟨Ba_0, Ba_1, Ba_2⟩ := id Ba
    obtain ⟨Bb_0, Bb_1, Bb_2⟩ := id Bb
    go_wp2_with fail
    refine (same_lit _ _ _ xm (dy (-5) (-2)) (H.m) (n7.ext ((Ext.refl w7).alloc _)) (lit_dn _ 5 (-2) (-5) true _ (by omega) (by omega) (by omega) (by decide))).mono ?_
    rintro _ w8 ⟨rfl, f8⟩
    have e8 : Ext w7 w8 := ((Ext.refl w7).alloc _).trans f8
    clear f8
    clear Ba_0 Ba_1 Ba_2 Bb_0 Bb_1 Bb_2
    replace T := T.ext e8
    replace n2 := n2.ext e8
    replace nb := nb.ext e8
    replace n7 := n7.ext e8
    replace Ba := Ba.ext e8
    replace Bb := Bb.ext e8
    have E8 := E7.trans e8
    clear E7
    clear e8
    obtain ⟨Ba_0, Ba_1, Ba_2⟩ := id Ba
    obtain ⟨Bb_0, Bb_1, Bb_2⟩ := id Bb
    clear n7
    go_wp2_with fail
    refine (cmp_lit _ _ _ xa xb 20 31 20 31 (-1) HQ.out.2.2.1 n2 nb ra rb (by omega) (by omega)).mono ?_
    rintro _ w9 ⟨rfl, e9⟩
    clear Ba_0 Ba_1 Ba_2 Bb_0 Bb_1 Bb_2
    replace T := T.ext e9
    replace n2 := n2.ext e9
    replace nb := nb.ext e9
    replace Ba := Ba.ext e9
    replace Bb := Bb.ext e9
    have E9 := E8.trans e9
    clear E8
    clear e9
    obtain ⟨Ba_0, Ba_1, Ba_2⟩ := id Ba
    obtain ⟨Bb_0, Bb_1, Bb_2⟩ := id Bb
    go_wp2_with fail
    refine (sign_lit _ _ xa (-1) HQ.out.2.2.2.1 n2).mono ?_
    rintro _ w10 ⟨rfl, e10⟩
    clear Ba_0 Ba_1 Ba_2 Bb_0 Bb_1 Bb_2
    replace T := T.ext e10
    replace n2 := n2.ext e10
    replace nb := nb.ext e10
    replace Ba := Ba.ext e10
    replace Bb := Bb.ext e10
    have E10 := E9.trans e10
    clear E9
    clear e10
    obtain ⟨Ba_0, Ba_1, Ba_2⟩ := id Ba
    obtain ⟨Bb_0, Bb_1, Bb_2⟩ := id Bb
    go_wp2_with fail
    refine (sign_lit _ _ 0 0 HQ.out.2.2.2.2.1 (Dn.zero _)).mono ?_
    rintro _ w11 ⟨rfl, e11⟩
    clear Ba_0 Ba_1 Ba_2 Bb_0 Bb_1 Bb_2
    replace T := T.ext e11
    replace n2 := n2.ext e11
    replace nb := nb.ext e11
    replace Ba := Ba.ext e11
    replace Bb := Bb.ext e11
    have E11 := E10.trans e11
    clear E10
    clear e11
    obtain ⟨Ba_0, Ba_1, Ba_2⟩ := id Ba
    obtain ⟨Bb_0, Bb_1, Bb_2⟩ := id Bb
    go_wp2_with fail
    refine (flip_lit _ _ xa xf 20 31 HQ.out.2.2.2.2.2.1 n2 ra (by omega) T).mono ?_
    rintro _ w12 ⟨v12, rfl, n12, e12⟩
    clear Ba_0 Ba_1 Ba_2 Bb_0 Bb_1 Bb_2
    replace T := T.ext e12
    replace n2 := n2.ext e12
    replace nb := nb.ext e12
    replace Ba := Ba.ext e12
    replace Bb := Bb.ext e12
    have E12 := E11.trans e12
    clear E11
    clear e12
    obtain ⟨Ba_0, Ba_1, Ba_2⟩ := id Ba
    obtain ⟨Bb_0, Bb_1, Bb_2⟩ := id Bb
    go_wp2_with fail
    refine (same_lit _ _ _ xf (dy (5) (-1)) (H.f) (n12.ext ((Ext.refl w12).alloc _)) (lit_dn _ 5 (-1) (5) false _ (by omega) (by omega) (by omega) (by decide))).mono ?_
    rintro _ w13 ⟨rfl, f13⟩
    have e13 : Ext w12 w13 := ((Ext.refl w12).alloc _).trans f13
    clear f13
    clear Ba_0 Ba_1 Ba_2 Bb_0 Bb_1 Bb_2
    replace T := T.ext e13
    replace n2 := n2.ext e13
    replace nb := nb.ext e13
    replace n12 := n12.ext e13
    replace Ba := Ba.ext e13
    replace Bb := Bb.ext e13
    have E13 := E12.trans e13
    clear E12
    clear e13
    obtain ⟨Ba_0, Ba_1, Ba_2⟩ := id Ba
    obtain ⟨Bb_0, Bb_1, Bb_2⟩ := id Bb
    clear n12
    go_wp2_with fail
    refine (shift_lit _ _ (-5) (-1) 2 xs (by rw [H.s]; decide +kernel) (by rw [← H.a]; exact n2) ⟨.inr (by decide)⟩ (Lt.of_bits (by decide)) (by omega) (by omega) T).mono ?_
    rintro _ w14 ⟨v14, rfl, n14, e14⟩
    clear Ba_0 Ba_1 Ba_2 Bb_0 Bb_1 Bb_2
    replace T := T.ext e14
    replace n2 := n2.ext e14
    replace nb := nb.ext e14
    replace Ba := Ba.ext e14
    replace Bb := Bb.ext e14
    have E14 := E13.trans e14
    clear E13
    clear e14
    obtain ⟨Ba_0, Ba_1, Ba_2⟩ := id Ba
    obtain ⟨Bb_0, Bb_1, Bb_2⟩ := id Bb
    go_wp2_with fail
    refine (same_lit _ _ _ xs (dy (-5) (1)) (H.s) (n14.ext ((Ext.refl w14).alloc _)) (lit_dn _ 5 (1) (-5) true _ (by omega) (by omega) (by omega) (by decide))).mono ?_
    rintro _ w15 ⟨rfl, f15⟩
    have e15 : Ext w14 w15 := ((Ext.refl w14).alloc _).trans f15
    clear f15
    clear Ba_0 Ba_1 Ba_2 Bb_0 Bb_1 Bb_2
    replace T := T.ext e15
    replace n2 := n2.ext e15
    replace nb := nb.ext e15
    replace n14 := n14.ext e15
    replace Ba := Ba.ext e15
    replace Bb := Bb.ext e15
    have E15 := E14.trans e15
    clear E14
    clear e15
    obtain ⟨Ba_0, Ba_1, Ba_2⟩ := id Ba
    obtain ⟨Bb_0, Bb_1, Bb_2⟩ := id Bb
    clear n14
    go_wp2_with fail
    refine (ofD_any _ (5) (by omega) T).mono ?_
    rintro _ w16 ⟨v16, rfl, n16, e16⟩
    clear Ba_0 Ba_1 Ba_2 Bb_0 Bb_1 Bb_2
    replace T := T.ext e16
    replace n2 := n2.ext e16
    replace nb := nb.ext e16
    replace Ba := Ba.ext e16
    replace Bb := Bb.ext e16
    have E16 := E15.trans e16
    clear E15
    clear e16
    obtain ⟨Ba_0, Ba_1, Ba_2⟩ := id Ba
    obtain ⟨Bb_0, Bb_1, Bb_2⟩ := id Bb
    go_wp2_with fail
    refine (cut_lit _ _ (5) 0 2 2 20 31 true (dy (5) 0) x6 rfl rfl (by rw [H.six]; decide +kernel) n16 ⟨.inr (by decide)⟩ (rg_lit _ _ (by omega) (by omega)) (by omega) (by omega) T).mono ?_
    rintro _ w17 ⟨v17, rfl, n17, e17⟩
    clear Ba_0 Ba_1 Ba_2 Bb_0 Bb_1 Bb_2
    replace T := T.ext e17
    replace n2 := n2.ext e17
    replace nb := nb.ext e17
    replace n16 := n16.ext e17
    replace Ba := Ba.ext e17
    replace Bb := Bb.ext e17
    have E17 := E16.trans e17
    clear E16
    clear e17
    obtain ⟨Ba_0, Ba_1, Ba_2⟩ := id Ba
    obtain ⟨Bb_0, Bb_1, Bb_2⟩ := id Bb
    clear n16
    go_wp2_with fail
    refine (ofD_any _ 6 (by omega) T).mono ?_
    rintro _ w18 ⟨v18, rfl, n18, e18⟩
    clear Ba_0 Ba_1 Ba_2 Bb_0 Bb_1 Bb_2
    replace T := T.ext e18
    replace n2 := n2.ext e18
    replace nb := nb.ext e18
    replace n17 := n17.ext e18
    replace Ba := Ba.ext e18
    replace Bb := Bb.ext e18
    have E18 := E17.trans e18
    clear E17
    clear e18
    obtain ⟨Ba_0, Ba_1, Ba_2⟩ := id Ba
    obtain ⟨Bb_0, Bb_1, Bb_2⟩ := id Bb
    go_wp2_with fail
    refine (same_lit _ _ _ x6 (dy 6 0) H.six n17 n18).mono ?_
    rintro _ w19 ⟨rfl, e19⟩
    clear Ba_0 Ba_1 Ba_2 Bb_0 Bb_1 Bb_2
    replace T := T.ext e19
    replace n2 := n2.ext e19
    replace nb := nb.ext e19
    replace n17 := n17.ext e19
    replace n18 := n18.ext e19
    replace Ba := Ba.ext e19
    replace Bb := Bb.ext e19
    have E19 := E18.trans e19
    clear E18
    clear e19
    obtain ⟨Ba_0, Ba_1, Ba_2⟩ := id Ba
    obtain ⟨Bb_0, Bb_1, Bb_2⟩ := id Bb
    clear n17 n18
    go_wp2_with fail
    refine (ofD_any _ (5) (by omega) T).mono ?_
    rintro _ w20 ⟨v20, rfl, n20, e20⟩
    clear Ba_0 Ba_1 Ba_2 Bb_0 Bb_1 Bb_2
    replace T := T.ext e20
    replace n2 := n2.ext e20
    replace nb := nb.ext e20
    replace Ba := Ba.ext e20
    replace Bb := Bb.ext e20
    have E20 := E19.trans e20
    clear E19
    clear e20
    obtain ⟨Ba_0, Ba_1, Ba_2⟩ := id Ba
    obtain ⟨Bb_0, Bb_1, Bb_2⟩ := id Bb
    go_wp2_with fail
    refine (cut_lit _ _ (5) 0 2 2 20 31 false (dy (5) 0) x4 rfl rfl (by rw [H.four]; decide +kernel) n20 ⟨.inr (by decide)⟩ (rg_lit _ _ (by omega) (by omega)) (by omega) (by omega) T).mono ?_
    rintro _ w21 ⟨v21, rfl, n21, e21⟩
    clear Ba_0 Ba_1 Ba_2 Bb_0 Bb_1 Bb_2
    replace T := T.ext e21
    replace n2 := n2.ext e21
    replace nb := nb.ext e21
    replace n20 := n20.ext e21
    replace Ba := Ba.ext e21
    replace Bb := Bb.ext e21
    have E21 := E20.trans e21
    clear E20
    clear e21
    obtain ⟨Ba_0, Ba_1, Ba_2⟩ := id Ba
    obtain ⟨Bb_0, Bb_1, Bb_2⟩ := id Bb
    clear n20
    go_wp2_with fail
    refine (ofD_any _ 4 (by omega) T).mono ?_
    rintro _ w22 ⟨v22, rfl, n22, e22⟩
    clear Ba_0 Ba_1 Ba_2 Bb_0 Bb_1 Bb_2
    replace T := T.ext e22
    replace n2 := n2.ext e22
    replace nb := nb.ext e22
    replace n21 := n21.ext e22
    replace Ba := Ba.ext e22
    replace Bb := Bb.ext e22
    have E22 := E21.trans e22
    clear E21
    clear e22
    obtain ⟨Ba_0, Ba_1, Ba_2⟩ := id Ba
    obtain ⟨Bb_0, Bb_1, Bb_2⟩ := id Bb
    go_wp2_with fail
    refine (same_lit _ _ _ x4 (dy 4 0) H.four n21 n22).mono ?_
    rintro _ w23 ⟨rfl, e23⟩
    clear Ba_0 Ba_1 Ba_2 Bb_0 Bb_1 Bb_2
    replace T := T.ext e23
    replace n2 := n2.ext e23
    replace nb := nb.ext e23
    replace n21 := n21.ext e23
    replace n22 := n22.ext e23
    replace Ba := Ba.ext e23
    replace Bb := Bb.ext e23
    have E23 := E22.trans e23
    clear E22
    clear e23
    obtain ⟨Ba_0, Ba_1, Ba_2⟩ := id Ba
    obtain ⟨Bb_0, Bb_1, Bb_2⟩ := id Bb
    clear n21 n22
    go_wp2_with fail
    refine (ofD_any _ (-5) (by omega) T).mono ?_
    rintro _ w24 ⟨v24, rfl, n24, e24⟩
    clear Ba_0 Ba_1 Ba_2 Bb_0 Bb_1 Bb_2
    replace T := T.ext e24
    replace n2 := n2.ext e24
    replace nb := nb.ext e24
    replace Ba := Ba.ext e24
    replace Bb := Bb.ext e24
    have E24 := E23.trans e24
    clear E23
    clear e24
    obtain ⟨Ba_0, Ba_1, Ba_2⟩ := id Ba
    obtain ⟨Bb_0, Bb_1, Bb_2⟩ := id Bb
    go_wp2_with fail
    refine (cut_lit _ _ (-5) 0 2 2 20 31 true (dy (-5) 0) xo rfl rfl (by rw [H.nfour]; decide +kernel) n24 ⟨.inr (by decide)⟩ (rg_lit _ _ (by omega) (by omega)) (by omega) (by omega) T).mono ?_
    rintro _ w25 ⟨v25, rfl, n25, e25⟩
    clear Ba_0 Ba_1 Ba_2 Bb_0 Bb_1 Bb_2
    replace T := T.ext e25
    replace n2 := n2.ext e25
    replace nb := nb.ext e25
    replace n24 := n24.ext e25
    replace Ba := Ba.ext e25
    replace Bb := Bb.ext e25
    have E25 := E24.trans e25
    clear E24
    clear e25
    obtain ⟨Ba_0, Ba_1, Ba_2⟩ := id Ba
    obtain ⟨Bb_0, Bb_1, Bb_2⟩ := id Bb
    clear n24
    go_wp2_with fail
    refine (ofD_any _ (-4) (by omega) T).mono ?_
    rintro _ w26 ⟨v26, rfl, n26, e26⟩
    clear Ba_0 Ba_1 Ba_2 Bb_0 Bb_1 Bb_2
    replace T := T.ext e26
    replace n2 := n2.ext e26
    replace nb := nb.ext e26
    replace n25 := n25.ext e26
    replace Ba := Ba.ext e26
    replace Bb := Bb.ext e26
    have E26 := E25.trans e26
    clear E25
    clear e26
    obtain ⟨Ba_0, Ba_1, Ba_2⟩ := id Ba
    obtain ⟨Bb_0, Bb_1, Bb_2⟩ := id Bb
    go_wp2_with fail
    refine (same_lit _ _ _ xo (dy (-4) 0) H.nfour n25 n26).mono ?_
    rintro _ w27 ⟨rfl, e27⟩
    clear Ba_0 Ba_1 Ba_2 Bb_0 Bb_1 Bb_2
    replace T := T.ext e27
    replace n2 := n2.ext e27
    replace nb := nb.ext e27
    replace n25 := n25.ext e27
    replace n26 := n26.ext e27
    replace Ba := Ba.ext e27
    replace Bb := Bb.ext e27
    have E27 := E26.trans e27
    clear E26
    clear e27
    obtain ⟨Ba_0, Ba_1, Ba_2⟩ := id Ba
    obtain ⟨Bb_0, Bb_1, Bb_2⟩ := id Bb
    clear n25 n26
    go_wp2_with fail
    refine (rightDn_any _ _ xa 20 31 n2 ra (by omega)).mono ?_
    rintro _ w28 ⟨rfl, e28⟩
    clear Ba_0 Ba_1 Ba_2 Bb_0 Bb_1 Bb_2
    replace T := T.ext e28
    replace n2 := n2.ext e28
    replace nb := nb.ext e28
    replace Ba := Ba.ext e28
    replace Bb := Bb.ext e28
    have E28 := E27.trans e28
    clear E27
    clear e28
    obtain ⟨Ba_0, Ba_1, Ba_2⟩ := id Ba
    obtain ⟨Bb_0, Bb_1, Bb_2⟩ := id Bb
    go_wp2_with fail
    refine (rightLit_any _ false _ [2] 0 (row_one _ 2 _) (by omega) (by decide)).mono ?_
    rintro _ w29 ⟨rfl, f29⟩
    have e29 : Ext w28 w29 := ((Ext.refl w28).alloc _).trans f29
    clear f29
    clear Ba_0 Ba_1 Ba_2 Bb_0 Bb_1 Bb_2
    replace T := T.ext e29
    replace n2 := n2.ext e29
    replace nb := nb.ext e29
    replace Ba := Ba.ext e29
    replace Bb := Bb.ext e29
    have E29 := E28.trans e29
    clear E28
    clear e29
    obtain ⟨Ba_0, Ba_1, Ba_2⟩ := id Ba
    obtain ⟨Bb_0, Bb_1, Bb_2⟩ := id Bb
    go_wp2_with fail
    refine (rightLit_any _ false _ [] 1 (Row.nil _ _ _ (by unfold maxLen; omega)) (by omega) (by decide)).mono ?_
    rintro _ w30 ⟨rfl, e30⟩
    clear Ba_0 Ba_1 Ba_2 Bb_0 Bb_1 Bb_2
    replace T := T.ext e30
    replace n2 := n2.ext e30
    replace nb := nb.ext e30
    replace Ba := Ba.ext e30
    replace Bb := Bb.ext e30
    have E30 := E29.trans e30
    clear E29
    clear e30
    obtain ⟨Ba_0, Ba_1, Ba_2⟩ := id Ba
    obtain ⟨Bb_0, Bb_1, Bb_2⟩ := id Bb
    go_wp2_with fail
    refine (ofD_any _ 0 (by omega) T).mono ?_
    rintro _ w31 ⟨v31, rfl, n31, e31⟩
    clear Ba_0 Ba_1 Ba_2 Bb_0 Bb_1 Bb_2
    replace T := T.ext e31
    replace n2 := n2.ext e31
    replace nb := nb.ext e31
    replace Ba := Ba.ext e31
    replace Bb := Bb.ext e31
    have E31 := E30.trans e31
    clear E30
    clear e31
    obtain ⟨Ba_0, Ba_1, Ba_2⟩ := id Ba
    obtain ⟨Bb_0, Bb_1, Bb_2⟩ := id Bb
    go_wp2_with fail
    refine (same_lit _ _ _ (dy 0 0) 0 (dy_zero 0) n31 (Dn.zero _)).mono ?_
    rintro _ w32 ⟨rfl, e32⟩
    clear Ba_0 Ba_1 Ba_2 Bb_0 Bb_1 Bb_2
    replace T := T.ext e32
    replace n2 := n2.ext e32
    replace nb := nb.ext e32
    replace n31 := n31.ext e32
    replace Ba := Ba.ext e32
    replace Bb := Bb.ext e32
    have E32 := E31.trans e32
    clear E31
    clear e32
    obtain ⟨Ba_0, Ba_1, Ba_2⟩ := id Ba
    obtain ⟨Bb_0, Bb_1, Bb_2⟩ := id Bb
    go_wp2
    go_ret
    exact ⟨rfl, E32⟩


end Go.Proofs.YtjnnodbejnmkmaaDoor
