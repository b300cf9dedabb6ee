/- The walk of the laws' head. -/
import Derived.Test.YtafmolljmceadaaR1
namespace Go.Proofs.Ytafmolljmceadaa
open Go.RowKit

theorem same_eq (w : World) (va vb : Value) (m : Nat) (ha : N w va m) (hb : N w vb m) : Calls Try.prog 12 #[va, vb] w (RetQ w (.bool true)) := by
  have h := same_nat w va vb m m ha hb
  rw [decide_eq_true (rfl : m = m)] at h
  exact h
theorem cmp_nat (w : World) (va vb : Value) (m n : Nat) (ha : N w va m) (hb : N w vb n) : Calls Try.prog 24 #[va, vb] w (RetQ w (.int .i64 (cmpI m n))) := by
  obtain ⟨a, ra, na, ea⟩ := ha
  obtain ⟨b, rb, nb, eb⟩ := hb
  rw [← ea, ← eb]
  exact cmp_rows w va vb a b ra rb na nb
theorem right_nat (w : World) (v : Value) (m : Nat) (h : N w v m) (hm : Lt 300 m) : Calls Try.prog 10 #[v] w fun e w' => e = .returned (.bool true) ∧ w = w' := by
  obtain ⟨a, ra, na, ea⟩ := h
  have h := right_any w v a ra
  rw [right_iff.2 ⟨na, N.len hm na ea⟩] at h
  exact h
theorem rright_nat (w : World) (v : Value) (m : Nat) (h : N w v m) (hm : Lt 300 m) : Calls Try.prog 11 #[v] w fun e w' => e = .returned (.bool true) ∧ w = w' := by
  obtain ⟨a, ra, na, ea⟩ := h
  have h := rright_any w v a ra
  rw [right_iff.2 ⟨na, N.len hm na ea⟩] at h
  exact h
theorem right_lit (w : World) (v : Value) (xs : List Int) (h : Row w v xs) (hb : rightB xs = false) : Calls Try.prog 10 #[v] w fun e w' => e = .returned (.bool false) ∧ w = w' := by
  have h := right_any w v xs h
  rw [hb] at h
  exact h
/-- A row that is written out. -/
theorem row_lit (w : World) (xs : List Int) (t : TypeId) (hl : xs.length ≤ 1000) : Row (w.alloc (.cells (xs.map (Value.int .i64)).toArray t)) (.slice (some ⟨w.heap.size, 0, none⟩) xs.length xs.length) xs := by
  refine ⟨_, _, rfl, Nat.le_refl _, by unfold maxLen; omega, fun _ => ⟨w.heap.size, 0, rfl, by simp, fun j hj => ?_⟩⟩
  rw [World.cell?_alloc_new, List.getElem?_toArray, List.getElem?_map, Nat.zero_add, List.getElem?_eq_getElem hj, nth_eq hj]
  rfl
theorem nat_lit1 (w : World) (x : Int) (t : TypeId) (m : Nat) (h0 : 0 < x) (h1 : x < 16777216) (hm : x = (m : Int)) : N (w.alloc (.cells #[.int .i64 x] t)) (.slice (some ⟨w.heap.size, 0, none⟩) 1 1) m :=
  ⟨[x], row_lit w [x] t (by simp), ⟨fun j hj => by
    have : j = 0 := by simpa using hj
    subst this; rw [nth_cons_zero]; omega, .inr (by simp [nth_cons_zero]; omega)⟩, by simp [val]; omega⟩
theorem nat_lit2 (w : World) (x y : Int) (t : TypeId) (m : Nat) (h0 : 0 ≤ x) (h1 : x < 16777216) (k0 : 0 < y) (k1 : y < 16777216) (hm : x + 16777216 * y = (m : Int)) : N (w.alloc (.cells #[.int .i64 x, .int .i64 y] t)) (.slice (some ⟨w.heap.size, 0, none⟩) 2 2) m :=
  ⟨[x, y], row_lit w [x, y] t (by simp), ⟨fun j hj => by
    have : j = 0 ∨ j = 1 := by simp at hj; omega
    rcases this with e | e
    · subst e; rw [nth_cons_zero]; omega
    · subst e; show 0 ≤ y ∧ y < _; omega, .inr (by show y ≠ 0; omega)⟩, by simp [val]; omega⟩
theorem Lt.lit {k m : Nat} (h : bl m ≤ 24 * k) : Lt k m := Lt.of_bits h
theorem lt_int {m : Nat} (h : m < 9223372036854775808) : Lt 3 m := Lt.of_bits (Nat.le_trans (bl_of_lt (n := 63) (by omega)) (by omega))
theorem root_nat (w : World) (v : Value) (m r : Nat) (h : N w v m) (hm : Lt 300 m) (hr : Sq m r) : Calls Try.prog 32 #[v] w (RetN w r) := by
  refine (root_any w v m h hm).mono ?_
  rintro e w' ⟨s, hs, hN⟩
  rw [hs.uniq hr] at hN
  exact hN

theorem of_lit (w : World) (z : Int) (n : Nat) (hz : z = (n : Int)) (h : n ≤ 9223372036854775807) : Calls Try.prog 13 #[.int .i64 z] w (RetN w n) := by
  have h := of_any w z (by omega)
  rw [hz, Int.toNat_natCast] at h
  rw [hz]
  exact h
theorem int_lit (w : World) (v : Value) (m : Nat) (z : Int) (h : N w v m) (hm : Lt 400 m) (hlt : m < 4611686018427387904) (hz : (m : Int) = z) :
    Calls Try.prog 18 #[v] w fun e w' => e = .returned (.tuple #[.int .i64 z, .bool true]) ∧ w = w' := by
  subst hz; exact int_yes w v m h hm hlt
theorem len_lit (w : World) (v : Value) (m : Nat) (z : Int) (h : N w v m) (hm : Lt 400 m) (hz : (bl m : Int) = z) : Calls Try.prog 26 #[v] w fun e w' => e = .returned (.int .i64 z) ∧ w = w' := by
  subst hz; exact len_any w v m h hm

/-- The numbers that the head asks of, behind names. -/
structure HeadNums (a b c d s : Nat) : Prop where
  ha : a = 16777216
  hb : b = 16777215
  hc : c = 50331648
  hd : d = 4611686018427387904
  hs : s = 33554431

set_option maxRecDepth 100000 in
set_option maxHeartbeats 4000000 in
theorem head_any (w : World) : Calls Try.prog 9 #[] w (RetE w (.bool true)) := by
  obtain ⟨a, b, c, d, s, H⟩ : ∃ a b c d s, HeadNums a b c d s := ⟨_, _, _, _, _, ⟨rfl, rfl, rfl, rfl, rfl⟩⟩
  have La : Lt 3 a := lt_int (by rw [H.ha]; omega)
  have Lb : Lt 3 b := lt_int (by rw [H.hb]; omega)
  have Lc : Lt 3 c := lt_int (by rw [H.hc]; omega)
  have Ld : Lt 3 d := lt_int (by rw [H.hd]; omega)
  have L1 : Lt 3 1 := lt_int (by omega)
  go_enter Try.func9, Try.ntmps9
  go_wp2_with fail
  refine (of_lit w 16777216 a (by rw [H.ha]; rfl) (by rw [H.ha]; omega)).mono ?_
  rintro e w1 ⟨va, rfl, na, e1⟩
  go_wp2_with fail
  refine (of_lit w1 1 1 rfl (by omega)).mono ?_
  rintro e w2 ⟨v2, rfl, n2, e2⟩
  replace na := na.ext e2
  go_wp2_with fail
  refine (sub_yes w2 va v2 a 1 na n2 (La.mono (by omega)) (by rw [H.ha]; omega)).mono ?_
  rintro e w3 ⟨vb, rfl, nb, e3⟩
  rw [show a - 1 = b by rw [H.ha, H.hb]] at nb
  replace na := na.ext e3
  have E3 := (e1.trans e2).trans e3
  clear n2 e1 e2 e3
  go_wp2_with fail
  refine (of_lit w3 1 1 rfl (by omega)).mono ?_
  rintro e w4 ⟨v4, rfl, n4, e4⟩
  replace na := na.ext e4
  replace nb := nb.ext e4
  go_wp2_with fail
  refine (sub_no w4 v4 va 1 a n4 na (by rw [H.ha]; omega)).mono ?_
  rintro e w5 ⟨v5, rfl, n5, e5⟩
  replace na := na.ext e5
  replace nb := nb.ext e5
  have E5 := (E3.trans e4).trans e5
  clear n4 n5 e4 e5 E3
  go_wp2_with fail
  refine (of_lit w5 3 3 rfl (by omega)).mono ?_
  rintro e w6 ⟨v6, rfl, n6, e6⟩
  replace na := na.ext e6
  replace nb := nb.ext e6
  go_wp2_with fail
  refine (mul_any w6 va v6 a 3 na n6 (La.mono (by omega)) ((lt_int (by omega)).mono (by omega))).mono ?_
  rintro e w7 ⟨v7, rfl, n7, e7⟩
  rw [show a * 3 = c by rw [H.ha, H.hc]] at n7
  replace na := na.ext e7
  replace nb := nb.ext e7
  have E7 := (E5.trans e6).trans e7
  clear n6 e6 e7 E5
  go_wp2_with fail
  refine (int_lit w7 v7 c 50331648 n7 (Lc.mono (by omega)) (by rw [H.hc]; omega) (by rw [H.hc]; rfl)).mono ?_
  rintro e w' ⟨rfl, rfl⟩
  clear n7
  go_wp2_with fail
  refine (of_lit w7 1 1 rfl (by omega)).mono ?_
  rintro e w8 ⟨v8, rfl, n8, e8⟩
  replace na := na.ext e8
  replace nb := nb.ext e8
  go_wp2_with fail
  refine (shl_nat w8 v8 1 62 (by omega) n8 (L1.mono (by omega))).mono ?_
  rintro e w9 ⟨v9, rfl, n9, e9⟩
  rw [show 1 * 2 ^ 62 = d by rw [H.hd]] at n9
  replace na := na.ext e9
  replace nb := nb.ext e9
  have E9 := (E7.trans e8).trans e9
  clear n8 e8 e9 E7
  go_wp2_with fail
  refine (int_no w9 v9 d n9 (Ld.mono (by omega)) (by rw [H.hd]; omega)).mono ?_
  rintro e w' ⟨rfl, rfl⟩
  clear n9
  go_wp2_with fail
  refine (same_eq _ va _ a (na.ext ((Ext.refl w9).alloc _)) (nat_lit2 w9 0 1 _ a (by omega) (by omega) (by omega) (by omega) (by rw [H.ha]; rfl))).mono ?_
  rintro e w10 ⟨rfl, q10⟩
  have e10 : Ext w9 w10 := ((Ext.refl w9).alloc _).trans q10.ext
  replace na := na.ext e10
  replace nb := nb.ext e10
  have E10 := E9.trans e10
  clear q10 e10 E9
  go_wp2_with fail
  refine (same_eq _ vb _ b (nb.ext ((Ext.refl w10).alloc _)) (nat_lit1 w10 16777215 _ b (by omega) (by omega) (by rw [H.hb]; rfl))).mono ?_
  rintro e w11 ⟨rfl, q11⟩
  have e11 : Ext w10 w11 := ((Ext.refl w10).alloc _).trans q11.ext
  replace na := na.ext e11
  replace nb := nb.ext e11
  have E11 := E10.trans e11
  clear q11 e11 E10
  go_wp2_with fail
  refine (of_lit w11 0 0 rfl (by omega)).mono ?_
  rintro e w12 ⟨v12, rfl, n12, e12⟩
  replace na := na.ext e12
  replace nb := nb.ext e12
  have E12 := E11.trans e12
  clear e12 E11
  obtain ⟨A0, c0, rfl, hc0⟩ := n12.form
  clear n12 hc0
  go_wp2_with fail
  refine (right_nat w12 va a na (La.mono (by omega))).mono ?_
  rintro e w' ⟨rfl, rfl⟩
  go_wp2_with fail
  refine (right_lit _ _ [0] (row_lit w12 [0] _ (by simp)) (by decide)).mono ?_
  rintro e w13 ⟨rfl, hw13⟩
  have e13 : Ext w12 w13 := by rw [← hw13]; exact (Ext.refl w12).alloc _
  replace na := na.ext e13
  replace nb := nb.ext e13
  have E13 := E12.trans e13
  clear hw13 e13 E12
  go_wp2_with fail
  refine (right_lit _ _ [-1] (row_lit w13 [-1] _ (by simp)) (by decide)).mono ?_
  rintro e w14 ⟨rfl, hw14⟩
  have e14 : Ext w13 w14 := by rw [← hw14]; exact (Ext.refl w13).alloc _
  replace na := na.ext e14
  replace nb := nb.ext e14
  have E14 := E13.trans e14
  clear hw14 e14 E13
  go_wp2_with fail
  refine (cmp_nat w14 va vb a b na nb).mono ?_
  rw [cmpI_gt (x := (a : Int)) (y := (b : Int)) (by rw [H.ha, H.hb]; omega)]
  rintro e w15 ⟨rfl, q15⟩
  have e15 := q15.ext
  replace na := na.ext e15
  replace nb := nb.ext e15
  have E15 := E14.trans e15
  clear q15 e15 E14
  go_wp2_with fail
  refine (len_lit w15 va a 25 na (La.mono (by omega)) (by rw [H.ha]; decide)).mono ?_
  rintro e w' ⟨rfl, rfl⟩
  go_wp2_with fail
  refine (add_any w15 va vb a b na nb (La.mono (by omega)) (Lb.mono (by omega))).mono ?_
  rintro e w16 ⟨v16, rfl, n16, e16⟩
  rw [show a + b = s by rw [H.ha, H.hb, H.hs]] at n16
  replace na := na.ext e16
  replace nb := nb.ext e16
  have E16 := E15.trans e16
  clear e16 E15
  go_wp2_with fail
  refine (same_eq _ v16 _ s (n16.ext ((Ext.refl w16).alloc _)) (nat_lit2 w16 16777215 1 _ s (by omega) (by omega) (by omega) (by omega) (by rw [H.hs]; rfl))).mono ?_
  rintro e w17 ⟨rfl, q17⟩
  have e17 : Ext w16 w17 := ((Ext.refl w16).alloc _).trans q17.ext
  replace na := na.ext e17
  replace nb := nb.ext e17
  have E17 := E16.trans e17
  clear q17 e17 E16
  clear n16
  go_wp2_with fail
  refine (shr_nat w17 va a 23 (by omega) na (La.mono (by omega))).mono ?_
  rintro e w18 ⟨v18, rfl, n18, e18⟩
  rw [show a / 2 ^ 23 = 2 by rw [H.ha]] at n18
  replace na := na.ext e18
  replace nb := nb.ext e18
  have E18 := E17.trans e18
  clear e18 E17
  go_wp2_with fail
  refine (same_eq _ v18 _ 2 (n18.ext ((Ext.refl w18).alloc _)) (nat_lit1 w18 2 _ 2 (by omega) (by omega) rfl)).mono ?_
  rintro e w19 ⟨rfl, q19⟩
  have e19 : Ext w18 w19 := ((Ext.refl w18).alloc _).trans q19.ext
  replace na := na.ext e19
  replace nb := nb.ext e19
  have E19 := E18.trans e19
  clear q19 e19 E18
  clear n18
  go_wp2_with fail
  refine (of_lit w19 99 99 rfl (by omega)).mono ?_
  rintro e w20 ⟨v20, rfl, n20, e20⟩
  replace na := na.ext e20
  replace nb := nb.ext e20
  have E20 := E19.trans e20
  clear e20 E19
  go_wp2_with fail
  refine (root_nat w20 v20 99 9 n20 ((lt_int (by omega)).mono (by omega)) ⟨by omega, by omega⟩).mono ?_
  rintro e w21 ⟨v21, rfl, n21, e21⟩
  replace na := na.ext e21
  replace nb := nb.ext e21
  have E21 := E20.trans e21
  clear e21 E20
  go_wp2_with fail
  refine (same_eq _ v21 _ 9 (n21.ext ((Ext.refl w21).alloc _)) (nat_lit1 w21 9 _ 9 (by omega) (by omega) rfl)).mono ?_
  rintro e w22 ⟨rfl, q22⟩
  have e22 : Ext w21 w22 := ((Ext.refl w21).alloc _).trans q22.ext
  replace na := na.ext e22
  replace nb := nb.ext e22
  have E22 := E21.trans e22
  clear q22 e22 E21
  go_wp2
  go_ret
  exact ⟨rfl, E22⟩

end Go.Proofs.Ytafmolljmceadaa
