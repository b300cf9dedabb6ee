/- What the laws on floats share. -/
import Derived.Test.YtdfkhaajeojeeaaDoorME
import Derived.Test.YtdfkhaajeojeeaaDoorMK
/- What the laws of dyadic numbers ask of what they are handed: Good. -/
namespace Go.Proofs.YtdfkhaajeojeeaaDoor
open Go.RowKit

/-- A right number of at most 8 limbs, its power of two within 200. -/
def goodB (nb : Bool) (xs : List Int) (e : Int) : Bool := decide (xs.length ≤ 8) && (rightD nb xs e && (decide (e ≤ 200) && decide (-200 ≤ e)))
/-- At g lie k numbers, one behind the other. -/
structure Many (w : World) (g k : Nat) (nb : Nat → Bool) (v : Nat → Value) (xs : Nat → List Int) (e : Nat → Int) : Prop where
  c0 : ∀ j, j < k → w.cell? ⟨g, j * 3, none⟩ = some (.bool (nb j))
  c1 : ∀ j, j < k → w.cell? ⟨g, j * 3 + 1, none⟩ = some (v j)
  c2 : ∀ j, j < k → w.cell? ⟨g, j * 3 + 2, none⟩ = some (.int .i64 (e j))
  row : ∀ j, j < k → Row w (v j) (xs j)
  int : ∀ j, j < k → -9223372036854775808 ≤ e j ∧ e j ≤ 9223372036854775807
theorem Many.ext {w w' : World} {g k : Nat} {nb : Nat → Bool} {v : Nat → Value} {xs : Nat → List Int} {e : Nat → Int} (h : Many w g k nb v xs e) (E : Ext w w') : Many w' g k nb v xs e :=
  ⟨fun j hj => (E.cell (World.block_lt_of_cell? w _ (h.c0 j hj))).trans (h.c0 j hj), fun j hj => (E.cell (World.block_lt_of_cell? w _ (h.c1 j hj))).trans (h.c1 j hj), fun j hj => (E.cell (World.block_lt_of_cell? w _ (h.c2 j hj))).trans (h.c2 j hj), fun j hj => (h.row j hj).ext E, h.int⟩

/-- Are the first k good? -/
def goodAll (k : Nat) (nb : Nat → Bool) (xs : Nat → List Int) (e : Nat → Int) : Bool := decide (∀ j, j < k → goodB (nb j) (xs j) (e j) = true)
theorem goodAll_true {k : Nat} {nb : Nat → Bool} {xs : Nat → List Int} {e : Nat → Int} (h : goodAll k nb xs e = true) : ∀ j, j < k → goodB (nb j) (xs j) (e j) = true := of_decide_eq_true h
end Go.Proofs.YtdfkhaajeojeeaaDoor

/- The head of the laws on dyadic numbers. -/
namespace Go.Proofs.YtdfkhaajeojeeaaDoor
open Go.RowKit

theorem nat_one (w : World) (x : Int) (t : TypeId) (m : Nat) (h0 : 0 < x) (h1 : x < 16777216) (hm : x = (m : Int)) : N (w.alloc (.cells #[.int .i64 x] t)) (.slice (some ⟨w.heap.size, 0, none⟩) 1 1) m :=
  ⟨[x], row_one w x t, ⟨fun j hj => by
    have : j = 0 := by simpa using hj
    subst this; rw [nth_cons_zero]; omega, .inr (by simp [nth_cons_zero]; omega)⟩, by simp [val]; omega⟩
/-- A number that is written out. -/
theorem lit_dn (w : World) (x e z : Int) (neg : Bool) (t : TypeId) (h0 : 0 < x) (h1 : x < 16777216) (h2 : x % 2 = 1) (hz : z = sg neg x.toNat) : Dn (w.alloc (.cells #[.int .i64 x] t)) (.agg #[.bool neg, .slice (some ⟨w.heap.size, 0, none⟩) 1 1, .int .i64 e]) (dy z e) := by
  subst hz
  refine ⟨_, sg neg x.toNat, e, by rw [sg_neg (by omega)], by rw [sg_abs]; exact nat_one w x t x.toNat h0 h1 (by omega), ⟨.inr ?_⟩, rfl⟩
  cases neg
  · show ((x.toNat : Nat) : Int) % 2 = 1; omega
  · show -((x.toNat : Nat) : Int) % 2 = 1; omega
theorem same_lit (w : World) (va vb : Value) (x y : Dyadic) (h : x = y) (ha : Dn w va x) (hb : Dn w vb y) : Calls Tryd.prog 12 #[va, vb] w (RetE w (.bool true)) := by
  subst h; exact rsameD_eq w va vb x ha hb
theorem cmp_lit (w : World) (va vb : Value) (x y : Dyadic) (P Q P' Q' : Nat) (r : Int) (h : cmpD x y = r) (ha : Dn w va x) (hb : Dn w vb y) (hx : Rg P Q x) (hy : Rg P' Q' y) (h1 : P + Q ≤ 4800) (h2 : P' + Q' ≤ 4800) : Calls Tryd.prog 71 #[va, vb] w (RetE w (.int .i64 r)) := by
  subst h; exact cmpD_any w va vb x y P Q P' Q' ha hb hx hy h1 h2
theorem sign_lit (w : World) (v : Value) (d : Dyadic) (r : Int) (h : cmpD d 0 = r) (hd : Dn w v d) : Calls Tryd.prog 54 #[v] w (RetE w (.int .i64 r)) := by
  subst h; exact signD_any w v d hd
theorem make_lit (w : World) (neg : Bool) (v : Value) (m : Nat) (e : Int) (d : Dyadic) (hd : dy (sg neg m) e = d) (h : N w v m) (hm : Lt 400 m) (he : -1000000 ≤ e ∧ e ≤ 1000000) (T : Tb w) : Calls Tryd.prog 31 #[.bool neg, v, .int .i64 e] w (RetD w d) := by
  subst hd; exact make_any w neg v m e h hm he T
theorem right_dn {w : World} {v : Value} {d : Dyadic} {P Q : Nat} (h : Dn w v d) (r : Rg P Q d) (hb : P + Q ≤ 1440) : ∃ (nb : Bool) (M : Value) (xs : List Int) (e : Int), v = .agg #[.bool nb, M, .int .i64 e] ∧ Row w M xs ∧ rightD nb xs e = true ∧ -9223372036854775808 ≤ e ∧ e ≤ 9223372036854775807 := by
  obtain ⟨M, z, e, rfl, ⟨xs, hr, nf, ev⟩, hc, rfl⟩ := h
  obtain ⟨a, b, c⟩ := r.canon hc
  refine ⟨_, M, xs, e, rfl, hr, ?_, by omega, by omega⟩
  have hl : xs.length ≤ 60 := N.len (m := z.natAbs) (Lt.of_bits (Nat.le_trans (bl_of_lt c) (by omega))) nf ev
  unfold rightD
  rw [right_iff.2 ⟨nf, by omega⟩, decide_eq_true hl]
  by_cases h0 : xs.length = 0
  · rw [if_pos h0]
    obtain rfl : xs = [] := by simpa using h0
    have hz : z = 0 := by simp [val] at ev; omega
    subst hz
    have he : e = 0 := by rcases hc.out with k | k <;> omega
    subst he
    rfl
  · rw [if_neg h0]
    have hne : xs ≠ [] := by intro e0; subst e0; simp at h0
    have hodd := val_mod2 hne
    have hz : z % 2 = 1 := by
      rcases hc.out with k | k
      · exfalso
        have := nf.pos hne
        have := bp_pos (xs.length - 1)
        omega
      · exact k
    rw [decide_eq_true (show nth xs 0 % 2 = 1 by omega), decide_eq_true (show -6000 ≤ e by omega), decide_eq_true (show e ≤ 6000 by omega)]
    rfl
theorem rrightDn_any (w : World) (v : Value) (d : Dyadic) (P Q : Nat) (h : Dn w v d) (r : Rg P Q d) (hb : P + Q ≤ 1440) : Calls Tryd.prog 20 #[v] w (RetE w (.bool true)) := by
  obtain ⟨nb, M, xs, e, rfl, hr, ht, he⟩ := right_dn h r hb
  have := rrightD_any w nb M xs e hr he
  rwa [ht] at this
theorem rg_lit (z e : Int) (h : -1000 ≤ z ∧ z ≤ 1000) (k : -20 ≤ e ∧ e ≤ 20) : Rg 20 31 (dy z e) := by
  refine ⟨z * 2 ^ (e + 20).toNat, dy_down z e 20 (by omega), ?_⟩
  have h1 := pow2_mono (show (e + 20).toNat ≤ 40 by omega)
  have h2 := pow2_pos (e + 20).toNat
  have := mul_bound h2 (x := z) (a := 1024) (by omega) (by omega)
  have h3 : (1024 : Int) * 2 ^ (e + 20).toNat ≤ 1024 * 2 ^ 40 := Int.mul_le_mul_of_nonneg_left h1 (by omega)
  have h4 : (1024 : Int) * 2 ^ 40 ≤ 2 ^ (20 + 31) := by decide
  omega

theorem box3 {w : World} {g : Nat} {x y z : Value} (h : Box w g x y z) : w.cell? ⟨g, 0, none⟩ = some x ∧ w.cell? ⟨g, 1, none⟩ = some y ∧ w.cell? ⟨g, 2, none⟩ = some z := ⟨h.c0, h.c1, h.c2⟩
theorem box3_set {w : World} {g i : Nat} {x y z a b c : Value} (h : Box w g x y z) (n : g ≠ i) :
    (((w.setCell ⟨i, 0, none⟩ a).setCell ⟨i, 1, none⟩ b).setCell ⟨i, 2, none⟩ c).cell? ⟨g, 0, none⟩ = some x ∧ (((w.setCell ⟨i, 0, none⟩ a).setCell ⟨i, 1, none⟩ b).setCell ⟨i, 2, none⟩ c).cell? ⟨g, 1, none⟩ = some y ∧ (((w.setCell ⟨i, 0, none⟩ a).setCell ⟨i, 1, none⟩ b).setCell ⟨i, 2, none⟩ c).cell? ⟨g, 2, none⟩ = some z := box3 (h.set3 n)
/-- The numbers that the head asks of, behind names. -/
structure HeadD (xa xb x3 xm xf xs x5 x6 x4 xn xo : Dyadic) : Prop where
  a : xa = dy (-5) (-1)
  b : xb = dy 1 (-1)
  three : x3 = dy 3 0
  m : xm = dy (-5) (-2)
  f : xf = dy 5 (-1)
  s : xs = dy (-5) 1
  five : x5 = dy 5 0
  six : x6 = dy 6 0
  four : x4 = dy 4 0
  nfive : xn = dy (-5) 0
  nfour : xo = dy (-4) 0

end Go.Proofs.YtdfkhaajeojeeaaDoor

/- What the laws on floats ask of what they are handed, and numbers in their ranges. -/
namespace Go.Proofs.YtdfkhaajeojeeaaDoor
open Go.RowKit
set_option linter.unusedVariables false

theorem canon_le {z e X E : Int} (c : Canon z e) (h : dy z e = dy X E) (hz : z ≠ 0) : E ≤ e ∧ z.natAbs ≤ X.natAbs := by
  have hE : E ≤ e := by
    rcases Int.lt_or_le e E with k | k
    · exfalso
      obtain ⟨t, ht⟩ : ∃ t : Nat, E = e + ((t + 1 : Nat) : Int) := ⟨(E - e - 1).toNat, by omega⟩
      rw [ht, ← dy_up, Int.pow_succ] at h
      have := dy_inj h
      rw [← Int.mul_assoc] at this
      rcases c.out with c | c <;> omega
    · exact k
  refine ⟨hE, ?_⟩
  obtain ⟨t, ht⟩ : ∃ t : Nat, e = E + (t : Int) := ⟨(e - E).toNat, by omega⟩
  rw [ht, ← dy_up] at h
  have := dy_inj h
  rw [← this, Int.natAbs_mul, Int.natAbs_pow]
  exact Nat.le_mul_of_pos_right _ (Nat.two_pow_pos t)
theorem exists_canon (d : Dyadic) : ∃ z e : Int, d = dy z e ∧ Canon z e := by
  cases d with
  | zero => exact ⟨0, 0, rfl, ⟨.inl ⟨rfl, rfl⟩⟩⟩
  | ofOdd n k h => exact ⟨n, -k, by rw [dy_odd h]; simp, ⟨.inr h⟩⟩
/-- A number that Near is asked of. -/
structure Nb (d : Dyadic) : Prop where
  out : ∃ z e : Int, d = dy z e ∧ Canon z e ∧ Lt 200 z.natAbs ∧ -3700 ≤ e ∧ e ≤ 6000
theorem Nb.of_rg {d : Dyadic} {P Q : Nat} (h : Rg P Q d) (h1 : P + Q ≤ 4800) (h2 : P ≤ 3700) : Nb d := by
  obtain ⟨z, e, rfl, hc⟩ := exists_canon d
  obtain ⟨a, b, c⟩ := h.canon hc
  exact ⟨z, e, rfl, hc, h.lt hc h1, by omega, by omega⟩
theorem near_nb (w : World) (v : Value) (d : Dyadic) (h : Dn w v d) (hb : Nb d) (T : Tg w) : Calls Tryd.prog 18 #[v] w (RetFE w d) := by
  obtain ⟨z, e, rfl, hc, hl, he⟩ := hb.out
  exact near_any w v z e h hc hl he T
theorem rnear_nb (w : World) (v : Value) (d : Dyadic) (h : Dn w v d) (hb : Nb d) : Calls Tryd.prog 19 #[v] w (RetFE w d) := by
  obtain ⟨z, e, rfl, hc, hl, he⟩ := hb.out
  exact rnear_any w v z e h hc hl (by omega)
theorem Nb.neg {d : Dyadic} (h : Nb d) : Nb (-d) := by
  obtain ⟨z, e, rfl, hc, hl, he⟩ := h.out
  exact ⟨-z, e, dy_neg _ _, hc.neg, by rw [Int.natAbs_neg]; exact hl, he⟩
/-- A number in the range of all sums of the laws. -/
abbrev Rw (d : Dyadic) : Prop := Rg 3000 3500 d
theorem rV_top (q : Nat) : rV ((q + 1) * 4503599627370496) = 2 ^ (52 + q) := by
  have := rV_big (q := q) (s := 0) (by omega)
  rw [Nat.add_zero, Nat.add_zero] at this
  rw [this, Nat.pow_add]
theorem rg_rval {r : Nat} (h : r < 9218868437227405312) : Rg 1074 1024 (rval r) := by
  obtain ⟨q, hq⟩ : ∃ q, q = 2046 := ⟨_, rfl⟩
  have hv := rV_lt (show r < (q + 1) * 4503599627370496 by omega)
  rw [rV_top] at hv
  unfold rval
  exact Rg.of_bits (n := 52 + q) (by rw [Int.natAbs_natCast]; exact hv) (by omega) (by omega)
/-- A double's number is in its range. -/
theorem rg_fin {b : Nat} (h : Fin64 b) : Rg 1074 1024 (fval b) := by
  have := rg_rval h.out
  unfold fval
  split
  · exact this.neg
  · exact this
theorem fin_bits {b : Nat} (h : Fin64 b) : ∃ X E : Int, fval b = dy X E ∧ X.natAbs < 2 ^ 53 := by
  have hp := parts_of b
  have h2 : (2 : Nat) ^ 53 = 9007199254740992 := by decide
  obtain ⟨e, he⟩ : ∃ e, b / 4503599627370496 % 2048 = e := ⟨_, rfl⟩
  obtain ⟨m, hm⟩ : ∃ m, b % 4503599627370496 = m := ⟨_, rfl⟩
  rw [he, hm] at hp
  have hl := hp.low
  cases e with
  | zero => exact ⟨_, _, hp.small, by rw [sg_abs, h2]; omega⟩
  | succ e => exact ⟨_, _, hp.big, by rw [sg_abs, h2]; omega⟩
theorem fin_canon {b : Nat} (h : Fin64 b) : ∃ z e : Int, fval b = dy z e ∧ Canon z e ∧ z.natAbs < 2 ^ 53 ∧ -1074 ≤ e ∧ e ≤ 1024 := by
  obtain ⟨z, e, hd, hc⟩ := exists_canon (fval b)
  obtain ⟨X, E, hX, hb⟩ := fin_bits h
  have hr := rg_fin h
  rw [hd] at hr hX
  obtain ⟨a, b', _⟩ := hr.canon hc
  refine ⟨z, e, hd, hc, ?_, by omega, by omega⟩
  by_cases hz : z = 0
  · subst hz; decide
  · have := (canon_le hc hX hz).2; omega
theorem fin_nb {b : Nat} (h : Fin64 b) : Nb (fval b) := Nb.of_rg (rg_fin h) (by omega) (by omega)
theorem fin_rw {b : Nat} (h : Fin64 b) : Rw (fval b) := (rg_fin h).mono (by omega) (by omega)
theorem rright_fin (w : World) (v : Value) (b : Nat) (hb : Fin64 b) (h : Dn w v (fval b)) : Calls Tryd.prog 20 #[v] w (RetE w (.bool true)) := by
  obtain ⟨z, e, hd, hc, hz, he⟩ := fin_canon hb
  rw [hd] at h
  obtain ⟨M, z', e', rfl, ⟨xs, hr, nf, ev⟩, hc', hd'⟩ := h
  obtain ⟨rfl, rfl⟩ := hc.uniq hc' hd'
  have hl : xs.length ≤ 60 := N.len (m := z.natAbs) (Lt.of_bits (Nat.le_trans (bl_of_lt hz) (by omega))) nf ev
  have key : rightD (decide (z < 0)) xs e = true := by
    unfold rightD
    rw [right_iff.2 ⟨nf, by omega⟩, decide_eq_true hl]
    by_cases h0 : xs.length = 0
    · rw [if_pos h0]
      obtain rfl : xs = [] := by simpa using h0
      have hz : z = 0 := by simp [val] at ev; omega
      subst hz
      have he : e = 0 := by rcases hc.out with k | k <;> omega
      subst he
      rfl
    · rw [if_neg h0]
      have hne : xs ≠ [] := by intro e0; subst e0; simp at h0
      have hodd := val_mod2 hne
      have hz : z % 2 = 1 := by
        rcases hc.out with k | k
        · exfalso
          have := nf.pos hne
          have := bp_pos (xs.length - 1)
          omega
        · exact k
      rw [decide_eq_true (show nth xs 0 % 2 = 1 by omega), decide_eq_true (show -6000 ≤ e by omega), decide_eq_true (show e ≤ 6000 by omega)]
      rfl
  have := rrightD_any w (decide (z < 0)) M xs e hr (by omega)
  rwa [key] at this

/-- A right number of at most 20 limbs, its power of two within 3000. -/
def goodF (nb : Bool) (xs : List Int) (e : Int) : Bool := decide (xs.length ≤ 20) && (rightD nb xs e && (decide (-3000 < e) && decide (e < 3000)))
theorem goodF_dn {w : World} {nb : Bool} {v : Value} {xs : List Int} {e : Int} (h : Row w v xs) (hg : goodF nb xs e = true) : ∃ d : Dyadic, Dn w (.agg #[.bool nb, v, .int .i64 e]) d ∧ Nb d ∧ Rw d := by
  unfold goodF at hg
  rw [Bool.and_eq_true, Bool.and_eq_true, Bool.and_eq_true, decide_eq_true_eq, decide_eq_true_eq, decide_eq_true_eq] at hg
  obtain ⟨h1, h2, h3, h4⟩ := hg
  obtain ⟨z, hD, hc, hz, _⟩ := rightD_form h h2
  have hb : bl z.natAbs ≤ 480 := Nat.le_trans (bl_of_lt hz) (by omega)
  refine ⟨_, hD, ⟨z, e, rfl, hc, Lt.of_bits (by omega), by omega, by omega⟩, Rg.of_bits (n := 480) ?_ (by omega) (by omega)⟩
  have := Nat.pow_le_pow_right (show 0 < 2 by omega) hb
  exact Nat.lt_of_lt_of_le (bl_lt _) this

set_option maxHeartbeats 1000000 in
theorem goodF_any (w : World) (nb : Bool) (v : Value) (xs : List Int) (e : Int) (h : Row w v xs) (he : -9223372036854775808 ≤ e ∧ e ≤ 9223372036854775807) :
    Calls Tryd.prog 17 #[.agg #[.bool nb, v, .int .i64 e]] w (RetE w (.bool (goodF nb xs e))) := by
  have HC := Lib.hid (fun (w' : World) (hE : Ext w w') => rrightD_any w' nb v xs e (h.ext hE) he)
  obtain ⟨A, c, rfl, h1, h2, h3⟩ := id h
  clear h3 h
  unfold goodF
  by_cases h20 : xs.length ≤ 20
  · rw [decide_eq_true h20, Bool.true_and]
    have h20' : (xs.length : Int) ≤ 20 := by omega
    cases hr : rightD nb xs e
    · rw [hr] at HC
      rw [Bool.false_and]
      clear hr
      go_enter Tryd.func17, Tryd.ntmps17
      go_wp2_with fail
      refine (HC.out _ ((Ext.refl w).alloc _)).mono ?_
      rintro _ w1 ⟨rfl, e1⟩
      go_wp2
      go_ret
      exact ⟨rfl, ((Ext.refl w).alloc _).trans e1⟩
    · rw [hr] at HC
      rw [Bool.true_and]
      clear hr
      by_cases k1 : -3000 < e
      · rw [decide_eq_true k1, Bool.true_and]
        go_enter Tryd.func17, Tryd.ntmps17
        go_wp2_with fail
        refine (HC.out _ ((Ext.refl w).alloc _)).mono ?_
        rintro _ w1 ⟨rfl, e1⟩
        obtain ⟨a0, a1, a2⟩ := (Box.at e1 rfl : Box w1 w.heap.size (.bool nb) (.slice A xs.length c) (.int .i64 e))
        go_wp2
        go_ret
        exact ⟨rfl, ((Ext.refl w).alloc _).trans e1⟩
      · rw [decide_eq_false k1, Bool.false_and]
        go_enter Tryd.func17, Tryd.ntmps17
        go_wp2_with fail
        refine (HC.out _ ((Ext.refl w).alloc _)).mono ?_
        rintro _ w1 ⟨rfl, e1⟩
        obtain ⟨a0, a1, a2⟩ := (Box.at e1 rfl : Box w1 w.heap.size (.bool nb) (.slice A xs.length c) (.int .i64 e))
        go_wp2
        go_ret
        exact ⟨rfl, ((Ext.refl w).alloc _).trans e1⟩
  · rw [decide_eq_false h20, Bool.false_and]
    have h20' : ¬ (xs.length : Int) ≤ 20 := by omega
    clear HC
    go_enter Tryd.func17, Tryd.ntmps17
    go_wp2
    go_ret
    exact ⟨rfl, (Ext.refl w).alloc _⟩

end Go.Proofs.YtdfkhaajeojeeaaDoor

/- The head of the laws on floats. -/
namespace Go.Proofs.YtdfkhaajeojeeaaDoor
open Go.RowKit
set_option linter.unusedVariables false

/-- It returned a double that is as great as c. -/
def RetEq (w : World) (c : Nat) (e : Ending) (w' : World) : Prop := ∃ b, e = .returned (.float .f64 b) ∧ (Ieee.double.order b c == some .eq) = true ∧ Ext w w'
theorem Rn.key_eq {d : Dyadic} {a b : Nat} (h : Rn d a) (k : Rn d b) : fkey a = fkey b := by
  have h1 := h.mono k (by grind)
  have h2 := k.mono h (by grind)
  omega
theorem order_key {a b : Nat} (ha : Num64 a) (hb : Num64 b) (h : fkey a = fkey b) : (Ieee.double.order a b == some .eq) = true := by
  rw [order_num ha hb, Int.compare_eq_eq.2 h]; rfl
theorem rn_eq {d : Dyadic} {a b : Nat} (h : Rn d a) (k : Rn d b) : (Ieee.double.order a b == some .eq) = true := order_key h.num k.num (h.key_eq k)
theorem retEq {P : Program} {f : FuncId} {args : Array Value} {w : World} {d : Dyadic} {c : Nat} (h : Calls P f args w (RetFE w d)) (k : Rn d c) : Calls P f args w (RetEq w c) :=
  h.mono fun _ _ ⟨b, he, hb, hE⟩ => ⟨b, he, rn_eq hb k, hE⟩
theorem nan_any (w : World) : Calls Tryd.prog 26 #[] w fun e w' => e = .returned (.float .f64 9221120237041090561) ∧ w = w' := by
  have hff := ffrom_run
  go_enter Tryd.func26, Tryd.ntmps26
  go_wp2
  go_ret
  exact ⟨rfl, rfl⟩
/-- -0.1 -/
def dTenth : Dyadic := fval 13815242216921733530
theorem dTenth_rn : Rn dTenth 13815242216921733530 := Rn.self ⟨by decide⟩ (by decide)
theorem dTenth_neg : cmpD dTenth 0 = -1 := by unfold dTenth; decide +kernel
theorem d34 : fval 4604930618986332160 = dy 3 (-2) := by decide +kernel
theorem d34_rn : Rn (dy 3 (-2)) 4604930618986332160 := d34 ▸ Rn.self ⟨by decide⟩ (by decide)
theorem lit_at (w : World) (g : Nat) (hg : w.heap.size = g) (x e z : Int) (neg : Bool) (t : TypeId) (h0 : 0 < x) (h1 : x < 16777216) (h2 : x % 2 = 1) (hz : z = sg neg x.toNat) : Dn (w.alloc (.cells #[.int .i64 x] t)) (.agg #[.bool neg, .slice (some ⟨g, 0, none⟩) 1 1, .int .i64 e]) (dy z e) := by
  subst hg; exact lit_dn w x e z neg t h0 h1 h2 hz
theorem ofC1 (w : World) (T : Tg w) : Calls Tryd.prog 10 #[.float .f64 4604930618986332160] w (RetDB w (dy 3 (-2)) true) := d34 ▸ of_fin w _ (by decide) ⟨by decide⟩ T
theorem ofC2 (w : World) (T : Tg w) : Calls Tryd.prog 10 #[.float .f64 13815242216921733530] w (RetDB w dTenth true) := of_fin w _ (by decide) ⟨by decide⟩ T
theorem ofC3 (w : World) (T : Tg w) : Calls Tryd.prog 10 #[.float .f64 9218868437227405312] w (RetDB w 0 false) := of_no w _ (by decide) (by decide) T
theorem ofC4 (w : World) (T : Tg w) : Calls Tryd.prog 10 #[.float .f64 9221120237041090561] w (RetDB w 0 false) := of_no w _ (by decide) (by decide) T
theorem nb_lit (z e : Int) (hc : Canon z e) (hz : z.natAbs < 16777216) (he : -3700 ≤ e ∧ e ≤ 6000) : Nb (dy z e) := ⟨z, e, rfl, hc, Lt.of_bits (Nat.le_trans (bl_of_lt (n := 24) hz) (by omega)), he⟩
theorem nearC1 (w : World) (v : Value) (h : Dn w v (dy 3 (-2))) (T : Tg w) : Calls Tryd.prog 18 #[v] w (RetEq w 4604930618986332160) := retEq (near_nb w v _ h (nb_lit 3 (-2) ⟨.inr rfl⟩ (by decide) (by omega)) T) d34_rn
theorem nearC2 (w : World) (v : Value) (h : Dn w v dTenth) (T : Tg w) : Calls Tryd.prog 18 #[v] w (RetEq w 13815242216921733530) := retEq (near_nb w v _ h (fin_nb ⟨by decide⟩) T) dTenth_rn
theorem nearC3 (w : World) (v : Value) (h : Dn w v (dy 1 1024)) (T : Tg w) : Calls Tryd.prog 18 #[v] w (RetEq w 9218868437227405312) := retEq (near_nb w v _ h (nb_lit 1 1024 ⟨.inr rfl⟩ (by decide) (by omega)) T) (inf_rn (by rw [show rval 9218868437227405312 = dy 1 1024 by decide +kernel]; grind))
theorem half_rn : Rn (dy (-1) (-1075)) 0 := by
  have hr : frung 0 = 0 := by decide
  refine ⟨by decide, ?_, fun _ h => absurd hr h, fun _ h => absurd hr h⟩
  rw [hr, absD_dy]
  have : dy (((-1 : Int).natAbs : Nat) : Int) (-1075) = mid 0 := by rw [mid_zero]; rfl
  rw [this]
  exact ⟨by omega, fun _ => .inr ⟨rfl, rfl⟩, fun q hq => by omega⟩
theorem tiny_rn : Rn (dy 3 (-1076)) 1 := by
  have hr : frung 1 = 1 := by decide
  have hm1 : mid 1 = dy 3 (-1075) := by unfold mid; rw [rV_small (by omega), rU_small (by omega)]; rfl
  refine ⟨by decide, ?_, fun h _ => ?_, fun _ _ => by decide⟩
  · rw [hr, absD_dy]
    refine ⟨by omega, fun _ => .inl ?_, fun q hq => ?_⟩
    · rw [hm1]; decide +kernel
    · obtain rfl : q = 0 := by omega
      left; rw [mid_zero]; decide +kernel
  · exfalso
    have : ¬ dy 3 (-1076) < 0 := by decide +kernel
    exact this h
theorem nearC4 (w : World) (v : Value) (h : Dn w v (dy (-1) (-1075))) (T : Tg w) : Calls Tryd.prog 18 #[v] w (RetEq w 0) := retEq (near_nb w v _ h (nb_lit (-1) (-1075) ⟨.inr rfl⟩ (by decide) (by omega)) T) half_rn
theorem nearC5 (w : World) (v : Value) (h : Dn w v (dy 3 (-1076))) (T : Tg w) : Calls Tryd.prog 18 #[v] w (RetEq w 1) := retEq (near_nb w v _ h (nb_lit 3 (-1076) ⟨.inr rfl⟩ (by decide) (by omega)) T) tiny_rn
theorem sameC1 (w : World) (T : Tg w) : Calls Tryd.prog 13 #[.float .f64 9221120237041090561, .float .f64 9221120237041090561] w (RetE w (.bool true)) := by
  have := sameP_any w 9221120237041090561 9221120237041090561 (by decide) (by decide) T
  rwa [show sameF 9221120237041090561 9221120237041090561 = true by decide +kernel] at this
theorem sameC2 (w : World) (T : Tg w) : Calls Tryd.prog 13 #[.float .f64 4607182418800017408, .float .f64 4611686018427387904] w (RetE w (.bool false)) := by
  have := sameP_any w 4607182418800017408 4611686018427387904 (by decide) (by decide) T
  rwa [show sameF 4607182418800017408 4611686018427387904 = false by decide +kernel] at this
theorem nextC1 (w : World) (T : Tg w) : Calls Tryd.prog 15 #[.float .f64 4607182418800017408] w (RetEq w 4607182418800017409) :=
  (next_num w 4607182418800017408 (by decide) ⟨by decide⟩ (by decide) T).mono fun _ _ ⟨he, hE⟩ => ⟨_, he, by decide +kernel, hE⟩
theorem nextC2 (w : World) (T : Tg w) : Calls Tryd.prog 15 #[.float .f64 0] w (RetEq w 1) :=
  (next_num w 0 (by decide) ⟨by decide⟩ (by decide) T).mono fun _ _ ⟨he, hE⟩ => ⟨_, he, by decide +kernel, hE⟩
theorem rsign_tenth (w : World) (v : Value) (h : Dn w v dTenth) : Calls Tryd.prog 27 #[v] w (RetE w (.int .i64 (-1))) := by
  have := rsign_any w v _ h
  rwa [dTenth_neg] at this

set_option maxRecDepth 10000 in
set_option maxHeartbeats 2000000 in
theorem headF_any (w : World) (T : Tg w) : Calls Tryd.prog 9 #[] w (RetE w (.bool true)) := by
  have hf : FloatKind.f64.format = Ieee.double := rfl
  have hff := ffrom_run
  go_enter Tryd.func9, Tryd.ntmps9
  go_wp2_with fail
  refine (ofC1 _ T).mono ?_
  rintro _ w1 ⟨vaa, rfl, naa, f1⟩
  have e1 : Ext w w1 := (Ext.refl w).trans f1
  replace T := T.ext e1
  have E1 : Ext w w1 := (Ext.refl w).trans e1
  clear f1 e1
  obtain ⟨baa, Aaa, laa, caa, iaa, rfl⟩ := naa.form
  go_wp2_with fail
  refine (ofC2 _ (T.ext ((Ext.refl w1).alloc _))).mono ?_
  rintro _ w2 ⟨vbb, rfl, nbb, f2⟩
  have Baa : Box w2 (w1.heap.size) (.bool baa) (.slice Aaa laa caa) (.int .i64 iaa) := Box.at ((Ext.refl _).trans f2) (by simp)
  have e2 : Ext w1 w2 := ((Ext.refl w1).alloc _).trans f2
  replace T := T.ext e2
  replace naa := naa.ext e2
  have E2 : Ext w w2 := E1.trans e2
  clear f2 e2 E1
  obtain ⟨bbb, Abb, lbb, cbb, ibb, rfl⟩ := nbb.form
  go_wp2_with fail
  refine (inf_any _).mono ?_
  rintro _ _ ⟨rfl, rfl⟩
  go_wp2_with fail
  refine (ofC3 _ (T.ext ((Ext.refl w2).alloc _))).mono ?_
  rintro _ w3 ⟨vcc, rfl, ncc, f3⟩
  have Bbb : Box w3 (w2.heap.size) (.bool bbb) (.slice Abb lbb cbb) (.int .i64 ibb) := Box.at ((Ext.refl _).trans f3) (by simp)
  have e3 : Ext w2 w3 := ((Ext.refl w2).alloc _).trans f3
  replace T := T.ext e3
  replace naa := naa.ext e3
  replace nbb := nbb.ext e3
  replace Baa := Baa.ext e3
  have E3 : Ext w w3 := E2.trans e3
  clear f3 e3 E2
  obtain ⟨bcc, Acc, lcc, ccc, icc, rfl⟩ := ncc.form
  go_wp2_with fail
  refine (nan_any _).mono ?_
  rintro _ _ ⟨rfl, rfl⟩
  go_wp2_with fail
  refine (ofC4 _ (T.ext ((Ext.refl w3).alloc _))).mono ?_
  rintro _ w4 ⟨vdd, rfl, ndd, f4⟩
  have Bcc : Box w4 (w3.heap.size) (.bool bcc) (.slice Acc lcc ccc) (.int .i64 icc) := Box.at ((Ext.refl _).trans f4) (by simp)
  have e4 : Ext w3 w4 := ((Ext.refl w3).alloc _).trans f4
  replace T := T.ext e4
  replace naa := naa.ext e4
  replace nbb := nbb.ext e4
  replace Baa := Baa.ext e4
  replace Bbb := Bbb.ext e4
  have E4 : Ext w w4 := E3.trans e4
  clear f4 e4 E3
  obtain ⟨bdd, Add, ldd, cdd, idd, rfl⟩ := ndd.form
  obtain ⟨Baa_0, Baa_1, Baa_2⟩ := id Baa
  have Baa_l := World.block_lt_of_cell? _ _ Baa_0
  go_wp2_with fail
  refine (same_lit _ _ _ (dy 3 (-2)) (dy 3 (-2)) rfl (naa.ext (((Ext.refl w4).alloc _).alloc _)) (lit_at _ _ (by simp) 3 (-2) 3 false _ (by decide) (by decide) rfl rfl)).mono ?_
  rintro _ w5 ⟨rfl, f5⟩
  clear Baa_0 Baa_1 Baa_2 Baa_l
  have Bdd : Box w5 (w4.heap.size) (.bool bdd) (.slice Add ldd cdd) (.int .i64 idd) := Box.at (((Ext.refl _).alloc _).trans f5) (by simp)
  have e5 : Ext w4 w5 := (((Ext.refl w4).alloc _).alloc _).trans f5
  replace T := T.ext e5
  replace naa := naa.ext e5
  replace nbb := nbb.ext e5
  replace Baa := Baa.ext e5
  replace Bbb := Bbb.ext e5
  replace Bcc := Bcc.ext e5
  have E5 : Ext w w5 := E4.trans e5
  clear f5 e5 E4
  obtain ⟨Bbb_0, Bbb_1, Bbb_2⟩ := id Bbb
  have Bbb_l := World.block_lt_of_cell? _ _ Bbb_0
  go_wp2_with fail
  refine (rsign_tenth _ _ nbb).mono ?_
  rintro _ w6 ⟨rfl, f6⟩
  clear Bbb_0 Bbb_1 Bbb_2 Bbb_l
  have e6 : Ext w5 w6 := (Ext.refl w5).trans f6
  replace T := T.ext e6
  replace naa := naa.ext e6
  replace nbb := nbb.ext e6
  replace Baa := Baa.ext e6
  replace Bbb := Bbb.ext e6
  replace Bcc := Bcc.ext e6
  replace Bdd := Bdd.ext e6
  have E6 : Ext w w6 := E5.trans e6
  clear f6 e6 E5
  obtain ⟨Baa_0, Baa_1, Baa_2⟩ := id Baa
  have Baa_l := World.block_lt_of_cell? _ _ Baa_0
  go_wp2_with fail
  refine (nearC1 _ _ naa T).mono ?_
  rintro _ w7 ⟨q7, rfl, o7, f7⟩
  clear Baa_0 Baa_1 Baa_2 Baa_l
  have e7 : Ext w6 w7 := (Ext.refl w6).trans f7
  replace T := T.ext e7
  replace naa := naa.ext e7
  replace nbb := nbb.ext e7
  replace Baa := Baa.ext e7
  replace Bbb := Bbb.ext e7
  replace Bcc := Bcc.ext e7
  replace Bdd := Bdd.ext e7
  have E7 : Ext w w7 := E6.trans e7
  clear f7 e7 E6
  obtain ⟨Bbb_0, Bbb_1, Bbb_2⟩ := id Bbb
  have Bbb_l := World.block_lt_of_cell? _ _ Bbb_0
  go_wp2_with fail
  refine (nearC2 _ _ nbb T).mono ?_
  rintro _ w8 ⟨q8, rfl, o8, f8⟩
  clear Bbb_0 Bbb_1 Bbb_2 Bbb_l
  have e8 : Ext w7 w8 := (Ext.refl w7).trans f8
  replace T := T.ext e8
  replace naa := naa.ext e8
  replace nbb := nbb.ext e8
  replace Baa := Baa.ext e8
  replace Bbb := Bbb.ext e8
  replace Bcc := Bcc.ext e8
  replace Bdd := Bdd.ext e8
  have E8 : Ext w w8 := E7.trans e8
  clear f8 e8 E7
  go_wp2_with fail
  refine (nearC3 _ _ (lit_at _ _ (by simp) 1 1024 1 false _ (by decide) (by decide) rfl rfl) (T.ext ((Ext.refl w8).alloc _))).mono ?_
  rintro _ w9 ⟨q9, rfl, o9, f9⟩
  have e9 : Ext w8 w9 := ((Ext.refl w8).alloc _).trans f9
  replace T := T.ext e9
  replace naa := naa.ext e9
  replace nbb := nbb.ext e9
  replace Baa := Baa.ext e9
  replace Bbb := Bbb.ext e9
  replace Bcc := Bcc.ext e9
  replace Bdd := Bdd.ext e9
  have E9 : Ext w w9 := E8.trans e9
  clear f9 e9 E8
  go_wp2_with fail
  refine (inf_any _).mono ?_
  rintro _ _ ⟨rfl, rfl⟩
  go_wp2_with fail
  refine (nearC4 _ _ (lit_at _ _ (by simp) 1 (-1075) (-1) true _ (by decide) (by decide) rfl rfl) (T.ext ((Ext.refl w9).alloc _))).mono ?_
  rintro _ w10 ⟨q10, rfl, o10, f10⟩
  have e10 : Ext w9 w10 := ((Ext.refl w9).alloc _).trans f10
  replace T := T.ext e10
  replace naa := naa.ext e10
  replace nbb := nbb.ext e10
  replace Baa := Baa.ext e10
  replace Bbb := Bbb.ext e10
  replace Bcc := Bcc.ext e10
  replace Bdd := Bdd.ext e10
  have E10 : Ext w w10 := E9.trans e10
  clear f10 e10 E9
  go_wp2_with fail
  refine (nearC5 _ _ (lit_at _ _ (by simp) 3 (-1076) 3 false _ (by decide) (by decide) rfl rfl) (T.ext ((Ext.refl w10).alloc _))).mono ?_
  rintro _ w11 ⟨q11, rfl, o11, f11⟩
  have e11 : Ext w10 w11 := ((Ext.refl w10).alloc _).trans f11
  replace T := T.ext e11
  replace naa := naa.ext e11
  replace nbb := nbb.ext e11
  replace Baa := Baa.ext e11
  replace Bbb := Bbb.ext e11
  replace Bcc := Bcc.ext e11
  replace Bdd := Bdd.ext e11
  have E11 : Ext w w11 := E10.trans e11
  clear f11 e11 E10
  go_wp2_with fail
  refine (nan_any _).mono ?_
  rintro _ _ ⟨rfl, rfl⟩
  go_wp2_with fail
  refine (nan_any _).mono ?_
  rintro _ _ ⟨rfl, rfl⟩
  go_wp2_with fail
  refine (sameC1 _ T).mono ?_
  rintro _ w12 ⟨rfl, f12⟩
  have e12 : Ext w11 w12 := (Ext.refl w11).trans f12
  replace T := T.ext e12
  replace naa := naa.ext e12
  replace nbb := nbb.ext e12
  replace Baa := Baa.ext e12
  replace Bbb := Bbb.ext e12
  replace Bcc := Bcc.ext e12
  replace Bdd := Bdd.ext e12
  have E12 : Ext w w12 := E11.trans e12
  clear f12 e12 E11
  go_wp2_with fail
  refine (sameC2 _ T).mono ?_
  rintro _ w13 ⟨rfl, f13⟩
  have e13 : Ext w12 w13 := (Ext.refl w12).trans f13
  replace T := T.ext e13
  replace naa := naa.ext e13
  replace nbb := nbb.ext e13
  replace Baa := Baa.ext e13
  replace Bbb := Bbb.ext e13
  replace Bcc := Bcc.ext e13
  replace Bdd := Bdd.ext e13
  have E13 : Ext w w13 := E12.trans e13
  clear f13 e13 E12
  go_wp2_with fail
  refine (nextC1 _ T).mono ?_
  rintro _ w14 ⟨q14, rfl, o14, f14⟩
  have e14 : Ext w13 w14 := (Ext.refl w13).trans f14
  replace T := T.ext e14
  replace naa := naa.ext e14
  replace nbb := nbb.ext e14
  replace Baa := Baa.ext e14
  replace Bbb := Bbb.ext e14
  replace Bcc := Bcc.ext e14
  replace Bdd := Bdd.ext e14
  have E14 : Ext w w14 := E13.trans e14
  clear f14 e14 E13
  go_wp2_with fail
  refine (nextC2 _ T).mono ?_
  rintro _ w15 ⟨q15, rfl, o15, f15⟩
  have e15 : Ext w14 w15 := (Ext.refl w14).trans f15
  replace T := T.ext e15
  replace naa := naa.ext e15
  replace nbb := nbb.ext e15
  replace Baa := Baa.ext e15
  replace Bbb := Bbb.ext e15
  replace Bcc := Bcc.ext e15
  replace Bdd := Bdd.ext e15
  have E15 : Ext w w15 := E14.trans e15
  clear f15 e15 E14
  go_wp2
  go_ret
  exact ⟨rfl, E15⟩

end Go.Proofs.YtdfkhaajeojeeaaDoor

