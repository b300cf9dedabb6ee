/- What the laws on floats share, without package flo. -/
import Derived.Test.YtfghcfeldpcgcaaMH
namespace Go.Proofs.Ytfghcfeldpcgcaa
open Go.RowKit
set_option linter.unusedVariables false

theorem same_lit (w : World) (va vb : Value) (x y : Dyadic) (h : x = y) (ha : Dn w va x) (hb : Dn w vb y) : Calls Try.prog 28 #[va, vb] w (RetE w (.bool true)) := by
  subst h; exact rsameD_eq w va vb x ha hb
theorem box3 {w : World} {g : Nat} {x y z : Value} (h : Box w g x y z) : w.cell? ⟨g, 0, none⟩ = some x ∧ w.cell? ⟨g, 1, none⟩ = some y ∧ w.cell? ⟨g, 2, none⟩ = some z := ⟨h.c0, h.c1, h.c2⟩
theorem box3_set {w : World} {g i : Nat} {x y z a b c : Value} (h : Box w g x y z) (n : g ≠ i) :
    (((w.setCell ⟨i, 0, none⟩ a).setCell ⟨i, 1, none⟩ b).setCell ⟨i, 2, none⟩ c).cell? ⟨g, 0, none⟩ = some x ∧ (((w.setCell ⟨i, 0, none⟩ a).setCell ⟨i, 1, none⟩ b).setCell ⟨i, 2, none⟩ c).cell? ⟨g, 1, none⟩ = some y ∧ (((w.setCell ⟨i, 0, none⟩ a).setCell ⟨i, 1, none⟩ b).setCell ⟨i, 2, none⟩ c).cell? ⟨g, 2, none⟩ = some z := box3 (h.set3 n)
theorem Rg.of_bits {z e : Int} {n P Q : Nat} (hz : z.natAbs < 2 ^ n) (h1 : -(P : Int) ≤ e) (h2 : e + n ≤ Q) : Rg P Q (dy z e) := by
  obtain ⟨j, hj⟩ : ∃ j : Nat, e = -(P : Int) + (j : Int) := ⟨(e + P).toNat, by omega⟩
  have hn : (z * 2 ^ j).natAbs < 2 ^ (P + Q) := by
    rw [Int.natAbs_mul, Int.natAbs_pow]
    have h3 : z.natAbs * 2 ^ j < 2 ^ n * 2 ^ j := Nat.mul_lt_mul_of_pos_right hz (Nat.two_pow_pos j)
    rw [← Nat.pow_add] at h3
    exact Nat.lt_of_lt_of_le h3 (Nat.pow_le_pow_right (by omega) (by omega))
  have hb : ((z * 2 ^ j).natAbs : Int) < 2 ^ (P + Q) := by
    have : ((z * 2 ^ j).natAbs : Int) < ((2 ^ (P + Q) : Nat) : Int) := by exact_mod_cast hn
    rw [Int.natCast_pow] at this; exact this
  exact ⟨z * 2 ^ j, by rw [hj, dy_up], by omega, by omega⟩
theorem canon_le {z e X E : Int} (c : Canon z e) (h : dy z e = dy X E) (hz : z ≠ 0) : E ≤ e ∧ z.natAbs ≤ X.natAbs := by
  have hE : E ≤ e := by
    rcases Int.lt_or_le e E with k | k
    · exfalso
      obtain ⟨t, ht⟩ : ∃ t : Nat, E = e + ((t + 1 : Nat) : Int) := ⟨(E - e - 1).toNat, by omega⟩
      rw [ht, ← dy_up, Int.pow_succ] at h
      have := dy_inj h
      rw [← Int.mul_assoc] at this
      rcases c.out with c | c <;> omega
    · exact k
  refine ⟨hE, ?_⟩
  obtain ⟨t, ht⟩ : ∃ t : Nat, e = E + (t : Int) := ⟨(e - E).toNat, by omega⟩
  rw [ht, ← dy_up] at h
  have := dy_inj h
  rw [← this, Int.natAbs_mul, Int.natAbs_pow]
  exact Nat.le_mul_of_pos_right _ (Nat.two_pow_pos t)
theorem exists_canon (d : Dyadic) : ∃ z e : Int, d = dy z e ∧ Canon z e := by
  cases d with
  | zero => exact ⟨0, 0, rfl, ⟨.inl ⟨rfl, rfl⟩⟩⟩
  | ofOdd n k h => exact ⟨n, -k, by rw [dy_odd h]; simp, ⟨.inr h⟩⟩
/-- A number that Near is asked of. -/
structure Nb (d : Dyadic) : Prop where
  out : ∃ z e : Int, d = dy z e ∧ Canon z e ∧ Lt 200 z.natAbs ∧ -3700 ≤ e ∧ e ≤ 6000
theorem Nb.of_rg {d : Dyadic} {P Q : Nat} (h : Rg P Q d) (h1 : P + Q ≤ 4800) (h2 : P ≤ 3700) : Nb d := by
  obtain ⟨z, e, rfl, hc⟩ := exists_canon d
  obtain ⟨a, b, c⟩ := h.canon hc
  exact ⟨z, e, rfl, hc, h.lt hc h1, by omega, by omega⟩
theorem rnear_nb (w : World) (v : Value) (d : Dyadic) (h : Dn w v d) (hb : Nb d) : Calls Try.prog 33 #[v] w (RetFE w d) := by
  obtain ⟨z, e, rfl, hc, hl, he⟩ := hb.out
  exact rnear_any w v z e h hc hl (by omega)
theorem Nb.neg {d : Dyadic} (h : Nb d) : Nb (-d) := by
  obtain ⟨z, e, rfl, hc, hl, he⟩ := h.out
  exact ⟨-z, e, dy_neg _ _, hc.neg, by rw [Int.natAbs_neg]; exact hl, he⟩
/-- A number in the range of all sums of the laws. -/
abbrev Rw (d : Dyadic) : Prop := Rg 3000 3500 d
theorem rV_top (q : Nat) : rV ((q + 1) * 4503599627370496) = 2 ^ (52 + q) := by
  have := rV_big (q := q) (s := 0) (by omega)
  rw [Nat.add_zero, Nat.add_zero] at this
  rw [this, Nat.pow_add]
theorem rg_rval {r : Nat} (h : r < 9218868437227405312) : Rg 1074 1024 (rval r) := by
  obtain ⟨q, hq⟩ : ∃ q, q = 2046 := ⟨_, rfl⟩
  have hv := rV_lt (show r < (q + 1) * 4503599627370496 by omega)
  rw [rV_top] at hv
  unfold rval
  exact Rg.of_bits (n := 52 + q) (by rw [Int.natAbs_natCast]; exact hv) (by omega) (by omega)
/-- A double's number is in its range. -/
theorem rg_fin {b : Nat} (h : Fin64 b) : Rg 1074 1024 (fval b) := by
  have := rg_rval h.out
  unfold fval
  split
  · exact this.neg
  · exact this
theorem fin_bits {b : Nat} (h : Fin64 b) : ∃ X E : Int, fval b = dy X E ∧ X.natAbs < 2 ^ 53 := by
  have hp := parts_of b
  have h2 : (2 : Nat) ^ 53 = 9007199254740992 := by decide
  obtain ⟨e, he⟩ : ∃ e, b / 4503599627370496 % 2048 = e := ⟨_, rfl⟩
  obtain ⟨m, hm⟩ : ∃ m, b % 4503599627370496 = m := ⟨_, rfl⟩
  rw [he, hm] at hp
  have hl := hp.low
  cases e with
  | zero => exact ⟨_, _, hp.small, by rw [sg_abs, h2]; omega⟩
  | succ e => exact ⟨_, _, hp.big, by rw [sg_abs, h2]; omega⟩
theorem fin_canon {b : Nat} (h : Fin64 b) : ∃ z e : Int, fval b = dy z e ∧ Canon z e ∧ z.natAbs < 2 ^ 53 ∧ -1074 ≤ e ∧ e ≤ 1024 := by
  obtain ⟨z, e, hd, hc⟩ := exists_canon (fval b)
  obtain ⟨X, E, hX, hb⟩ := fin_bits h
  have hr := rg_fin h
  rw [hd] at hr hX
  obtain ⟨a, b', _⟩ := hr.canon hc
  refine ⟨z, e, hd, hc, ?_, by omega, by omega⟩
  by_cases hz : z = 0
  · subst hz; decide
  · have := (canon_le hc hX hz).2; omega
theorem fin_nb {b : Nat} (h : Fin64 b) : Nb (fval b) := Nb.of_rg (rg_fin h) (by omega) (by omega)
theorem fin_rw {b : Nat} (h : Fin64 b) : Rw (fval b) := (rg_fin h).mono (by omega) (by omega)
/-- It returned a double that is as great as c. -/
def RetEq (w : World) (c : Nat) (e : Ending) (w' : World) : Prop := ∃ b, e = .returned (.float .f64 b) ∧ (Ieee.double.order b c == some .eq) = true ∧ Ext w w'
theorem Rn.key_eq {d : Dyadic} {a b : Nat} (h : Rn d a) (k : Rn d b) : fkey a = fkey b := by
  have h1 := h.mono k (by grind)
  have h2 := k.mono h (by grind)
  omega
theorem order_key {a b : Nat} (ha : Num64 a) (hb : Num64 b) (h : fkey a = fkey b) : (Ieee.double.order a b == some .eq) = true := by
  rw [order_num ha hb, Int.compare_eq_eq.2 h]; rfl
theorem rn_eq {d : Dyadic} {a b : Nat} (h : Rn d a) (k : Rn d b) : (Ieee.double.order a b == some .eq) = true := order_key h.num k.num (h.key_eq k)
theorem retEq {P : Program} {f : FuncId} {args : Array Value} {w : World} {d : Dyadic} {c : Nat} (h : Calls P f args w (RetFE w d)) (k : Rn d c) : Calls P f args w (RetEq w c) :=
  h.mono fun _ _ ⟨b, he, hb, hE⟩ => ⟨b, he, rn_eq hb k, hE⟩
theorem nb_lit (z e : Int) (hc : Canon z e) (hz : z.natAbs < 16777216) (he : -3700 ≤ e ∧ e ≤ 6000) : Nb (dy z e) := ⟨z, e, rfl, hc, Lt.of_bits (Nat.le_trans (bl_of_lt (n := 24) hz) (by omega)), he⟩
theorem Row.setb {w : World} {v : Value} {xs : List Int} {p : Addr} {b : Bool} (h : Row w v xs) (hp : w.cell? p = some (.bool b)) (u : Value) : Row (w.setCell p u) v xs := by
  obtain ⟨A, c, rfl, h1, h2, h3⟩ := h
  refine ⟨A, c, rfl, h1, h2, fun hl => ?_⟩
  obtain ⟨k, off, rfl, hk, hc⟩ := h3 hl
  refine ⟨k, off, rfl, by simpa using hk, fun j hj => ?_⟩
  have hne : p ≠ ⟨k, off + j, none⟩ := by
    rintro rfl
    rw [hc j hj] at hp
    cases hp
  rw [World.cell?_setCell_other _ _ _ _ (by first | exact hne | exact hne.symm)]
  exact hc j hj
theorem N.setb {w : World} {v : Value} {m : Nat} {p : Addr} {b : Bool} (h : N w v m) (hp : w.cell? p = some (.bool b)) (u : Value) : N (w.setCell p u) v m := by
  obtain ⟨xs, r, nf, e⟩ := h
  exact ⟨xs, r.setb hp u, nf, e⟩
theorem Dn.setb {w : World} {v : Value} {d : Dyadic} {p : Addr} {b : Bool} (h : Dn w v d) (hp : w.cell? p = some (.bool b)) (u : Value) : Dn (w.setCell p u) v d := by
  obtain ⟨M, z, e, rfl, h1, h2, h3⟩ := h
  exact ⟨M, z, e, rfl, h1.setb hp u, h2, h3⟩
theorem Dn.pos {w : World} {x y z : Value} {d : Dyadic} (h : Dn w (.agg #[x, y, z]) d) : Dn w (.agg #[.bool false, y, z]) (absD d) := by
  obtain ⟨M, k, e, hv, h1, h2, rfl⟩ := h
  injection hv with hv
  simp only [Array.mk.injEq, List.cons.injEq, and_true] at hv
  obtain ⟨rfl, rfl, rfl⟩ := hv
  refine ⟨_, (k.natAbs : Int), e, by rw [decide_eq_false (by omega)], by rw [Int.natAbs_natCast]; exact h1, ⟨?_⟩, absD_dy _ _⟩
  rcases h2.out with ⟨k1, k2⟩ | k
  · left; omega
  · right; omega
theorem Dn.first {w : World} {x y z : Value} {d : Dyadic} (h : Dn w (.agg #[x, y, z]) d) : ∃ b, x = .bool b := by
  obtain ⟨M, k, e, hv, _⟩ := h
  injection hv with hv
  simp only [Array.mk.injEq, List.cons.injEq, and_true] at hv
  exact ⟨_, hv.1⟩
theorem Rg.abs {P Q : Nat} {d : Dyadic} (h : Rg P Q d) : Rg P Q (absD d) := by
  unfold absD; split
  · exact h.neg
  · exact h
theorem cmpD_le {x y : Dyadic} (h : x ≤ y) : cmpD x y ≤ 0 := by
  unfold cmpD
  by_cases h1 : x < y
  · rw [if_pos h1]; omega
  · rw [if_neg h1, if_pos (by grind)]; omega
theorem sameF_key {a b : Nat} (ha : Num64 a) (hb : Num64 b) (h : fkey a = fkey b) : sameF a b = true := by
  unfold sameF; rw [order_key ha hb h]; rfl
theorem sameF_self (b : Nat) : sameF b b = true := by
  by_cases h : 9218868437227405312 < frung b
  · unfold sameF; rw [order_nan (.inl h)]; rfl
  · exact sameF_key ⟨by omega⟩ ⟨by omega⟩ rfl
theorem succ_key {b : Nat} (hb : b < 18446744073709551616) (hN : Num64 b) (hk : fkey b < 9218868437227405312) :
    Num64 (if frung b = 0 then 1 else if fneg b then b - 1 else b + 1) ∧ fkey (if frung b = 0 then 1 else if fneg b then b - 1 else b + 1) = fkey b + 1 := by
  have hr := hN.out
  by_cases h0 : frung b = 0
  · rw [if_pos h0]
    refine ⟨⟨by decide⟩, ?_⟩
    have : fkey b = 0 := by unfold fkey; rw [h0]; split <;> rfl
    rw [this]; decide
  · rw [if_neg h0]
    have hw := word_of hb
    rw [word_eq] at hw
    obtain ⟨r, hr0⟩ : ∃ r, frung b = r := ⟨_, rfl⟩
    have hkb : fkey b = if fneg b then -(r : Int) else (r : Int) := by unfold fkey; rw [hr0]
    rw [hkb] at hk ⊢
    rw [hr0] at hw hr h0
    cases hs : fneg b
    · rw [hs] at hw hk
      simp only [Bool.false_eq_true, if_false] at hw hk ⊢
      obtain rfl : b = r := hw.symm
      have e1 : frung (b + 1) = b + 1 := by unfold frung; omega
      have e2 : fneg (b + 1) = false := by
        have : (b + 1) / 9223372036854775808 = 0 := by omega
        unfold fneg; rw [this]; rfl
      refine ⟨⟨by rw [e1]; omega⟩, ?_⟩
      unfold fkey; rw [e1, e2]; simp
    · rw [hs] at hw hk
      simp only [if_true] at hw hk ⊢
      obtain rfl : b = 9223372036854775808 + r := hw.symm
      obtain ⟨t, rfl⟩ : ∃ t, r = t + 1 := ⟨r - 1, by omega⟩
      have e0 : 9223372036854775808 + (t + 1) - 1 = Ieee.double.word true t := by rw [word_eq]; rfl
      rw [e0]
      have e1 := frung_word true (r := t) (by omega)
      have e2 := fneg_word true (r := t) (by omega)
      refine ⟨⟨by rw [e1]; omega⟩, ?_⟩
      unfold fkey; rw [e1, e2]; simp only [if_true]; omega
theorem absD_mul (d : Dyadic) (k : Int) : absD (d * dy 1 k) = absD d * dy 1 k := by
  obtain ⟨z, e, rfl⟩ := exists_dy d
  rw [dy_mul, absD_dy, absD_dy, dy_mul, Int.mul_one, Int.mul_one]
theorem dy_cancel (d : Dyadic) (k : Nat) : d * dy 1 (-(k : Int)) * dy 1 (k : Int) = d := by
  obtain ⟨z, e, rfl⟩ := exists_dy d
  rw [dy_mul, dy_mul, Int.mul_one, Int.mul_one]; congr 1; omega
theorem nr_move {x : Dyadic} {r : Nat} {k : Int} (h : Nr x r) (h1 : 423 * 4503599627370496 < r) (h2 : r < 1623 * 4503599627370496) (hk : -300 ≤ k ∧ k ≤ 300) : ∃ s : Nat, Nr (x * dy 1 k) s ∧ rval s = rval r * dy 1 k ∧ s < 9218868437227405312 ∧ 0 < s := by
  rcases Int.lt_or_le k 0 with hn | hn
  · obtain ⟨j, rfl⟩ : ∃ j : Nat, k = -(j : Int) := ⟨k.natAbs, by omega⟩
    obtain ⟨s, rfl⟩ : ∃ s, r = s + j * 4503599627370496 := ⟨r - j * 4503599627370496, by omega⟩
    have hs : 4503599627370496 < s := by omega
    have hx := dy_cancel x j
    rw [← hx] at h
    refine ⟨s, (nr_shift hs (by omega)).1 h, ?_, by omega, by omega⟩
    rw [rval_shift j (by omega)]
    obtain ⟨z, e, he⟩ := exists_dy (rval s)
    rw [he, dy_mul, dy_mul, Int.mul_one, Int.mul_one]; congr 1; omega
  · obtain ⟨j, rfl⟩ : ∃ j : Nat, k = (j : Int) := ⟨k.natAbs, by omega⟩
    exact ⟨r + j * 4503599627370496, (nr_shift (by omega) (by omega)).2 h, rval_shift j (by omega), by omega, by omega⟩
/-- What is nearest stays so, shifted. -/
theorem scale_math {d : Dyadic} {x y : Nat} {k : Int} (hx : Rn d x) (h1 : 423 * 4503599627370496 < frung x) (h2 : frung x < 1623 * 4503599627370496) (hk : -300 ≤ k ∧ k ≤ 300) (hy : Rn (d * dy 1 k) y) : Fin64 y ∧ fval y = fval x * dy 1 k := by
  obtain ⟨s, hs, hv, hs2, hs0⟩ := nr_move hx.nr h1 h2 hk
  have hyn := hy.nr
  rw [absD_mul] at hyn
  have e := hyn.uniq hs
  have hp := dy_one_pos k
  have hsg : fneg y = fneg x := by
    by_cases hd : d < 0
    · rw [hx.neg hd (by omega)]
      refine hy.neg ?_ (by omega)
      have := (mul_lt_pow (x := d) (y := 0) k).2 hd
      have e0 : (0 : Dyadic) * dy 1 k = 0 := by grind
      rwa [e0] at this
    · by_cases hd2 : 0 < d
      · rw [hx.pos hd2 (by omega)]
        refine hy.pos ?_ (by omega)
        have := (mul_lt_pow (x := 0) (y := d) k).2 hd2
        have e0 : (0 : Dyadic) * dy 1 k = 0 := by grind
        rwa [e0] at this
      · exfalso
        have hz : d = 0 := by grind
        have hr : Nr (absD d) 0 := by
          have : absD d = rval 0 := by rw [hz, rval_zero]; decide +kernel
          rw [this]; exact Nr.rval (by omega)
        have := hx.nr.uniq hr
        omega
  refine ⟨⟨by omega⟩, ?_⟩
  unfold fval
  rw [hsg, e, hv]
  split <;> grind
/-- How a double stands to the greatest finite one, and to its opposite. -/
theorem max_key : fkey 9218868437227405311 = 9218868437227405311 ∧ Num64 9218868437227405311 := ⟨by decide, ⟨by decide⟩⟩
theorem nmax_key : fkey 18442240474082181119 = -9218868437227405311 ∧ Num64 18442240474082181119 := ⟨by decide, ⟨by decide⟩⟩
theorem ord_ne {b : Nat} (h : Num64 b) : (Ieee.double.order b b != some .eq) = false := by rw [order_self h]; rfl
theorem ord_nan {b : Nat} (h : 9218868437227405312 < frung b) : (Ieee.double.order b b != some .eq) = true := by rw [order_nan (.inl h)]; rfl
theorem ord_gt {a b : Nat} (ha : Num64 a) (hb : Num64 b) (h : fkey b < fkey a) : (Ieee.double.order a b == some .gt) = true := by rw [order_num ha hb, Int.compare_eq_gt.2 h]; rfl
theorem ord_lt {a b : Nat} (ha : Num64 a) (hb : Num64 b) (h : fkey a < fkey b) : (Ieee.double.order a b == some .lt) = true := by rw [order_num ha hb, Int.compare_eq_lt.2 h]; rfl
theorem ord_not_gt {a b : Nat} (ha : Num64 a) (hb : Num64 b) (h : fkey a ≤ fkey b) : (Ieee.double.order a b == some .gt) = false := by rw [order_num ha hb]; exact cmp_not_gt h
theorem ord_not_lt {a b : Nat} (ha : Num64 a) (hb : Num64 b) (h : fkey b ≤ fkey a) : (Ieee.double.order a b == some .lt) = false := by rw [order_num ha hb]; exact cmp_not_lt h
theorem fin_key {b : Nat} (h : Fin64 b) : -9218868437227405311 ≤ fkey b ∧ fkey b ≤ 9218868437227405311 := by
  have := h.out
  unfold fkey; split <;> omega
theorem ord_neq {a b : Nat} (ha : Num64 a) (hb : Num64 b) (h : fkey a ≠ fkey b) : (Ieee.double.order a b == some .eq) = false := by
  rw [order_num ha hb]
  have : compare (fkey a) (fkey b) ≠ .eq := fun k => h (Int.compare_eq_eq.1 k)
  generalize compare (fkey a) (fkey b) = o at *
  cases o <;> first | rfl | exact absurd rfl this
theorem ord_nne {a b : Nat} (ha : Num64 a) (hb : Num64 b) (h : fkey a ≠ fkey b) : (Ieee.double.order a b != some .eq) = true := by unfold bne; rw [ord_neq ha hb h]; rfl
theorem ord_nn {a b : Nat} (ha : Num64 a) (hb : Num64 b) (h : fkey a = fkey b) : (Ieee.double.order a b != some .eq) = false := by unfold bne; rw [order_key ha hb h]; rfl
theorem neg_case (y : Nat) (hy : y < 18446744073709551616) (hn : Num64 y) : ∃ y', Op.unary .neg (.float .f64 y) = pure (.float .f64 y') ∧ fkey y' = -fkey y ∧ Num64 y' := by
  have hw := word_of hy
  have hr : frung y < 9223372036854775808 := by unfold frung; omega
  have hc := hn.out
  refine ⟨Ieee.double.word (!fneg y) (frung y), ?_, ?_, ⟨by rw [frung_word _ hr]; exact hc⟩⟩
  · have key : Op.negFloat .f64 y = Ieee.double.word (!fneg y) (frung y) := by
      rw [word_eq] at hw ⊢
      cases hs : fneg y
      · rw [hs] at hw
        simp only [Bool.false_eq_true, if_false] at hw
        rw [hw, neg_word y (by omega)]; rfl
      · rw [hs] at hw
        simp only [if_true] at hw
        have h1 := xor_top hr
        show y ^^^ 9223372036854775808 = frung y
        rw [← hw, ← h1, Nat.xor_assoc, Nat.xor_self, Nat.xor_zero, h1]
        unfold frung; omega
    rw [← key]; rfl
  · unfold fkey
    rw [frung_word _ hr, fneg_word _ hr]
    cases fneg y <;> simp
theorem ord_le {a b : Nat} (ha : Num64 a) (hb : Num64 b) (h : fkey a ≤ fkey b) : (Ieee.double.order a b == some .lt || Ieee.double.order a b == some .eq) = true := by
  rw [order_num ha hb]
  rcases Int.lt_or_eq_of_le h with k | k
  · rw [Int.compare_eq_lt.2 k]; rfl
  · rw [Int.compare_eq_eq.2 k]; rfl
theorem ord_vals {f g : Nat} (hf : Fin64 f) (hg : Fin64 g) : (Ieee.double.order f g == some .lt) = decide (cmpD (fval f) (fval g) < 0) ∧ (Ieee.double.order f g == some .eq) = decide (fval f = fval g) := by
  rw [order_fin hf hg]
  unfold ord cmpD
  by_cases h1 : fval f < fval g
  · rw [if_pos h1, if_pos h1]
    exact ⟨rfl, by rw [decide_eq_false (fun k => by rw [k] at h1; grind)]; rfl⟩
  · rw [if_neg h1, if_neg h1]
    by_cases h2 : fval f = fval g
    · rw [if_pos h2, if_pos h2, decide_eq_true h2]; exact ⟨rfl, rfl⟩
    · rw [if_neg h2, if_neg h2, decide_eq_false h2]; exact ⟨rfl, rfl⟩
theorem near_same {d : Dyadic} {a b : Nat} (w : World) (ha : Rn d a) (hb : Rn d b) : Calls Try.prog 10 #[.float .f64 a, .float .f64 b] w (RetE w (.bool true)) :=
  (rsameF_any w a b).mono fun _ _ ⟨he, hw⟩ => ⟨by rw [he, sameF_key ha.num hb.num (ha.key_eq hb)], by rw [← hw]; exact Ext.refl _⟩
theorem rung_abs (q : Nat) : (frung q : Int) = fkey q ∨ (frung q : Int) = -fkey q := by unfold fkey; split <;> omega
theorem shift_num (w : World) (v : Value) (d : Dyadic) (k : Int) (h : Dn w v d) (hb : Nb d) (hk : -300 ≤ k ∧ k ≤ 300) : Calls Try.prog 27 #[v, .int .i64 k] w (RetD w (d * dy 1 k)) := by
  obtain ⟨z, e, rfl, hc, hl, he⟩ := hb.out
  have := rshift_any w v z e k h hc (hl.mono (by omega)) (by omega) (by omega)
  rwa [dy_mul, Int.mul_one]

end Go.Proofs.Ytfghcfeldpcgcaa
