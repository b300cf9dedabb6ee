/- More that the laws on floats share. -/
import Derived.Test.YtdfkhaajeojeeaaDoorMJ
namespace Go.Proofs.YtdfkhaajeojeeaaDoor
open Go.RowKit
set_option linter.unusedVariables false

/-- What number a double is, whichever it is. -/
theorem of_case (b : Nat) (hb : b < 18446744073709551616) : ∃ (D : Dyadic) (s : Bool), (∀ w' : World, Tg w' → Calls Tryd.prog 10 #[.float .f64 b] w' (RetDB w' D s)) ∧ (s = true → Fin64 b ∧ D = fval b) ∧ (s = false → 9218868437227405312 ≤ frung b ∧ D = 0) ∧
    (∀ w' : World, Calls Tryd.prog 11 #[.float .f64 b] w' (RetDB w' D s)) := by
  by_cases h : frung b < 9218868437227405312
  · exact ⟨fval b, true, fun w' T' => of_fin w' b hb ⟨h⟩ T', fun _ => ⟨⟨h⟩, rfl⟩, (fun k => by cases k), fun w' => rofF_fin w' b hb ⟨h⟩⟩
  · exact ⟨0, false, fun w' T' => of_no w' b hb (by omega) T', (fun k => by cases k), fun _ => ⟨by omega, rfl⟩, fun w' => rofF_no w' b hb (by omega)⟩
theorem Row.setb {w : World} {v : Value} {xs : List Int} {p : Addr} {b : Bool} (h : Row w v xs) (hp : w.cell? p = some (.bool b)) (u : Value) : Row (w.setCell p u) v xs := by
  obtain ⟨A, c, rfl, h1, h2, h3⟩ := h
  refine ⟨A, c, rfl, h1, h2, fun hl => ?_⟩
  obtain ⟨k, off, rfl, hk, hc⟩ := h3 hl
  refine ⟨k, off, rfl, by simpa using hk, fun j hj => ?_⟩
  have hne : p ≠ ⟨k, off + j, none⟩ := by
    rintro rfl
    rw [hc j hj] at hp
    cases hp
  rw [World.cell?_setCell_other _ _ _ _ (by first | exact hne | exact hne.symm)]
  exact hc j hj
theorem N.setb {w : World} {v : Value} {m : Nat} {p : Addr} {b : Bool} (h : N w v m) (hp : w.cell? p = some (.bool b)) (u : Value) : N (w.setCell p u) v m := by
  obtain ⟨xs, r, nf, e⟩ := h
  exact ⟨xs, r.setb hp u, nf, e⟩
theorem Dn.setb {w : World} {v : Value} {d : Dyadic} {p : Addr} {b : Bool} (h : Dn w v d) (hp : w.cell? p = some (.bool b)) (u : Value) : Dn (w.setCell p u) v d := by
  obtain ⟨M, z, e, rfl, h1, h2, h3⟩ := h
  exact ⟨M, z, e, rfl, h1.setb hp u, h2, h3⟩
theorem Dn.pos {w : World} {x y z : Value} {d : Dyadic} (h : Dn w (.agg #[x, y, z]) d) : Dn w (.agg #[.bool false, y, z]) (absD d) := by
  obtain ⟨M, k, e, hv, h1, h2, rfl⟩ := h
  injection hv with hv
  simp only [Array.mk.injEq, List.cons.injEq, and_true] at hv
  obtain ⟨rfl, rfl, rfl⟩ := hv
  refine ⟨_, (k.natAbs : Int), e, by rw [decide_eq_false (by omega)], by rw [Int.natAbs_natCast]; exact h1, ⟨?_⟩, absD_dy _ _⟩
  rcases h2.out with ⟨k1, k2⟩ | k
  · left; omega
  · right; omega
theorem Dn.first {w : World} {x y z : Value} {d : Dyadic} (h : Dn w (.agg #[x, y, z]) d) : ∃ b, x = .bool b := by
  obtain ⟨M, k, e, hv, _⟩ := h
  injection hv with hv
  simp only [Array.mk.injEq, List.cons.injEq, and_true] at hv
  exact ⟨_, hv.1⟩
theorem Rg.abs {P Q : Nat} {d : Dyadic} (h : Rg P Q d) : Rg P Q (absD d) := by
  unfold absD; split
  · exact h.neg
  · exact h
theorem cmpD_le {x y : Dyadic} (h : x ≤ y) : cmpD x y ≤ 0 := by
  unfold cmpD
  by_cases h1 : x < y
  · rw [if_pos h1]; omega
  · rw [if_neg h1, if_pos (by grind)]; omega
theorem sameF_key {a b : Nat} (ha : Num64 a) (hb : Num64 b) (h : fkey a = fkey b) : sameF a b = true := by
  unfold sameF; rw [order_key ha hb h]; rfl
theorem sameF_self (b : Nat) : sameF b b = true := by
  by_cases h : 9218868437227405312 < frung b
  · unfold sameF; rw [order_nan (.inl h)]; rfl
  · exact sameF_key ⟨by omega⟩ ⟨by omega⟩ rfl
theorem succ_key {b : Nat} (hb : b < 18446744073709551616) (hN : Num64 b) (hk : fkey b < 9218868437227405312) :
    Num64 (if frung b = 0 then 1 else if fneg b then b - 1 else b + 1) ∧ fkey (if frung b = 0 then 1 else if fneg b then b - 1 else b + 1) = fkey b + 1 := by
  have hr := hN.out
  by_cases h0 : frung b = 0
  · rw [if_pos h0]
    refine ⟨⟨by decide⟩, ?_⟩
    have : fkey b = 0 := by unfold fkey; rw [h0]; split <;> rfl
    rw [this]; decide
  · rw [if_neg h0]
    have hw := word_of hb
    rw [word_eq] at hw
    obtain ⟨r, hr0⟩ : ∃ r, frung b = r := ⟨_, rfl⟩
    have hkb : fkey b = if fneg b then -(r : Int) else (r : Int) := by unfold fkey; rw [hr0]
    rw [hkb] at hk ⊢
    rw [hr0] at hw hr h0
    cases hs : fneg b
    · rw [hs] at hw hk
      simp only [Bool.false_eq_true, if_false] at hw hk ⊢
      obtain rfl : b = r := hw.symm
      have e1 : frung (b + 1) = b + 1 := by unfold frung; omega
      have e2 : fneg (b + 1) = false := by
        have : (b + 1) / 9223372036854775808 = 0 := by omega
        unfold fneg; rw [this]; rfl
      refine ⟨⟨by rw [e1]; omega⟩, ?_⟩
      unfold fkey; rw [e1, e2]; simp
    · rw [hs] at hw hk
      simp only [if_true] at hw hk ⊢
      obtain rfl : b = 9223372036854775808 + r := hw.symm
      obtain ⟨t, rfl⟩ : ∃ t, r = t + 1 := ⟨r - 1, by omega⟩
      have e0 : 9223372036854775808 + (t + 1) - 1 = Ieee.double.word true t := by rw [word_eq]; rfl
      rw [e0]
      have e1 := frung_word true (r := t) (by omega)
      have e2 := fneg_word true (r := t) (by omega)
      refine ⟨⟨by rw [e1]; omega⟩, ?_⟩
      unfold fkey; rw [e1, e2]; simp only [if_true]; omega
theorem next_case (b : Nat) (hb : b < 18446744073709551616) : ∃ c c' : Nat, (∀ w' : World, Tg w' → Calls Tryd.prog 15 #[.float .f64 b] w' (RetE w' (.float .f64 c))) ∧
    (∀ w' : World, Calls Tryd.prog 16 #[.float .f64 b] w' fun e w'' => e = .returned (.float .f64 c') ∧ w' = w'') ∧ sameF c c' = true := by
  by_cases hN : 9218868437227405312 < frung b
  · exact ⟨b, b, fun w' T' => next_not w' b hb (.inl hN) T', fun w' => rnextF_nan w' b hN, sameF_self b⟩
  · have hn : Num64 b := ⟨by omega⟩
    by_cases hI : frung b = 9218868437227405312 ∧ fneg b = false
    · exact ⟨b, b, fun w' T' => next_not w' b hb (.inr hI) T', fun w' => rnextF_inf w' b hI.1 hI.2, sameF_self b⟩
    · have hk : -9218868437227405312 ≤ fkey b ∧ fkey b < 9218868437227405312 := by
        unfold fkey
        cases hs : fneg b
        · simp only [Bool.false_eq_true, if_false]
          have : frung b ≠ 9218868437227405312 := fun h => hI ⟨h, hs⟩
          omega
        · simp only [if_true]; omega
      obtain ⟨h1, h2⟩ := succ_key hb hn hk.2
      obtain ⟨a1, _, _, _, a5⟩ := atw_spec (k := fkey b + 1) (by omega) (by omega)
      exact ⟨_, _, fun w' T' => next_num w' b hb hn hk.2 T', fun w' => rnextF_num w' b hb hk.2 hn, sameF_key a5 h1 (by rw [a1, h2])⟩
theorem absD_mul (d : Dyadic) (k : Int) : absD (d * dy 1 k) = absD d * dy 1 k := by
  obtain ⟨z, e, rfl⟩ := exists_dy d
  rw [dy_mul, absD_dy, absD_dy, dy_mul, Int.mul_one, Int.mul_one]
theorem dy_cancel (d : Dyadic) (k : Nat) : d * dy 1 (-(k : Int)) * dy 1 (k : Int) = d := by
  obtain ⟨z, e, rfl⟩ := exists_dy d
  rw [dy_mul, dy_mul, Int.mul_one, Int.mul_one]; congr 1; omega
theorem nr_move {x : Dyadic} {r : Nat} {k : Int} (h : Nr x r) (h1 : 423 * 4503599627370496 < r) (h2 : r < 1623 * 4503599627370496) (hk : -300 ≤ k ∧ k ≤ 300) : ∃ s : Nat, Nr (x * dy 1 k) s ∧ rval s = rval r * dy 1 k ∧ s < 9218868437227405312 ∧ 0 < s := by
  rcases Int.lt_or_le k 0 with hn | hn
  · obtain ⟨j, rfl⟩ : ∃ j : Nat, k = -(j : Int) := ⟨k.natAbs, by omega⟩
    obtain ⟨s, rfl⟩ : ∃ s, r = s + j * 4503599627370496 := ⟨r - j * 4503599627370496, by omega⟩
    have hs : 4503599627370496 < s := by omega
    have hx := dy_cancel x j
    rw [← hx] at h
    refine ⟨s, (nr_shift hs (by omega)).1 h, ?_, by omega, by omega⟩
    rw [rval_shift j (by omega)]
    obtain ⟨z, e, he⟩ := exists_dy (rval s)
    rw [he, dy_mul, dy_mul, Int.mul_one, Int.mul_one]; congr 1; omega
  · obtain ⟨j, rfl⟩ : ∃ j : Nat, k = (j : Int) := ⟨k.natAbs, by omega⟩
    exact ⟨r + j * 4503599627370496, (nr_shift (by omega) (by omega)).2 h, rval_shift j (by omega), by omega, by omega⟩
/-- What is nearest stays so, shifted. -/
theorem scale_math {d : Dyadic} {x y : Nat} {k : Int} (hx : Rn d x) (h1 : 423 * 4503599627370496 < frung x) (h2 : frung x < 1623 * 4503599627370496) (hk : -300 ≤ k ∧ k ≤ 300) (hy : Rn (d * dy 1 k) y) : Fin64 y ∧ fval y = fval x * dy 1 k := by
  obtain ⟨s, hs, hv, hs2, hs0⟩ := nr_move hx.nr h1 h2 hk
  have hyn := hy.nr
  rw [absD_mul] at hyn
  have e := hyn.uniq hs
  have hp := dy_one_pos k
  have hsg : fneg y = fneg x := by
    by_cases hd : d < 0
    · rw [hx.neg hd (by omega)]
      refine hy.neg ?_ (by omega)
      have := (mul_lt_pow (x := d) (y := 0) k).2 hd
      have e0 : (0 : Dyadic) * dy 1 k = 0 := by grind
      rwa [e0] at this
    · by_cases hd2 : 0 < d
      · rw [hx.pos hd2 (by omega)]
        refine hy.pos ?_ (by omega)
        have := (mul_lt_pow (x := 0) (y := d) k).2 hd2
        have e0 : (0 : Dyadic) * dy 1 k = 0 := by grind
        rwa [e0] at this
      · exfalso
        have hz : d = 0 := by grind
        have hr : Nr (absD d) 0 := by
          have : absD d = rval 0 := by rw [hz, rval_zero]; decide +kernel
          rw [this]; exact Nr.rval (by omega)
        have := hx.nr.uniq hr
        omega
  refine ⟨⟨by omega⟩, ?_⟩
  unfold fval
  rw [hsg, e, hv]
  split <;> grind

end Go.Proofs.YtdfkhaajeojeeaaDoor
