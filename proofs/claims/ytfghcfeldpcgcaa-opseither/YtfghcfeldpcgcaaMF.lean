/- Doubles, no program. -/
import Derived.Test.YtfghcfeldpcgcaaMD
import Ieee.Arith
/- Plain mathematics of floats: the rungs' values, and which rung is nearest. No program. -/
namespace Go.Proofs.Ytfghcfeldpcgcaa

/-- A rung's value over 2^-1074, and how far the next one is. -/
def rV (r : Nat) : Nat := if r < 4503599627370496 then r else (4503599627370496 + r % 4503599627370496) * 2 ^ (r / 4503599627370496 - 1)
def rU (r : Nat) : Nat := 2 ^ (r / 4503599627370496 - 1)
theorem rU_pos (r : Nat) : 0 < rU r := Nat.two_pow_pos _
theorem rV_small {r : Nat} (h : r < 4503599627370496) : rV r = r := by unfold rV; rw [if_pos h]
theorem rV_big {q s : Nat} (h : s < 4503599627370496) : rV ((q + 1) * 4503599627370496 + s) = (4503599627370496 + s) * 2 ^ q := by
  unfold rV
  have h1 : ((q + 1) * 4503599627370496 + s) / 4503599627370496 = q + 1 := by omega
  have h2 : ((q + 1) * 4503599627370496 + s) % 4503599627370496 = s := by omega
  rw [if_neg (by omega), h1, h2, Nat.add_sub_cancel]
theorem rU_big {q s : Nat} (h : s < 4503599627370496) : rU ((q + 1) * 4503599627370496 + s) = 2 ^ q := by
  unfold rU
  have h1 : ((q + 1) * 4503599627370496 + s) / 4503599627370496 = q + 1 := by omega
  rw [h1, Nat.add_sub_cancel]
theorem rU_small {r : Nat} (h : r < 4503599627370496) : rU r = 1 := by
  unfold rU
  have h1 : r / 4503599627370496 = 0 := by omega
  rw [h1]
theorem rung_form {r : Nat} (h : 4503599627370496 ≤ r) : ∃ q s, s < 4503599627370496 ∧ r = (q + 1) * 4503599627370496 + s := ⟨r / 4503599627370496 - 1, r % 4503599627370496, by omega, by omega⟩
theorem rV_succ (r : Nat) : rV (r + 1) = rV r + rU r := by
  rcases Nat.lt_or_ge r 4503599627370496 with h | h
  · rw [rV_small h, rU_small h]
    rcases Nat.lt_or_ge (r + 1) 4503599627370496 with h2 | h2
    · rw [rV_small h2]
    · have : r + 1 = (0 + 1) * 4503599627370496 + 0 := by omega
      rw [this, rV_big (by omega)]
  · obtain ⟨q, s, hs, rfl⟩ := rung_form h
    rw [rV_big hs, rU_big hs]
    rcases Nat.lt_or_ge (s + 1) 4503599627370496 with h2 | h2
    · rw [Nat.add_assoc, rV_big h2, ← Nat.add_assoc, Nat.succ_mul]
    · have : (q + 1) * 4503599627370496 + s + 1 = (q + 1 + 1) * 4503599627370496 + 0 := by omega
      rw [this, rV_big (by omega), Nat.pow_succ, ← Nat.succ_mul]
      have : Nat.succ (4503599627370496 + s) = 4503599627370496 * 2 := by omega
      rw [this, Nat.add_zero, Nat.mul_assoc, Nat.mul_comm 2]
theorem rV_lt {r s : Nat} (h : r < s) : rV r < rV s := by
  obtain ⟨k, rfl⟩ := Nat.exists_eq_add_of_lt h
  induction k with
  | zero => have := rV_succ r; have := rU_pos r; simp only [Nat.add_zero]; omega
  | succ k ih =>
    have := ih (by omega)
    have h2 := rV_succ (r + k + 1)
    have := rU_pos (r + k + 1)
    have e : r + (k + 1) + 1 = r + k + 1 + 1 := by omega
    rw [e]; omega
theorem rV_le {r s : Nat} (h : r ≤ s) : rV r ≤ rV s := by
  rcases Nat.eq_or_lt_of_le h with e | e
  · rw [e]; exact Nat.le_refl _
  · exact Nat.le_of_lt (rV_lt e)
/-- The value of 'kept' units of 2^L, as a rung. -/
theorem rV_kept {L kept : Nat} (h1 : L = 0 ∨ 4503599627370496 ≤ kept) (h2 : kept ≤ 2 * 4503599627370496) : rV (L * 4503599627370496 + kept) = kept * 2 ^ L := by
  rcases Nat.lt_or_ge kept 4503599627370496 with h | h
  · have h0 : L = 0 := by omega
    subst h0
    rw [Nat.zero_mul, Nat.zero_add, rV_small h]; simp
  · rcases Nat.lt_or_ge kept (2 * 4503599627370496) with h3 | h3
    · have e : L * 4503599627370496 + kept = (L + 1) * 4503599627370496 + (kept - 4503599627370496) := by omega
      rw [e, rV_big (by omega), show 4503599627370496 + (kept - 4503599627370496) = kept by omega]
    · have e : L * 4503599627370496 + kept = (L + 1 + 1) * 4503599627370496 + 0 := by omega
      have e2 : kept = 4503599627370496 * 2 := by omega
      rw [e, rV_big (by omega), Nat.pow_succ, e2, Nat.add_zero, Nat.mul_assoc, Nat.mul_comm 2]

/-- The value of a rung, and what lies halfway to the next one. -/
def rval (r : Nat) : Dyadic := dy (rV r : Nat) (-1074)
def mid (r : Nat) : Dyadic := dy (2 * rV r + rU r : Nat) (-1075)
theorem rval_half (r : Nat) : rval r = dy (2 * rV r : Nat) (-1075) := by
  unfold rval
  have := dy_up (rV r : Nat) (-1075) 1
  rw [show (-1075 : Int) + (1 : Nat) = -1074 by omega] at this
  rw [← this]; congr 1; omega
theorem dy_le {x y e : Int} : dy x e ≤ dy y e ↔ x ≤ y := by
  have := dy_lt (x := y) (y := x) (e := e)
  constructor
  · intro h
    have : ¬ dy y e < dy x e := by grind
    have := mt (dy_lt (x := y) (y := x) (e := e)).2 this
    omega
  · intro h
    have : ¬ dy y e < dy x e := fun k => by have := dy_lt.1 k; omega
    grind
theorem rval_lt_mid (r : Nat) : rval r < mid r := by
  rw [rval_half]; unfold mid; rw [dy_lt]; have := rU_pos r; omega
theorem mid_lt_rval (r : Nat) : mid r < rval (r + 1) := by
  rw [rval_half]; unfold mid; rw [dy_lt, rV_succ]; have := rU_pos r; omega
theorem rval_lt {r s : Nat} (h : r < s) : rval r < rval s := by unfold rval; rw [dy_lt]; have := rV_lt h; omega
theorem mid_lt {r s : Nat} (h : r < s) : mid r < mid s := by
  have h1 := mid_lt_rval r
  have h2 := rval_lt_mid s
  rcases Nat.eq_or_lt_of_le (Nat.succ_le_of_lt h) with e | e
  · rw [← e] at h2 ⊢; simp only [Nat.succ_eq_add_one] at h2 ⊢; grind
  · have h3 := rval_lt e
    simp only [Nat.succ_eq_add_one] at h3
    grind

/-- r is the rung nearest to x, which is not below 0; halfway the even one; no rung is above that of infinity. -/
structure Nr (x : Dyadic) (r : Nat) : Prop where
  cap : r ≤ 9218868437227405312
  up : r < 9218868437227405312 → x < mid r ∨ (x = mid r ∧ r % 2 = 0)
  down : ∀ q, r = q + 1 → mid q < x ∨ (x = mid q ∧ r % 2 = 0)
theorem Nr.mono {x y : Dyadic} {r s : Nat} (h : Nr x r) (k : Nr y s) (hxy : x ≤ y) : r ≤ s := by
  rcases Nat.lt_or_ge s r with hs | hs
  · exfalso
    obtain ⟨q, rfl⟩ : ∃ q, r = q + 1 := ⟨r - 1, by omega⟩
    have h1 := h.down q rfl
    have h2 := k.up (by have := h.cap; omega)
    rcases Nat.eq_or_lt_of_le (show s ≤ q by omega) with e | e
    · subst e
      rcases h1 with h1 | ⟨h1, p1⟩ <;> rcases h2 with h2 | ⟨h2, p2⟩
      · grind
      · grind
      · grind
      · omega
    · have h3 := mid_lt e
      rcases h1 with h1 | ⟨h1, _⟩ <;> rcases h2 with h2 | ⟨h2, _⟩ <;> grind
  · exact hs
theorem Nr.uniq {x : Dyadic} {r s : Nat} (h : Nr x r) (k : Nr x s) : r = s := by
  have h1 := h.mono k (by grind)
  have h2 := k.mono h (by grind)
  omega
theorem Nr.rval {r : Nat} (h : r ≤ 9218868437227405312) : Nr (rval r) r :=
  ⟨h, fun _ => .inl (rval_lt_mid r), fun q hq => by subst hq; exact .inl (mid_lt_rval q)⟩
/-- The same, with no cap. -/
structure Nr0 (x : Dyadic) (r : Nat) : Prop where
  up : x < mid r ∨ (x = mid r ∧ r % 2 = 0)
  down : ∀ q, r = q + 1 → mid q < x ∨ (x = mid q ∧ r % 2 = 0)
theorem Nr0.rval (r : Nat) : Nr0 (rval r) r := ⟨.inl (rval_lt_mid r), fun q hq => by subst hq; exact .inl (mid_lt_rval q)⟩
theorem Nr0.cap {x : Dyadic} {r : Nat} (h : Nr0 x r) : Nr x (min r 9218868437227405312) := by
  rcases Nat.lt_or_ge r 9218868437227405312 with h1 | h1
  · rw [Nat.min_eq_left (by omega)]
    exact ⟨by omega, fun _ => h.up, h.down⟩
  · rw [Nat.min_eq_right h1]
    refine ⟨Nat.le_refl _, fun k => absurd k (by omega), fun q hq => ?_⟩
    rcases Nat.eq_or_lt_of_le h1 with e | e
    · have := h.down q (by omega)
      rw [← e] at this; exact this
    · obtain ⟨t, rfl⟩ : ∃ t, r = t + 1 := ⟨r - 1, by omega⟩
      have h2 := h.down t rfl
      have h3 := mid_lt (show q < t by omega)
      left
      rcases h2 with h2 | ⟨h2, _⟩ <;> grind

/-- What is cut to the nearest whole number, ties to even. -/
theorem cut_spec (neg : Bool) (n drop : Nat) : ∃ c, Ieee.Toward.even.cut neg n drop = c ∧ (2 * n < (2 * c + 1) * 2 ^ drop ∨ (2 * n = (2 * c + 1) * 2 ^ drop ∧ c % 2 = 0)) ∧
    (∀ b, c = b + 1 → (2 * b + 1) * 2 ^ drop < 2 * n ∨ ((2 * b + 1) * 2 ^ drop = 2 * n ∧ c % 2 = 0)) := by
  refine ⟨_, rfl, ?_⟩
  unfold Ieee.Toward.cut
  dsimp only
  rw [Nat.one_shiftLeft]
  rcases Nat.lt_or_ge (n.log2 + 2) drop with hd | hd
  · rw [Nat.min_eq_right (by omega)]
    have hn : n < 2 ^ (n.log2 + 1) := by
      by_cases h0 : n = 0
      · subst h0; simp
      · exact (Nat.log2_lt h0).1 (Nat.lt_succ_self _)
    have e : 2 ^ (n.log2 + 2) = 2 * 2 ^ (n.log2 + 1) := by rw [Nat.pow_succ, Nat.mul_comm]
    have h1 : n / 2 ^ (n.log2 + 2) = 0 := Nat.div_eq_of_lt (by omega)
    have h2 : n % 2 ^ (n.log2 + 2) = n := Nat.mod_eq_of_lt (by omega)
    rw [h1, h2]
    have h3 : decide (2 ^ (n.log2 + 2) < 2 * n) = false := decide_eq_false (by omega)
    have h4 : (2 ^ (n.log2 + 2) == 2 * n) = false := beq_eq_false_iff_ne.2 (by omega)
    rw [h3, h4]
    have h5 := Nat.pow_le_pow_right (show 0 < 2 by omega) (show n.log2 + 2 ≤ drop by omega)
    exact ⟨.inl (by simp; omega), fun b hb => by simp at hb⟩
  · rw [Nat.min_eq_left hd]
    have hp := Nat.two_pow_pos drop
    have hdm := Nat.div_add_mod n (2 ^ drop)
    have hmod := Nat.mod_lt n hp
    generalize 2 ^ drop = g at *
    generalize hq : n / g = q at *
    generalize n % g = r at *
    have hg : g * q = q * g := Nat.mul_comm g q
    have e1 : (2 * q + 1) * g = 2 * (q * g) + g := by rw [Nat.add_mul, Nat.one_mul, Nat.mul_assoc]
    by_cases h1 : g < 2 * r
    · rw [decide_eq_true h1]
      simp only [Bool.true_or, Bool.toNat_true]
      have e2 : (2 * (q + 1) + 1) * g = 2 * (q * g) + 3 * g := by rw [Nat.add_mul, Nat.one_mul, Nat.mul_assoc, Nat.add_mul]; omega
      refine ⟨.inl (by omega), fun b hb => ?_⟩
      have : b = q := by omega
      subst this
      exact .inl (by omega)
    · rw [decide_eq_false h1]
      by_cases h2 : g = 2 * r
      · have h2' : (g == 2 * r) = true := by simpa using h2
        rw [h2']
        rcases Nat.mod_two_eq_zero_or_one q with hpar | hpar
        · rw [hpar]
          simp only [Bool.false_or, Bool.true_and, show ((0 : Nat) == 1) = false from rfl, Bool.toNat_false, Nat.add_zero]
          refine ⟨.inr ⟨by omega, hpar⟩, fun b hb => .inl ?_⟩
          subst hb
          have e3 : (b + 1) * g = b * g + g := by rw [Nat.add_mul, Nat.one_mul]
          have e4 : (2 * b + 1) * g = 2 * (b * g) + g := by rw [Nat.add_mul, Nat.one_mul, Nat.mul_assoc]
          omega
        · rw [hpar]
          simp only [Bool.false_or, Bool.true_and, beq_self_eq_true, Bool.toNat_true]
          have e2 : (2 * (q + 1) + 1) * g = 2 * (q * g) + 3 * g := by rw [Nat.add_mul, Nat.one_mul, Nat.mul_assoc, Nat.add_mul]; omega
          refine ⟨.inl (by omega), fun b hb => ?_⟩
          have : b = q := by omega
          subst this
          exact .inr ⟨by omega, by omega⟩
      · have h2' : (g == 2 * r) = false := by simpa using h2
        rw [h2']
        simp only [Bool.false_or, Bool.false_and, Bool.toNat_false, Nat.add_zero]
        refine ⟨.inl (by omega), fun b hb => .inl ?_⟩
        subst hb
        have e3 : (b + 1) * g = b * g + g := by rw [Nat.add_mul, Nat.one_mul]
        have e4 : (2 * b + 1) * g = 2 * (b * g) + g := by rw [Nat.add_mul, Nat.one_mul, Nat.mul_assoc]
        omega

theorem rU_kept {L b : Nat} (h1 : L = 0 ∨ 4503599627370496 ≤ b) (h2 : b < 2 * 4503599627370496) : rU (L * 4503599627370496 + b) = 2 ^ L := by
  rcases Nat.lt_or_ge b 4503599627370496 with h | h
  · have h0 : L = 0 := by omega
    subst h0
    rw [Nat.zero_mul, Nat.zero_add, rU_small h]
  · have e : L * 4503599627370496 + b = (L + 1) * 4503599627370496 + (b - 4503599627370496) := by omega
    rw [e, rU_big (by omega)]
theorem rU_top (L : Nat) : rU (L * 4503599627370496 + 2 * 4503599627370496) = 2 * 2 ^ L := by
  have e : L * 4503599627370496 + 2 * 4503599627370496 = (L + 1 + 1) * 4503599627370496 + 0 := by omega
  rw [e, rU_big (by omega), Nat.pow_succ, Nat.mul_comm]
/-- Two numbers over one power of two. -/
theorem dy_lt_over {x y e f m : Int} {a b : Nat} (ha : e = m + (a : Nat)) (hb : f = m + (b : Nat)) : dy x e < dy y f ↔ x * 2 ^ a < y * 2 ^ b := by
  rw [ha, hb, ← dy_up, ← dy_up, dy_lt]
theorem dy_eq_over {x y e f m : Int} {a b : Nat} (ha : e = m + (a : Nat)) (hb : f = m + (b : Nat)) : dy x e = dy y f ↔ x * 2 ^ a = y * 2 ^ b := by
  rw [ha, hb, ← dy_up, ← dy_up]
  exact ⟨dy_inj, fun h => by rw [h]⟩
/-- What the double nearest to mag times 2^place is: its rung is nearest. -/
theorem nearest_spec (neg : Bool) (mag : Nat) (place : Int) : ∃ r, Ieee.double.nearest neg mag place = Ieee.double.word neg r ∧ Nr (dy (mag : Nat) place) r := by
  by_cases h0 : mag = 0
  · subst h0
    refine ⟨0, by unfold Ieee.Format.nearest; rw [if_pos rfl], ?_⟩
    have : dy ((0 : Nat) : Int) place = rval 0 := by unfold rval; rw [rV_small (by omega)]; exact (dy_zero _).trans (dy_zero _).symm
    rw [this]; exact Nr.rval (by omega)
  · have hfb : Ieee.double.fractionBits = 52 := rfl
    have hlp : Ieee.double.leastPlace = -1074 := by decide
    have hbn : Ieee.double.binade = 4503599627370496 := by decide
    have hin : Ieee.double.infRung = 9218868437227405312 := by decide
    unfold Ieee.Format.nearest
    rw [if_neg h0, hfb, hlp, hbn, hin]
    dsimp only
    obtain ⟨last, hlast⟩ : ∃ last, max (place + (mag.log2 : Nat) - ((52 : Nat) : Int)) (-1074) = last := ⟨_, rfl⟩
    rw [hlast]
    obtain ⟨L, hL⟩ : ∃ L : Nat, last = -1074 + (L : Int) := ⟨(last + 1074).toNat, by omega⟩
    have eL : (last - -1074).toNat = L := by omega
    rw [eL]
    obtain ⟨c, hc, hu, hd⟩ := cut_spec neg (mag <<< (place - last).toNat) (last - place).toNat
    rw [hc]
    refine ⟨_, rfl, Nr0.cap ?_⟩
    have hlg1 : 2 ^ mag.log2 ≤ mag := Nat.log2_self_le h0
    have hlg2 : mag < 2 ^ (mag.log2 + 1) := (Nat.log2_lt h0).1 (Nat.lt_succ_self _)
    clear hc
    rcases Int.lt_or_le place last with hp | hp
    · obtain ⟨dr, hdr⟩ : ∃ dr : Nat, last = place + (dr : Int) ∧ 1 ≤ dr := ⟨(last - place).toNat, by omega⟩
      have e1 : (place - last).toNat = 0 := by omega
      have e2 : (last - place).toNat = dr := by omega
      rw [e1, Nat.shiftLeft_zero, e2] at hu hd
      have hP := Nat.two_pow_pos dr
      have hhi : mag < 9007199254740992 * 2 ^ dr := by
        have h1 := Nat.pow_le_pow_right (show 0 < 2 by omega) (show mag.log2 + 1 ≤ 53 + dr by omega)
        have h2 : 2 ^ (53 + dr) = 9007199254740992 * 2 ^ dr := by rw [Nat.pow_add]
        omega
      have hlo : L ≠ 0 → 4503599627370496 * 2 ^ dr ≤ mag := fun hL0 => by
        have h1 : mag.log2 = 52 + dr := by omega
        rw [h1, Nat.pow_add] at hlg1
        omega
      have hcB : L = 0 ∨ 4503599627370496 ≤ c := by
        by_cases hL0 : L = 0
        · exact .inl hL0
        · right
          have h1 := hlo hL0
          rcases Nat.lt_or_ge c 4503599627370496 with h | h
          · exfalso
            have h2 : (2 * c + 1) * 2 ^ dr ≤ (2 * 4503599627370495 + 1) * 2 ^ dr := Nat.mul_le_mul_right _ (by omega)
            omega
          · exact h
      have hcT : c ≤ 2 * 4503599627370496 := by
        rcases Nat.lt_or_ge (2 * 4503599627370496) c with h | h
        · exfalso
          obtain ⟨b, rfl⟩ : ∃ b, c = b + 1 := ⟨c - 1, by omega⟩
          have h1 := hd b rfl
          have h2 : (2 * 9007199254740992 + 1) * 2 ^ dr ≤ (2 * b + 1) * 2 ^ dr := Nat.mul_le_mul_right _ (by omega)
          omega
        · exact h
      have hV := rV_kept hcB hcT
      have hx : dy (mag : Int) place = dy (2 * mag : Nat) (place - 1) := by
        have := dy_up (mag : Int) (place - 1) 1
        rw [show place - 1 + ((1 : Nat) : Int) = place by omega] at this
        rw [← this]; congr 1; omega
      have hm : ∀ t : Nat, dy (t * 2 ^ L : Nat) (-1075) = dy (t * 2 ^ dr : Nat) (place - 1) := fun t => by
        have h1 := dy_up (t : Int) (-1075) L
        have h2 := dy_up (t : Int) (place - 1) dr
        rw [show (-1075 : Int) + (L : Int) = place - 1 + (dr : Int) by omega, ← h2] at h1
        push_cast
        exact h1
      have hpar : (L * 4503599627370496 + c) % 2 = c % 2 := by omega
      have hup : dy (mag : Int) place < dy ((2 * c + 1) * 2 ^ L : Nat) (-1075) ∨ (dy (mag : Int) place = dy ((2 * c + 1) * 2 ^ L : Nat) (-1075) ∧ c % 2 = 0) := by
        rw [hx, hm]
        rcases hu with h | ⟨h, k⟩
        · exact .inl (dy_lt.2 (by omega))
        · exact .inr ⟨by rw [h], k⟩
      refine ⟨?_, fun q hq => ?_⟩
      · unfold mid
        rw [hV, hpar]
        rcases Nat.eq_or_lt_of_le hcT with e | e
        · have hlt : dy ((2 * c + 1) * 2 ^ L : Nat) (-1075) < dy (2 * (c * 2 ^ L) + rU (L * 4503599627370496 + c) : Nat) (-1075) := by
            rw [e, rU_top, dy_lt, Nat.add_mul, Nat.one_mul, Nat.mul_assoc]
            have := Nat.two_pow_pos L
            omega
          left
          rcases hup with h | ⟨h, _⟩ <;> grind
        · rw [rU_kept hcB e, show 2 * (c * 2 ^ L) + 2 ^ L = (2 * c + 1) * 2 ^ L by rw [Nat.add_mul, Nat.one_mul, Nat.mul_assoc]]
          exact hup
      · rw [hpar]
        by_cases hc0 : c = 0
        · exfalso
          rcases hcB with h | h <;> omega
        · obtain ⟨b, rfl⟩ : ∃ b, c = b + 1 := ⟨c - 1, by omega⟩
          obtain rfl : q = L * 4503599627370496 + b := by omega
          have hVs := rV_succ (L * 4503599627370496 + b)
          rw [Nat.add_assoc (L * 4503599627370496) b 1, hV] at hVs
          by_cases hb : L = 0 ∨ 4503599627370496 ≤ b
          · have hu2 := rU_kept hb (by omega)
            have hmid : mid (L * 4503599627370496 + b) = dy ((2 * b + 1) * 2 ^ dr : Nat) (place - 1) := by
              unfold mid
              rw [← hm, hu2]
              congr 2
              have e3 : (b + 1) * 2 ^ L = b * 2 ^ L + 2 ^ L := by rw [Nat.add_mul, Nat.one_mul]
              rw [Nat.add_mul, Nat.one_mul, Nat.mul_assoc]
              omega
            rw [hmid, hx]
            rcases hd b rfl with h | ⟨h, k⟩
            · exact .inl (dy_lt.2 (by omega))
            · exact .inr ⟨by rw [h], k⟩
          · left
            have h1 := mid_lt_rval (L * 4503599627370496 + b)
            have h2 : rval (L * 4503599627370496 + (b + 1)) ≤ dy (mag : Int) place := by
              rw [rval_half, hV, show 2 * ((b + 1) * 2 ^ L) = (2 * (b + 1)) * 2 ^ L by rw [Nat.mul_assoc], hm (2 * (b + 1)), hx, dy_le]
              have h3 := hlo (by omega)
              have h4 : (2 * (b + 1)) * 2 ^ dr ≤ (2 * 4503599627370496) * 2 ^ dr := Nat.mul_le_mul_right _ (by omega)
              omega
            rw [Nat.add_assoc (L * 4503599627370496) b 1] at h1
            grind
    · obtain ⟨t, ht⟩ : ∃ t : Nat, place = last + (t : Int) := ⟨(place - last).toNat, by omega⟩
      have e1 : (place - last).toNat = t := by omega
      have e2 : (last - place).toNat = 0 := by omega
      rw [e1, Nat.shiftLeft_eq, e2, Nat.pow_zero] at hu hd
      have hcn : c = mag * 2 ^ t := by
        have h1 : mag * 2 ^ t ≤ c := by omega
        by_cases hc0 : c = 0
        · omega
        · have := hd (c - 1) (by omega)
          omega
      have hhi : mag * 2 ^ t < 9007199254740992 := by
        have h1 : mag * 2 ^ t < 2 ^ (mag.log2 + 1) * 2 ^ t := Nat.mul_lt_mul_of_pos_right hlg2 (Nat.two_pow_pos t)
        rw [← Nat.pow_add] at h1
        have h2 := Nat.pow_le_pow_right (show 0 < 2 by omega) (show mag.log2 + 1 + t ≤ 53 by omega)
        have h3 : 2 ^ 53 = 9007199254740992 := by decide
        omega
      have hlo : L ≠ 0 → 4503599627370496 ≤ mag * 2 ^ t := fun hL0 => by
        have h1 : 2 ^ mag.log2 * 2 ^ t ≤ mag * 2 ^ t := Nat.mul_le_mul_right _ hlg1
        rw [← Nat.pow_add, show mag.log2 + t = 52 by omega] at h1
        have h3 : 2 ^ 52 = 4503599627370496 := by decide
        omega
      have hV := rV_kept (L := L) (kept := c) (by rw [hcn]; exact (Decidable.em (L = 0)).elim .inl (fun hL0 => .inr (hlo hL0))) (by omega)
      have hx : dy (mag : Int) place = rval (L * 4503599627370496 + c) := by
        unfold rval
        rw [hV, hcn, ht]
        have h1 := dy_up (mag : Int) last t
        rw [← h1]
        have h2 := dy_up ((mag * 2 ^ t : Nat) : Int) (-1074) L
        rw [← hL] at h2
        push_cast at h2 ⊢
        exact h2.symm
      rw [hx]
      exact Nr0.rval _

end Go.Proofs.Ytfghcfeldpcgcaa

/- Plain mathematics of floats: words, their values, order, and what is nearest to a number. No program. -/
namespace Go.Proofs.Ytfghcfeldpcgcaa

/-- A double's sign and rung. -/
def fneg (b : Nat) : Bool := b / 9223372036854775808 % 2 == 1
def frung (b : Nat) : Nat := b % 9223372036854775808
/-- Its value, if it is finite. -/
def fval (b : Nat) : Dyadic := if fneg b then -rval (frung b) else rval (frung b)
structure Fin64 (b : Nat) : Prop where
  out : frung b < 9218868437227405312
theorem d_fb : Ieee.double.fractionBits = 52 := rfl
theorem d_lp : Ieee.double.leastPlace = -1074 := by decide
theorem d_bn : Ieee.double.binade = 4503599627370496 := by decide
theorem d_in : Ieee.double.infRung = 9218868437227405312 := by decide
theorem d_sw : Ieee.double.signWeight = 9223372036854775808 := by decide
theorem word_eq (neg : Bool) (r : Nat) : Ieee.double.word neg r = if neg then 9223372036854775808 + r else r := by unfold Ieee.Format.word; rw [d_sw]
theorem frung_word (neg : Bool) {r : Nat} (h : r < 9223372036854775808) : frung (Ieee.double.word neg r) = r := by rw [word_eq]; unfold frung; cases neg <;> simp <;> omega
theorem fneg_word (neg : Bool) {r : Nat} (h : r < 9223372036854775808) : fneg (Ieee.double.word neg r) = neg := by
  rw [word_eq]; unfold fneg
  cases neg
  · simp; omega
  · simp; omega
theorem word_of {b : Nat} (h : b < 18446744073709551616) : Ieee.double.word (fneg b) (frung b) = b := by
  rw [word_eq]; unfold fneg frung
  by_cases k : b < 9223372036854775808
  · have : b / 9223372036854775808 = 0 := by omega
    rw [this]; simp; omega
  · have : b / 9223372036854775808 = 1 := by omega
    rw [this]; simp; omega
theorem read_fin {b : Nat} (h : Fin64 b) : ∃ (m : Nat) (p : Int), Ieee.double.read b = .number (fneg b) m p ∧ dy (m : Int) p = rval (frung b) ∧ (m = 0 ↔ frung b = 0) := by
  have h := h.out
  unfold Ieee.Format.read
  simp only [d_sw, d_bn, d_in, d_lp]
  have e1 : (b / 9223372036854775808 % 2 == 1) = fneg b := rfl
  have e2 : b % 9223372036854775808 = frung b := rfl
  rw [e1, e2]
  by_cases h1 : frung b < 4503599627370496
  · rw [if_pos h1]
    exact ⟨_, _, rfl, by unfold rval; rw [rV_small h1], Iff.rfl⟩
  · rw [if_neg h1, if_pos h]
    refine ⟨_, _, rfl, ?_, by omega⟩
    obtain ⟨q, s, hs, hr⟩ := rung_form (show 4503599627370496 ≤ frung b by omega)
    have e3 : frung b % 4503599627370496 = s := by omega
    have e4 : frung b / 4503599627370496 - 1 = q := by omega
    unfold rval
    rw [e3, e4, hr, rV_big hs]
    have h2 := dy_up ((4503599627370496 + s : Nat) : Int) (-1074) q
    rw [← h2, Int.natCast_mul, Int.natCast_pow]
    rfl
theorem read_inf {b : Nat} (h : frung b = 9218868437227405312) : Ieee.double.read b = .infinity (fneg b) := by
  unfold Ieee.Format.read
  simp only [d_sw, d_bn, d_in, d_lp]
  have e1 : (b / 9223372036854775808 % 2 == 1) = fneg b := rfl
  have e2 : b % 9223372036854775808 = frung b := rfl
  rw [e1, e2, h, if_neg (by omega), if_neg (by omega), if_pos rfl]
theorem read_nan {b : Nat} (h : 9218868437227405312 < frung b) : Ieee.double.read b = .nan (fneg b) (frung b - 9218868437227405312) := by
  unfold Ieee.Format.read
  simp only [d_sw, d_bn, d_in, d_lp]
  have e1 : (b / 9223372036854775808 % 2 == 1) = fneg b := rfl
  have e2 : b % 9223372036854775808 = frung b := rfl
  rw [e1, e2, if_neg (by omega), if_neg (by omega), if_neg (by omega)]
theorem rval_zero : rval 0 = 0 := by unfold rval; rw [rV_small (by omega)]; exact dy_zero _
theorem rval_pos {r : Nat} (h : 0 < r) : 0 < rval r := by rw [← rval_zero]; exact rval_lt h
/-- The number that a datum is. -/
theorem signed_dy (neg : Bool) (m up : Nat) (p : Int) : dy (Ieee.signed neg m up) p = if neg then -(dy (m : Int) (p + up)) else dy (m : Int) (p + up) := by
  unfold Ieee.signed
  rw [Nat.shiftLeft_eq]
  have h := dy_up (m : Int) p up
  cases neg
  · simp only [Bool.false_eq_true, if_false]; rw [← h]; push_cast; rfl
  · simp only [if_true]; rw [← h, dy_neg]; push_cast; rfl
theorem fval_read {b : Nat} {m : Nat} {p : Int} (h : dy (m : Int) p = rval (frung b)) : fval b = if fneg b then -(dy (m : Int) p) else dy (m : Int) p := by unfold fval; rw [h]
def ord (x y : Dyadic) : Ordering := if x < y then .lt else if x = y then .eq else .gt
theorem compare_dy (x y p : Int) : compare x y = ord (dy x p) (dy y p) := by
  unfold ord
  rcases Int.lt_trichotomy x y with h | h | h
  · rw [if_pos (dy_lt.2 h)]; exact Int.compare_eq_lt.2 h
  · subst h
    rw [if_neg (by grind), if_pos rfl]; exact Int.compare_eq_eq.2 rfl
  · rw [if_neg (fun k => by have := dy_lt.1 k; omega), if_neg (fun k => by have := dy_inj k; omega)]; exact Int.compare_eq_gt.2 h
theorem order_fin {x y : Nat} (hx : Fin64 x) (hy : Fin64 y) : Ieee.double.order x y = some (ord (fval x) (fval y)) := by
  obtain ⟨m, i, e1, h1, _⟩ := read_fin hx
  obtain ⟨n, j, e2, h2, _⟩ := read_fin hy
  unfold Ieee.Format.order
  rw [e1, e2]
  simp only [Ieee.Datum.order]
  rw [compare_dy _ _ (min i j), signed_dy, signed_dy, fval_read h1, fval_read h2]
  rw [show min i j + ((i - min i j).toNat : Int) = i by omega, show min i j + ((j - min i j).toNat : Int) = j by omega]

/-- A number without its sign. -/
def absD (d : Dyadic) : Dyadic := if d < 0 then -d else d
theorem absD_dy (z e : Int) : absD (dy z e) = dy (z.natAbs : Int) e := by
  unfold absD
  rw [← dy_zero e]
  by_cases h : z < 0
  · rw [if_pos (dy_lt.2 h), dy_neg]; congr 1; omega
  · rw [if_neg (fun k => h (dy_lt.1 k))]; congr 1; omega
theorem absD_nonneg (d : Dyadic) : 0 ≤ absD d := by unfold absD; split <;> grind
theorem absD_neg (d : Dyadic) : absD (-d) = absD d := by
  unfold absD
  by_cases h : d < 0
  · rw [if_pos h, if_neg (by grind)]
  · by_cases k : -d < 0
    · rw [if_pos k, if_neg h]; grind
    · rw [if_neg h, if_neg k]; grind
/-- b is the double nearest to d (which nought comes of what is nearest to 0 is not said). -/
structure Rn (d : Dyadic) (b : Nat) : Prop where
  lt : b < 18446744073709551616
  nr : Nr (absD d) (frung b)
  neg : d < 0 → frung b ≠ 0 → fneg b = true
  pos : 0 < d → frung b ≠ 0 → fneg b = false
theorem Nr.lt63 {x : Dyadic} {r : Nat} (h : Nr x r) : r < 9223372036854775808 := by have := h.cap; omega
theorem word_lt64 (neg : Bool) {r : Nat} (h : r < 9223372036854775808) : Ieee.double.word neg r < 18446744073709551616 := by rw [word_eq]; cases neg <;> simp <;> omega
theorem nearest_rn (neg : Bool) (m : Nat) (p : Int) (d : Dyadic) (hd : d = if neg then -(dy (m : Int) p) else dy (m : Int) p) : Rn d (Ieee.double.nearest neg m p) := by
  obtain ⟨r, e, h⟩ := nearest_spec neg m p
  rw [e]
  have h63 := h.lt63
  have habs : absD d = dy (m : Int) p := by
    have h1 : absD (dy (m : Int) p) = dy (m : Int) p := by rw [absD_dy]; rfl
    rw [hd]; cases neg
    · exact h1
    · simp only [if_true]; rw [absD_neg]; exact h1
  have hnn := absD_nonneg d
  rw [habs] at hnn
  refine ⟨word_lt64 neg h63, by rw [frung_word neg h63, habs]; exact h, fun k _ => ?_, fun k _ => ?_⟩
  · rw [fneg_word neg h63]
    cases neg
    · exfalso; rw [hd] at k; simp only [Bool.false_eq_true, if_false] at k; grind
    · rfl
  · rw [fneg_word neg h63]
    cases neg
    · rfl
    · exfalso; rw [hd] at k; simp only [if_true] at k; grind
/-- The sign that is written. -/
theorem nearest_sign (neg : Bool) (m : Nat) (p : Int) : fneg (Ieee.double.nearest neg m p) = neg := by
  obtain ⟨r, e, h⟩ := nearest_spec neg m p
  rw [e, fneg_word neg h.lt63]
/-- Two that are nearest to one number are the same, but for noughts. -/
theorem Rn.uniq {d : Dyadic} {a b : Nat} (h : Rn d a) (k : Rn d b) : frung a = frung b ∧ (a = b ∨ frung a = 0) := by
  have e := h.nr.uniq k.nr
  refine ⟨e, ?_⟩
  by_cases h0 : frung a = 0
  · exact .inr h0
  · by_cases h1 : d < 0
    · left; rw [← word_of h.lt, ← word_of k.lt, e, h.neg h1 h0, k.neg h1 (by omega)]
    · by_cases h2 : 0 < d
      · left; rw [← word_of h.lt, ← word_of k.lt, e, h.pos h2 h0, k.pos h2 (by omega)]
      · right
        have hz : d = 0 := by grind
        have hr : Nr (absD d) 0 := by
          have : absD d = rval 0 := by rw [hz, rval_zero]; decide +kernel
          rw [this]; exact Nr.rval (by omega)
        exact h.nr.uniq hr
/-- A finite double is nearest to its own value. -/
theorem Rn.self {b : Nat} (h : Fin64 b) (hb : b < 18446744073709551616) : Rn (fval b) b := by
  have h0 := h.out
  have hnn : 0 ≤ rval (frung b) := by
    by_cases e : frung b = 0
    · rw [e, rval_zero]; grind
    · have := rval_pos (show 0 < frung b by omega); grind
  have habs : absD (rval (frung b)) = rval (frung b) := by unfold absD; rw [if_neg (by grind)]
  refine ⟨hb, ?_, fun k _ => ?_, fun k _ => ?_⟩
  · have : absD (fval b) = rval (frung b) := by
      unfold fval; split
      · rw [absD_neg, habs]
      · exact habs
    rw [this]; exact Nr.rval (by omega)
  · cases e : fneg b
    · exfalso; unfold fval at k; rw [e] at k; simp only [Bool.false_eq_true, if_false] at k; grind
    · rfl
  · cases e : fneg b
    · rfl
    · exfalso; unfold fval at k; rw [e] at k; simp only [if_true] at k; grind

/-! Sums and products of finite doubles. -/
theorem add_fin {x y : Nat} (hx : Fin64 x) (hy : Fin64 y) : ∃ b, Ieee.double.add x y = some b ∧ Rn (fval x + fval y) b := by
  obtain ⟨m, i, e1, h1, _⟩ := read_fin hx
  obtain ⟨n, j, e2, h2, _⟩ := read_fin hy
  unfold Ieee.Format.add
  rw [e1, e2]
  simp only [Ieee.Datum.sum, Option.map_some, Ieee.Format.write]
  refine ⟨_, rfl, nearest_rn _ _ _ _ ?_⟩
  obtain ⟨t, ht⟩ : ∃ t, Ieee.signed (fneg x) m (i - min i j).toNat + Ieee.signed (fneg y) n (j - min i j).toNat = t := ⟨_, rfl⟩
  have key : fval x + fval y = dy t (min i j) := by
    rw [← ht, ← dy_add, signed_dy, signed_dy, fval_read h1, fval_read h2]
    rw [show min i j + ((i - min i j).toNat : Int) = i by omega, show min i j + ((j - min i j).toNat : Int) = j by omega]
  rw [ht, key]
  by_cases h0 : t = 0
  · subst h0
    have hz : dy ((Int.natAbs 0 : Nat) : Int) (min i j) = 0 := dy_zero _
    have hm : (-0 : Dyadic) = 0 := by decide +kernel
    rw [hz, dy_zero, hm]
    simp only [ite_self]
  · rw [if_neg h0]
    by_cases hn : t < 0
    · rw [decide_eq_true hn]; simp only [if_true]; rw [dy_neg]; congr 1; omega
    · rw [decide_eq_false hn]; simp only [Bool.false_eq_true, if_false]; congr 1; omega
theorem mul_fin {x y : Nat} (hx : Fin64 x) (hy : Fin64 y) : ∃ b, Ieee.double.mul x y = some b ∧ Rn (fval x * fval y) b ∧ fneg b = (fneg x ^^ fneg y) := by
  obtain ⟨m, i, e1, h1, _⟩ := read_fin hx
  obtain ⟨n, j, e2, h2, _⟩ := read_fin hy
  unfold Ieee.Format.mul
  rw [e1, e2]
  simp only [Ieee.Datum.product, Option.map_some, Ieee.Format.write]
  refine ⟨_, rfl, nearest_rn _ _ _ _ ?_, nearest_sign _ _ _⟩
  have hp : dy ((m * n : Nat) : Int) (i + j) = dy (m : Int) i * dy (n : Int) j := by rw [dy_mul]; push_cast; rfl
  rw [fval_read h1, fval_read h2, hp]
  cases fneg x <;> cases fneg y <;> simp <;> grind

end Go.Proofs.Ytfghcfeldpcgcaa

/- Plain mathematics of floats: doubles in a row by one number each, and what follows for those that are nearest. No program. -/
namespace Go.Proofs.Ytfghcfeldpcgcaa

/-- Where a double stands: its rung, below 0 if it has a sign. -/
def fkey (b : Nat) : Int := if fneg b then -(frung b : Int) else frung b
/-- b is no NaN. -/
structure Num64 (b : Nat) : Prop where
  out : frung b ≤ 9218868437227405312
theorem Fin64.num {b : Nat} (h : Fin64 b) : Num64 b := ⟨by have := h.out; omega⟩
/-- The value at a place. -/
def kval (k : Int) : Dyadic := if k < 0 then -rval k.natAbs else rval k.natAbs
theorem fval_key (b : Nat) : fval b = kval (fkey b) := by
  unfold fval kval fkey
  cases fneg b
  · simp only [Bool.false_eq_true, if_false]; rw [if_neg (by omega)]; rfl
  · simp only [if_true]
    by_cases h : frung b = 0
    · rw [h, if_neg (by omega)]
      simp only [Int.natCast_zero, Int.neg_zero, Int.natAbs_zero, rval_zero]; decide +kernel
    · rw [if_pos (by omega), Int.natAbs_neg, Int.natAbs_natCast]
theorem rval_inj {r s : Nat} (h : rval r = rval s) : r = s := by
  rcases Nat.lt_trichotomy r s with k | k | k
  · have := rval_lt k; grind
  · exact k
  · have := rval_lt k; grind
theorem rval_nonneg (r : Nat) : 0 ≤ rval r := by
  rcases Nat.eq_zero_or_pos r with h | h
  · rw [h, rval_zero]; grind
  · have := rval_pos h; grind
theorem kval_lt {j k : Int} (h : j < k) : kval j < kval k := by
  unfold kval
  by_cases hj : j < 0
  · rw [if_pos hj]
    by_cases hk : k < 0
    · rw [if_pos hk]
      have := rval_lt (show k.natAbs < j.natAbs by omega)
      grind
    · rw [if_neg hk]
      have h1 := rval_pos (show 0 < j.natAbs by omega)
      have h2 := rval_nonneg k.natAbs
      grind
  · rw [if_neg hj, if_neg (by omega)]
    exact rval_lt (by omega)
theorem kval_inj {j k : Int} (h : kval j = kval k) : j = k := by
  rcases Int.lt_trichotomy j k with e | e | e
  · have := kval_lt e; grind
  · exact e
  · have := kval_lt e; grind
theorem ord_kval (j k : Int) : ord (kval j) (kval k) = compare j k := by
  unfold ord
  rcases Int.lt_trichotomy j k with h | h | h
  · rw [if_pos (kval_lt h)]; exact (Int.compare_eq_lt.2 h).symm
  · subst h; rw [if_neg (by grind), if_pos rfl]; exact (Int.compare_eq_eq.2 rfl).symm
  · have := kval_lt h
    rw [if_neg (by grind), if_neg (fun e => by rw [e] at this; grind)]; exact (Int.compare_eq_gt.2 h).symm
/-- Doubles that are no NaNs stand as their places do. -/
theorem order_num {x y : Nat} (hx : Num64 x) (hy : Num64 y) : Ieee.double.order x y = some (compare (fkey x) (fkey y)) := by
  have hx := hx.out
  have hy := hy.out
  rcases Nat.eq_or_lt_of_le hx with ex | ex <;> rcases Nat.eq_or_lt_of_le hy with ey | ey
  · unfold Ieee.Format.order
    rw [read_inf ex, read_inf ey]
    simp only [Ieee.Datum.order]
    congr 1
    unfold fkey
    rw [ex, ey]
    cases fneg x <;> cases fneg y <;> rfl
  · obtain ⟨n, j, e2, _⟩ := read_fin ⟨ey⟩
    unfold Ieee.Format.order
    rw [read_inf ex, e2]
    simp only [Ieee.Datum.order]
    congr 1
    have hk : -9218868437227405312 < fkey y ∧ fkey y < 9218868437227405312 := by unfold fkey; split <;> omega
    have hxk : fkey x = if fneg x then -9218868437227405312 else 9218868437227405312 := by unfold fkey; rw [ex]; rfl
    rw [hxk]
    cases fneg x
    · exact (Int.compare_eq_gt.2 hk.2).symm
    · exact (Int.compare_eq_lt.2 hk.1).symm
  · obtain ⟨n, j, e2, _⟩ := read_fin ⟨ex⟩
    unfold Ieee.Format.order
    rw [read_inf ey, e2]
    simp only [Ieee.Datum.order]
    congr 1
    have hk : -9218868437227405312 < fkey x ∧ fkey x < 9218868437227405312 := by unfold fkey; split <;> omega
    have hyk : fkey y = if fneg y then -9218868437227405312 else 9218868437227405312 := by unfold fkey; rw [ey]; rfl
    rw [hyk]
    cases fneg y
    · exact (Int.compare_eq_lt.2 hk.2).symm
    · exact (Int.compare_eq_gt.2 hk.1).symm
  · rw [order_fin ⟨ex⟩ ⟨ey⟩, fval_key, fval_key, ord_kval]
theorem order_nan {x y : Nat} (h : 9218868437227405312 < frung x ∨ 9218868437227405312 < frung y) : Ieee.double.order x y = none := by
  unfold Ieee.Format.order
  rcases h with h | h
  · rw [read_nan h]; simp only [Ieee.Datum.order]
  · rw [read_nan h]
    cases Ieee.double.read x <;> simp only [Ieee.Datum.order]
theorem Rn.num {d : Dyadic} {b : Nat} (h : Rn d b) : Num64 b := ⟨h.nr.cap⟩
theorem Rn.key_pos {d : Dyadic} {b : Nat} (h : Rn d b) (hd : 0 ≤ d) : fkey b = frung b := by
  unfold fkey
  cases e : fneg b
  · rfl
  · by_cases hq : frung b = 0
    · rw [hq]; rfl
    · have h0 : ¬ 0 < d := fun k => by have := h.pos k hq; rw [e] at this; cases this
      have hz : d = 0 := by grind
      have hr : Nr (absD d) 0 := by
        have : absD d = rval 0 := by rw [hz, rval_zero]; decide +kernel
        rw [this]; exact Nr.rval (by omega)
      exact absurd (h.nr.uniq hr) hq
theorem Rn.opp {d : Dyadic} {a b : Nat} (h : Rn d a) (k : Rn (-d) b) : fkey b = -fkey a := by
  have hn := k.nr
  rw [absD_neg] at hn
  have e := h.nr.uniq hn
  have hk : ∀ b, fkey b = if fneg b then -(frung b : Int) else frung b := fun _ => rfl
  rw [hk, hk, ← e]
  by_cases hq : frung a = 0
  · rw [hq]; split <;> split <;> rfl
  · by_cases h1 : d < 0
    · rw [h.neg h1 hq, k.pos (by grind) (by omega)]; simp
    · by_cases h2 : 0 < d
      · rw [h.pos h2 hq, k.neg (by grind) (by omega)]; simp
      · have hz : d = 0 := by grind
        have hr : Nr (absD d) 0 := by
          have : absD d = rval 0 := by rw [hz, rval_zero]; decide +kernel
          rw [this]; exact Nr.rval (by omega)
        exact absurd (h.nr.uniq hr) hq
theorem Rn.key_neg {d : Dyadic} {b : Nat} (h : Rn d b) (hd : d ≤ 0) : fkey b = -(frung b : Int) := by
  unfold fkey
  cases e : fneg b
  · by_cases hq : frung b = 0
    · rw [hq]; rfl
    · have h0 : ¬ d < 0 := fun k => by have := h.neg k hq; rw [e] at this; cases this
      have hz : d = 0 := by grind
      have hr : Nr (absD d) 0 := by
        have : absD d = rval 0 := by rw [hz, rval_zero]; decide +kernel
        rw [this]; exact Nr.rval (by omega)
      exact absurd (h.nr.uniq hr) hq
  · rfl
/-- Of lesser numbers no greater doubles are nearest. -/
theorem Rn.mono {x y : Dyadic} {a b : Nat} (h : Rn x a) (k : Rn y b) (hxy : x ≤ y) : fkey a ≤ fkey b := by
  by_cases h1 : 0 ≤ x
  · rw [h.key_pos h1, k.key_pos (by grind)]
    have e1 : absD x = x := by unfold absD; rw [if_neg (by grind)]
    have e2 : absD y = y := by unfold absD; rw [if_neg (by grind)]
    have hn := h.nr; have kn := k.nr
    rw [e1] at hn; rw [e2] at kn
    exact_mod_cast hn.mono kn hxy
  · by_cases h2 : 0 ≤ y
    · rw [h.key_neg (by grind), k.key_pos h2]; omega
    · rw [h.key_neg (by grind), k.key_neg (by grind)]
      have e1 : absD x = -x := by unfold absD; rw [if_pos (by grind)]
      have e2 : absD y = -y := by unfold absD; rw [if_pos (by grind)]
      have hn := h.nr; have kn := k.nr
      rw [e1] at hn; rw [e2] at kn
      have := kn.mono hn (by grind)
      omega
theorem mid_mean (r : Nat) : mid r + mid r = rval r + rval (r + 1) := by
  rw [rval_half, rval_half]; unfold mid
  rw [dy_add, dy_add, rV_succ]; congr 1; omega
/-- No finite double is nearer to a number that is not below 0. -/
theorem nr_least {x : Dyadic} {r s : Nat} (h : Nr x r) (hr : r < 9218868437227405312) : absD (rval r - x) ≤ absD (rval s - x) := by
  rcases Nat.lt_trichotomy r s with k | k | k
  · have h1 : x ≤ mid r := by rcases h.up hr with h | ⟨h, _⟩ <;> grind
    have h2 := mid_mean r
    have h3 : rval (r + 1) ≤ rval s := by
      rcases Nat.eq_or_lt_of_le (Nat.succ_le_of_lt k) with e | e
      · rw [← e]; simp only [Nat.succ_eq_add_one]; grind
      · have := rval_lt e; simp only [Nat.succ_eq_add_one] at this; grind
    have h4 := rval_lt k
    unfold absD
    split <;> split <;> grind
  · rw [k]; grind
  · obtain ⟨q, rfl⟩ : ∃ q, r = q + 1 := ⟨r - 1, by omega⟩
    have h1 : mid q ≤ x := by rcases h.down q rfl with h | ⟨h, _⟩ <;> grind
    have h2 := mid_mean q
    have h3 : rval s ≤ rval q := by
      rcases Nat.eq_or_lt_of_le (show s ≤ q by omega) with e | e
      · rw [e]; grind
      · have := rval_lt e; grind
    have h4 := rval_lt k
    unfold absD
    split <;> split <;> grind

end Go.Proofs.Ytfghcfeldpcgcaa

/- Plain mathematics of floats: neighbours, opposites, powers of two. No program. -/
namespace Go.Proofs.Ytfghcfeldpcgcaa

theorem kval_neg (k : Int) : kval (-k) = -kval k := by
  unfold kval
  rw [Int.natAbs_neg]
  rcases Int.lt_trichotomy k 0 with h | h | h
  · rw [if_neg (by omega), if_pos h]; grind
  · subst h; simp only [Int.neg_zero]; rw [if_neg (by omega)]; simp only [Int.natAbs_zero, rval_zero]; decide +kernel
  · rw [if_pos (by omega), if_neg (by omega)]
theorem kval_nat (r : Nat) : kval (r : Int) = rval r := by unfold kval; rw [if_neg (by omega)]; rfl
theorem exists_dy (d : Dyadic) : ∃ z e : Int, d = dy z e := by
  cases d with
  | zero => exact ⟨0, 0, rfl⟩
  | ofOdd n k h => exact ⟨n, -k, by rw [dy_odd h]; simp⟩
theorem exists_rn (d : Dyadic) : ∃ b, Rn d b := by
  obtain ⟨z, e, rfl⟩ := exists_dy d
  refine ⟨_, nearest_rn (decide (z < 0)) z.natAbs e _ ?_⟩
  by_cases h : z < 0
  · rw [decide_eq_true h]; simp only [if_true]; rw [dy_neg]; congr 1; omega
  · rw [decide_eq_false h]; simp only [Bool.false_eq_true, if_false]; congr 1; omega
theorem absD_of {x : Dyadic} (h : 0 ≤ x) : absD x = x := by unfold absD; rw [if_neg (by grind)]
/-- A number below halfway to the next double is nearest to the lower one. -/
theorem key_low {d : Dyadic} {b : Nat} {k : Int} (h : Rn d b) (h1 : kval k ≤ d) (h2 : d + d < kval k + kval (k + 1)) (hk : -9218868437227405312 ≤ k ∧ k < 9218868437227405312) : fkey b = k := by
  rcases Int.lt_or_le k 0 with hn | hn
  · obtain ⟨r, hr⟩ : ∃ r : Nat, k = -((r + 1 : Nat) : Int) := ⟨(-k - 1).toNat, by omega⟩
    rw [hr, kval_neg, kval_nat] at h1
    rw [hr, kval_neg, kval_nat, show -((r + 1 : Nat) : Int) + 1 = -(r : Int) by omega, kval_neg, kval_nat] at h2
    have hm := mid_mean r
    have h0 := rval_nonneg r
    have hd : d ≤ 0 := by grind
    have hnr : Nr (absD d) (r + 1) := by
      rw [← absD_neg, absD_of (by grind)]
      refine ⟨by omega, fun _ => .inl ?_, fun q hq => ?_⟩
      · have := rval_lt_mid (r + 1); grind
      · obtain rfl : q = r := by omega
        left; grind
    rw [h.key_neg hd, h.nr.uniq hnr, hr]
  · obtain ⟨r, rfl⟩ := Int.eq_ofNat_of_zero_le hn
    rw [kval_nat] at h1
    rw [kval_nat, show (r : Int) + 1 = ((r + 1 : Nat) : Int) by omega, kval_nat] at h2
    have hm := mid_mean r
    have h0 := rval_nonneg r
    have hd : 0 ≤ d := by grind
    have hnr : Nr (absD d) r := by
      rw [absD_of hd]
      refine ⟨by omega, fun _ => .inl (by grind), fun q hq => ?_⟩
      subst hq
      have := mid_lt_rval q
      left; grind
    rw [h.key_pos hd, h.nr.uniq hnr]
theorem key_high {d : Dyadic} {b : Nat} {k : Int} (h : Rn d b) (h1 : d ≤ kval (k + 1)) (h2 : kval k + kval (k + 1) < d + d) (hk : -9218868437227405312 ≤ k ∧ k < 9218868437227405312) : fkey b = k + 1 := by
  obtain ⟨c, hc⟩ := exists_rn (-d)
  have e := h.opp hc
  have := key_low (k := -(k + 1)) hc (by rw [kval_neg]; grind) (by rw [kval_neg, show -(k + 1) + 1 = -k by omega, kval_neg]; grind) (by omega)
  omega
/-- Between two neighbours one of both is nearest. -/
theorem key_between {d : Dyadic} {b : Nat} {k : Int} (h : Rn d b) (h1 : kval k ≤ d) (h2 : d ≤ kval (k + 1)) (hk : -9218868437227405312 ≤ k ∧ k < 9218868437227405312) : fkey b = k ∨ fkey b = k + 1 := by
  by_cases e1 : d + d < kval k + kval (k + 1)
  · exact .inl (key_low h h1 e1 hk)
  · by_cases e2 : kval k + kval (k + 1) < d + d
    · exact .inr (key_high h h2 e2 hk)
    · have hm : d + d = kval k + kval (k + 1) := by grind
      rcases Int.lt_or_le k 0 with hn | hn
      · obtain ⟨r, hr⟩ : ∃ r : Nat, k = -((r + 1 : Nat) : Int) := ⟨(-k - 1).toNat, by omega⟩
        rw [hr, kval_neg, kval_nat, show -((r + 1 : Nat) : Int) + 1 = -(r : Int) by omega, kval_neg, kval_nat] at hm
        have hmm := mid_mean r
        have h0 := rval_nonneg r
        have h3 := rval_nonneg (r + 1)
        have hd : d ≤ 0 := by grind
        have hdm : absD d = mid r := by rw [← absD_neg, absD_of (by grind)]; grind
        rw [h.key_neg hd]
        rcases Nat.mod_two_eq_zero_or_one r with hp | hp
        · have hnr : Nr (absD d) r := by
            rw [hdm]
            exact ⟨by omega, fun _ => .inr ⟨rfl, hp⟩, fun q hq => .inl (mid_lt (by omega))⟩
          right; rw [h.nr.uniq hnr]; omega
        · have hnr : Nr (absD d) (r + 1) := by
            rw [hdm]
            refine ⟨by omega, fun _ => .inl (mid_lt (by omega)), fun q hq => ?_⟩
            obtain rfl : q = r := by omega
            exact .inr ⟨rfl, by omega⟩
          left; rw [h.nr.uniq hnr]; omega
      · obtain ⟨r, rfl⟩ := Int.eq_ofNat_of_zero_le hn
        rw [kval_nat, show (r : Int) + 1 = ((r + 1 : Nat) : Int) by omega, kval_nat] at hm
        have hmm := mid_mean r
        have h0 := rval_nonneg r
        have h3 := rval_nonneg (r + 1)
        have hd : 0 ≤ d := by grind
        have hdm : absD d = mid r := by rw [absD_of hd]; grind
        rw [h.key_pos hd]
        rcases Nat.mod_two_eq_zero_or_one r with hp | hp
        · have hnr : Nr (absD d) r := by
            rw [hdm]
            exact ⟨by omega, fun _ => .inr ⟨rfl, hp⟩, fun q hq => .inl (mid_lt (by omega))⟩
          left; rw [h.nr.uniq hnr]
        · have hnr : Nr (absD d) (r + 1) := by
            rw [hdm]
            refine ⟨by omega, fun _ => .inl (mid_lt (by omega)), fun q hq => ?_⟩
            obtain rfl : q = r := by omega
            exact .inr ⟨rfl, by omega⟩
          right; rw [h.nr.uniq hnr]; omega
/-- No finite double is nearer. -/
theorem Rn.least {d : Dyadic} {b g : Nat} (h : Rn d b) (hb : Fin64 b) : absD (fval b + -d) ≤ absD (fval g + -d) := by
  have hr := hb.out
  have key : ∀ (x : Dyadic) (v : Dyadic), 0 ≤ x → 0 ≤ v → absD (v - x) ≤ absD (-v - x) := fun x v hx hv => by
    unfold absD; split <;> split <;> grind
  rw [fval_key, fval_key]
  by_cases hd : 0 ≤ d
  · have hnr := h.nr
    rw [absD_of hd] at hnr
    rw [h.key_pos hd, kval_nat]
    have h1 := nr_least (s := (fkey g).natAbs) hnr hr
    have h2 := key d (rval (fkey g).natAbs) hd (rval_nonneg _)
    have e1 : ∀ a b : Dyadic, a + -b = a - b := fun a b => by grind
    rw [e1, e1]
    unfold kval
    split
    · grind
    · exact h1
  · have hd2 : 0 ≤ -d := by grind
    have hnr := h.nr
    rw [← absD_neg, absD_of hd2] at hnr
    rw [h.key_neg (by grind), kval_neg, kval_nat]
    have h1 := nr_least (s := (fkey g).natAbs) hnr hr
    have h2 := key (-d) (rval (fkey g).natAbs) hd2 (rval_nonneg _)
    have e1 : -rval (frung b) + -d = -(rval (frung b) - -d) := by grind
    have e2 : rval (fkey g).natAbs + -d = -(-rval (fkey g).natAbs - -d) := by grind
    have e3 : -rval (fkey g).natAbs + -d = -(rval (fkey g).natAbs - -d) := by grind
    rw [e1, absD_neg]
    unfold kval
    split
    · rw [e3, absD_neg]; exact h1
    · rw [e2, absD_neg]; grind

/-! Powers of two. -/
theorem rV_shift {r : Nat} (k : Nat) (h : 4503599627370496 ≤ r) : rV (r + k * 4503599627370496) = rV r * 2 ^ k ∧ rU (r + k * 4503599627370496) = rU r * 2 ^ k := by
  obtain ⟨q, s, hs, rfl⟩ := rung_form h
  have e : (q + 1) * 4503599627370496 + s + k * 4503599627370496 = (q + k + 1) * 4503599627370496 + s := by omega
  rw [e, rV_big hs, rU_big hs, rV_big hs, rU_big hs, Nat.pow_add, Nat.mul_assoc]
  exact ⟨rfl, rfl⟩
theorem dy_pow_mul (x e : Int) (k : Nat) : dy (x * 2 ^ k) e = dy x e * dy 1 k := by
  rw [dy_up, dy_mul, Int.mul_one]
theorem rval_shift {r : Nat} (k : Nat) (h : 4503599627370496 ≤ r) : rval (r + k * 4503599627370496) = rval r * dy 1 k := by
  unfold rval
  rw [(rV_shift k h).1, ← dy_pow_mul, Int.natCast_mul, Int.natCast_pow]; rfl
theorem mid_shift {r : Nat} (k : Nat) (h : 4503599627370496 ≤ r) : mid (r + k * 4503599627370496) = mid r * dy 1 k := by
  unfold mid
  obtain ⟨h1, h2⟩ := rV_shift k h
  rw [h1, h2, ← dy_pow_mul, show 2 * (rV r * 2 ^ k) + rU r * 2 ^ k = (2 * rV r + rU r) * 2 ^ k by rw [Nat.add_mul, Nat.mul_assoc], Int.natCast_mul, Int.natCast_pow]; rfl
theorem dy_one_pos (k : Int) : 0 < dy 1 k := by rw [← dy_zero k]; exact dy_lt.2 (by omega)
theorem mul_lt_pow {x y : Dyadic} (k : Int) : x * dy 1 k < y * dy 1 k ↔ x < y := by
  obtain ⟨a, e, rfl⟩ := exists_dy x
  obtain ⟨b, f, rfl⟩ := exists_dy y
  rw [dy_mul, dy_mul, Int.mul_one, Int.mul_one]
  obtain ⟨s, hs⟩ : ∃ s : Nat, e = min e f + (s : Int) := ⟨(e - min e f).toNat, by omega⟩
  obtain ⟨t, ht⟩ : ∃ t : Nat, f = min e f + (t : Int) := ⟨(f - min e f).toNat, by omega⟩
  rw [dy_lt_over (m := min e f) hs ht, dy_lt_over (m := min e f + k) (a := s) (b := t) (by omega) (by omega)]
theorem mul_eq_pow {x y : Dyadic} (k : Int) : x * dy 1 k = y * dy 1 k ↔ x = y := by
  constructor
  · intro h
    have h1 := mul_lt_pow (x := x) (y := y) k
    have h2 := mul_lt_pow (x := y) (y := x) k
    rw [h] at h1 h2
    grind
  · intro h; rw [h]
/-- What is nearest stays so, shifted, among rungs above the least binade. -/
theorem nr_shift {x : Dyadic} {r k : Nat} (h : 4503599627370496 < r) (hk : r + k * 4503599627370496 < 9218868437227405312) : Nr (x * dy 1 k) (r + k * 4503599627370496) ↔ Nr x r := by
  have hp : (r + k * 4503599627370496) % 2 = r % 2 := by omega
  have hm := mid_shift k (Nat.le_of_lt h)
  obtain ⟨q, rfl⟩ : ∃ q, r = q + 1 := ⟨r - 1, by omega⟩
  have hq := mid_shift (r := q) k (by omega)
  constructor
  · intro n
    refine ⟨by omega, fun _ => ?_, fun q' hq' => ?_⟩
    · have := n.up hk
      rw [hm, hp, mul_lt_pow, mul_eq_pow] at this; exact this
    · obtain rfl : q' = q := by omega
      have := n.down (q' + k * 4503599627370496) (by omega)
      rw [hq, hp, mul_lt_pow, mul_eq_pow] at this; exact this
  · intro n
    refine ⟨by omega, fun _ => ?_, fun q' hq' => ?_⟩
    · rw [hm, hp, mul_lt_pow, mul_eq_pow]; exact n.up (by omega)
    · obtain rfl : q' = q + k * 4503599627370496 := by omega
      rw [hq, hp, mul_lt_pow, mul_eq_pow]; exact n.down q rfl

end Go.Proofs.Ytfghcfeldpcgcaa

