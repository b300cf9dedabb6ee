/- Plain mathematics of floats: square roots, told by squares. No program. -/
import Derived.Test.YtfghcfeldpcgcaaMF
import Derived.Test.YtfghcfeldpcgcaaMA
namespace Go.Proofs.Ytfghcfeldpcgcaa
set_option linter.unusedVariables false

/-- A midpoint over its own place. -/
theorem mid_form (r : Nat) : ∃ j : Nat, j < 18014398509481984 ∧ mid r = dy (j : Int) ((r / 4503599627370496 - 1 : Nat) - 1075) := by
  have hU : rU r = 2 ^ (r / 4503599627370496 - 1) := rfl
  obtain ⟨k, hk, hV⟩ : ∃ k : Nat, k < 9007199254740992 ∧ rV r = k * 2 ^ (r / 4503599627370496 - 1) := by
    rcases Nat.lt_or_ge r 4503599627370496 with h | h
    · have h0 : r / 4503599627370496 = 0 := Nat.div_eq_of_lt h
      exact ⟨r, by omega, by rw [rV_small h, h0]; simp⟩
    · obtain ⟨q, s, hs, rfl⟩ := rung_form h
      have h1 : ((q + 1) * 4503599627370496 + s) / 4503599627370496 - 1 = q := by omega
      exact ⟨4503599627370496 + s, by omega, by rw [rV_big hs, h1]⟩
  refine ⟨2 * k + 1, by omega, ?_⟩
  unfold mid
  rw [hU, hV]
  generalize r / 4503599627370496 - 1 = L
  have h2 := dy_up ((2 * k + 1 : Nat) : Int) (-1075) L
  rw [show (-1075 : Int) + (L : Int) = (L : Int) - 1075 by omega] at h2
  rw [← h2]
  congr 1
  rw [← Nat.mul_assoc]
  have : 2 * k * 2 ^ L + 2 ^ L = (2 * k + 1) * 2 ^ L := by rw [Nat.add_mul, Nat.one_mul]
  rw [this, Int.natCast_mul, Int.natCast_pow]
  rfl
/-- A number over a lower place. -/
theorem dy_over (j : Nat) {e f : Int} (h : e ≤ f) : ∃ k : Nat, dy (j : Int) f = dy (k : Int) e := by
  obtain ⟨t, ht⟩ : ∃ t : Nat, f = e + (t : Int) := ⟨(f - e).toNat, by omega⟩
  refine ⟨j * 2 ^ t, ?_⟩
  rw [ht, ← dy_up, Int.natCast_mul, Int.natCast_pow]
  rfl
/-- What is as great as 2^54 units lies above a midpoint with greater units. -/
theorem unit_lt {w j : Nat} {e f : Int} (hw : 18014398509481984 ≤ w) (hj : j < 18014398509481984) (h : dy (w : Int) e ≤ dy (j : Int) f) : e < f := by
  rcases Int.lt_or_le e f with k | k
  · exact k
  · exfalso
    obtain ⟨t, ht⟩ : ∃ t : Nat, e = f + (t : Int) := ⟨(e - f).toNat, by omega⟩
    rw [ht, ← dy_up, dy_le] at h
    have hp := pow2_pos t
    have h1 : (w : Int) * 1 ≤ (w : Int) * 2 ^ t := Int.mul_le_mul_of_nonneg_left (by omega) (by omega)
    omega
/-- d stands to all units of 2^e as the root of v does. -/
structure Stick (v d : Dyadic) (w : Nat) (e : Int) : Prop where
  out : (v = dy ((w * w : Nat) : Int) (2 * e) ∧ d = dy (w : Int) e) ∨ (dy ((w * w : Nat) : Int) (2 * e) < v ∧ v < dy (((w + 1) * (w + 1) : Nat) : Int) (2 * e) ∧ d = dy ((2 * w + 1 : Nat) : Int) (e - 1))
  big : 18014398509481984 ≤ w
  low : e ≤ 900
theorem dy_nat_lt {a b : Nat} {e : Int} : dy (a : Int) e < dy (b : Int) e ↔ a < b := by rw [dy_lt]; omega
theorem dy_nat_eq {a b : Nat} {e : Int} : dy (a : Int) e = dy (b : Int) e ↔ a = b := ⟨fun h => by have := dy_inj h; omega, fun h => by rw [h]⟩
theorem dy_nat_double (k : Nat) (e : Int) : dy (k : Int) e = dy ((2 * k : Nat) : Int) (e - 1) := by
  have := dy_up (k : Int) (e - 1) 1
  rw [show e - 1 + ((1 : Nat) : Int) = e by omega] at this
  rw [← this]; congr 1; omega
theorem sq_lt_iff {a b : Nat} : a * a < b * b ↔ a < b := by
  constructor
  · intro h
    rcases Nat.lt_or_ge a b with k | k
    · exact k
    · have := Nat.mul_le_mul k k; omega
  · intro h; exact Nat.mul_self_lt_mul_self h
theorem sq_eq_iff {a b : Nat} : a * a = b * b ↔ a = b := by
  constructor
  · intro h
    have h1 := sq_lt_iff (a := a) (b := b)
    have h2 := sq_lt_iff (a := b) (b := a)
    omega
  · intro h; rw [h]
theorem Stick.side {v d : Dyadic} {w : Nat} {e : Int} (h : Stick v d w e) (k : Nat) : (d < dy (k : Int) e ↔ v < dy ((k * k : Nat) : Int) (2 * e)) ∧ (d = dy (k : Int) e ↔ v = dy ((k * k : Nat) : Int) (2 * e)) := by
  rcases h.out with ⟨rfl, rfl⟩ | ⟨h1, h2, rfl⟩
  · rw [dy_nat_lt, dy_nat_lt, dy_nat_eq, dy_nat_eq, sq_lt_iff, sq_eq_iff]
    exact ⟨Iff.rfl, Iff.rfl⟩
  · rw [dy_nat_double k, dy_nat_lt, dy_nat_eq]
    refine ⟨⟨fun hk => ?_, fun hk => ?_⟩, ⟨fun hk => by omega, fun hk => ?_⟩⟩
    · rcases Nat.lt_or_ge (w + 1) k with g | g
      · have := (dy_nat_lt (e := 2 * e)).2 (sq_lt_iff.2 g); grind
      · obtain rfl : k = w + 1 := by omega
        exact h2
    · have : dy ((w * w : Nat) : Int) (2 * e) < dy ((k * k : Nat) : Int) (2 * e) := by grind
      have := sq_lt_iff.1 (dy_nat_lt.1 this)
      omega
    · exfalso
      rw [hk] at h1 h2
      have a := sq_lt_iff.1 (dy_nat_lt.1 h1)
      have b := sq_lt_iff.1 (dy_nat_lt.1 h2)
      omega
theorem Stick.ge {v d : Dyadic} {w : Nat} {e : Int} (h : Stick v d w e) : dy (w : Int) e ≤ d := by
  rcases h.out with ⟨_, rfl⟩ | ⟨_, _, rfl⟩
  · grind
  · rw [dy_nat_double w, dy_le]; omega
/-- r is the rung nearest to the root of v. -/
structure NrS (v : Dyadic) (r : Nat) : Prop where
  cap : r ≤ 9218868437227405312
  up : r < 9218868437227405312 → v < mid r * mid r ∨ (v = mid r * mid r ∧ r % 2 = 0)
  down : ∀ q, r = q + 1 → mid q * mid q < v ∨ (mid q * mid q = v ∧ r % 2 = 0)
theorem dy_sq (k : Nat) (e : Int) : dy (k : Int) e * dy (k : Int) e = dy ((k * k : Nat) : Int) (2 * e) := by rw [dy_mul]; congr 1; omega
theorem Stick.near {v d : Dyadic} {w : Nat} {e : Int} {r : Nat} (h : Stick v d w e) (hr : Nr d r) : NrS v r := by
  have hge := h.ge
  have hle := h.low
  refine ⟨hr.cap, fun hc => ?_, fun q hq => ?_⟩
  · obtain ⟨j, hj, hm⟩ := mid_form r
    have h1 : dy (w : Int) e ≤ mid r := by rcases hr.up hc with k | ⟨k, _⟩ <;> grind
    rw [hm] at h1
    obtain ⟨k, hk⟩ := dy_over j (Int.le_of_lt (unit_lt h.big hj h1))
    rw [hk] at hm
    have hs := h.side k
    rw [← dy_sq, ← hm] at hs
    rcases hr.up hc with g | ⟨g, p⟩
    · exact .inl (hs.1.1 g)
    · exact .inr ⟨hs.2.1 g, p⟩
  · obtain ⟨j, hj, hm⟩ := mid_form q
    have h1 : e ≤ (q / 4503599627370496 - 1 : Nat) - 1075 := by
      rcases Nat.lt_or_ge r 9218868437227405312 with hc | hc
      · obtain ⟨i, hi, hn⟩ := mid_form r
        have h2 : dy (w : Int) e ≤ mid r := by rcases hr.up hc with k | ⟨k, _⟩ <;> grind
        rw [hn] at h2
        have := unit_lt h.big hi h2
        omega
      · have := hr.cap
        omega
    obtain ⟨k, hk⟩ := dy_over j h1
    rw [hk] at hm
    have hs := h.side k
    rw [← dy_sq, ← hm] at hs
    rcases hr.down q hq with g | ⟨g, p⟩
    · left
      have a : ¬ d < mid q := by grind
      have b : ¬ d = mid q := by grind
      rw [hs.1] at a
      rw [hs.2] at b
      grind
    · exact .inr ⟨(hs.2.1 g).symm, p⟩
theorem mid_sq_lt {r s : Nat} (h : r < s) : mid r * mid r < mid s * mid s := by
  have h1 := mid_lt h
  unfold mid at h1 ⊢
  rw [dy_nat_lt] at h1
  rw [dy_sq, dy_sq, dy_nat_lt, sq_lt_iff]
  exact h1
theorem NrS.uniq {v : Dyadic} {r s : Nat} (h : NrS v r) (k : NrS v s) : r = s := by
  have key : ∀ {r s : Nat}, NrS v r → NrS v s → r ≤ s := by
    intro r s h k
    rcases Nat.lt_or_ge s r with hs | hs
    · exfalso
      obtain ⟨q, rfl⟩ : ∃ q, r = q + 1 := ⟨r - 1, by omega⟩
      have h1 := h.down q rfl
      have h2 := k.up (by have := h.cap; omega)
      rcases Nat.eq_or_lt_of_le (show s ≤ q by omega) with e | e
      · subst e
        rcases h1 with h1 | ⟨h1, p1⟩ <;> rcases h2 with h2 | ⟨h2, p2⟩
        · grind
        · grind
        · grind
        · omega
      · have h3 := mid_sq_lt e
        rcases h1 with h1 | ⟨h1, _⟩ <;> rcases h2 with h2 | ⟨h2, _⟩ <;> grind
    · exact hs
  have := key h k
  have := key k h
  omega

/-- The greatest whole number whose square is not above n. -/
theorem rootFrom_spec (n : Nat) : ∀ todo root : Nat, root * root ≤ n → n < (root + 2 ^ todo) * (root + 2 ^ todo) → Sq n (Ieee.Datum.rootFrom n todo root)
  | 0, root, h1, h2 => ⟨h1, by simpa [Ieee.Datum.rootFrom] using h2⟩
  | todo + 1, root, h1, h2 => by
    unfold Ieee.Datum.rootFrom
    dsimp only
    rw [Nat.one_shiftLeft]
    have e : root + 2 ^ (todo + 1) = root + 2 ^ todo + 2 ^ todo := by rw [Nat.pow_succ]; omega
    by_cases hle : (root + 2 ^ todo) * (root + 2 ^ todo) ≤ n
    · rw [if_pos hle]
      exact rootFrom_spec n todo _ hle (by rw [← e]; exact h2)
    · rw [if_neg hle]
      exact rootFrom_spec n todo root h1 (by omega)
theorem root_start (n : Nat) : n < (0 + 2 ^ (n.log2 / 2 + 1)) * (0 + 2 ^ (n.log2 / 2 + 1)) := by
  rw [Nat.zero_add, ← Nat.pow_add]
  by_cases h0 : n = 0
  · subst h0; exact Nat.two_pow_pos _
  · have h1 : n < 2 ^ (n.log2 + 1) := (Nat.log2_lt h0).1 (Nat.lt_succ_self _)
    have h2 := Nat.pow_le_pow_right (show 0 < 2 by omega) (show n.log2 + 1 ≤ n.log2 / 2 + 1 + (n.log2 / 2 + 1) by omega)
    omega
theorem sq_big {n w : Nat} (h : Sq n w) (hn : 324518553658426726783156020576256 ≤ n) : 18014398509481984 ≤ w := by
  rcases Nat.lt_or_ge w 18014398509481984 with k | k
  · exfalso
    have h1 := h.2
    have h2 := Nat.mul_le_mul (show w + 1 ≤ 18014398509481984 by omega) (show w + 1 ≤ 18014398509481984 by omega)
    omega
  · exact k
/-- The sticky form of the root of n times 4^E. -/
theorem stick_of {n w : Nat} {E : Int} (h : Sq n w) (hn : 324518553658426726783156020576256 ≤ n) (hE : E ≤ 900) : Stick (dy (n : Int) (2 * E)) (dy ((2 * w + (w * w != n).toNat : Nat) : Int) (E - 1)) w E := by
  refine ⟨?_, sq_big h hn, hE⟩
  by_cases he : w * w = n
  · left
    have : (w * w != n) = false := by simpa using he
    rw [this]
    exact ⟨by rw [he], (dy_nat_double w E).symm⟩
  · right
    have : (w * w != n) = true := by simpa using he
    rw [this]
    have h1 := h.1
    exact ⟨dy_nat_lt.2 (by omega), dy_nat_lt.2 h.2, rfl⟩
theorem rval_lt_top {r : Nat} (h : r < 9218868437227405312) : rval r < dy 1 1024 := by
  have := rval_lt h
  have e : rval 9218868437227405312 = dy 1 1024 := by decide +kernel
  rw [← e]; exact this
/-- What the root of a finite double above 0 is. -/
theorem sqrt_fin {a : Nat} (hF : Fin64 a) (hs : fneg a = false) (h0 : frung a ≠ 0) : ∃ b d w E, Ieee.double.sqrt a = some b ∧ Rn d b ∧ Stick (fval a) d w E := by
  obtain ⟨m, i, e1, h1, hz⟩ := read_fin hF
  have hm0 : m ≠ 0 := fun h => h0 (hz.1 h)
  have hv : fval a = dy (m : Int) i := by unfold fval; rw [hs, h1]; simp
  have hi : i ≤ 1024 := by
    have h2 := rval_lt_top hF.out
    rw [← h1] at h2
    rcases Int.lt_or_le 1024 i with k | k
    · exfalso
      obtain ⟨t, ht⟩ : ∃ t : Nat, i = 1024 + (t : Int) := ⟨(i - 1024).toNat, by omega⟩
      rw [ht, ← dy_up, dy_lt] at h2
      have hp := pow2_pos t
      have : (1 : Int) * 1 ≤ (m : Int) * 2 ^ t := Int.mul_le_mul (by omega) (by omega) (by omega) (by omega)
      omega
    · exact k
  unfold Ieee.Format.sqrt
  rw [e1, hs]
  simp only [Ieee.Datum.root, if_neg hm0, Bool.false_eq_true, if_false, Option.map_some, Ieee.Format.write]
  have hfb : Ieee.double.fractionBits + 2 = 54 := rfl
  rw [hfb]
  obtain ⟨mo, hmo⟩ : ∃ mo : Nat, 2 * 54 - m.log2 + ((i - ((2 * 54 - m.log2 : Nat) : Int)) % 2).toNat = mo := ⟨_, rfl⟩
  rw [hmo]
  obtain ⟨E, hE⟩ : ∃ E : Int, i - (mo : Int) = 2 * E := ⟨(i - (mo : Int)) / 2, by omega⟩
  obtain ⟨n, hn⟩ : ∃ n, m <<< mo = n := ⟨_, rfl⟩
  rw [hn]
  have hE2 : (i - (mo : Int)) / 2 = E := by omega
  rw [hE2]
  have hsq := rootFrom_spec n (n.log2 / 2 + 1) 0 (by omega) (root_start n)
  obtain ⟨w, hw⟩ : ∃ w, Ieee.Datum.rootFrom n (n.log2 / 2 + 1) 0 = w := ⟨_, rfl⟩
  rw [hw] at hsq ⊢
  rw [Nat.shiftLeft_eq] at hn
  have hbig : 324518553658426726783156020576256 ≤ n := by
    have h2 : 2 ^ m.log2 ≤ m := Nat.log2_self_le hm0
    have h3 : 2 ^ m.log2 * 2 ^ mo ≤ m * 2 ^ mo := Nat.mul_le_mul_right _ h2
    rw [← Nat.pow_add] at h3
    have h4 := Nat.pow_le_pow_right (show 0 < 2 by omega) (show 108 ≤ m.log2 + mo by omega)
    have h5 : 2 ^ 108 = 324518553658426726783156020576256 := by decide
    omega
  have hst := stick_of hsq hbig (E := E) (by omega)
  have hval : dy (n : Int) (2 * E) = fval a := by
    rw [hv, ← hn, Int.natCast_mul, Int.natCast_pow]
    have := dy_up (m : Int) (2 * E) mo
    rw [show 2 * E + (mo : Int) = i by omega] at this
    exact this
  rw [hval] at hst
  refine ⟨_, _, w, E, rfl, nearest_rn _ _ _ _ ?_, hst⟩
  simp
/-- Its rung is of a finite double, not that of 0, nor the last. -/
theorem NrS.range {a r : Nat} (hF : Fin64 a) (hs : fneg a = false) (h0 : frung a ≠ 0) (h : NrS (fval a) r) : r < 9218868437227405311 ∧ r ≠ 0 := by
  have hv : fval a = rval (frung a) := by unfold fval; rw [hs]; simp
  have hlt := rval_lt_top hF.out
  have hgt : rval 1 ≤ rval (frung a) := by
    rcases Nat.eq_or_lt_of_le (show 1 ≤ frung a by omega) with e | e
    · rw [← e]; grind
    · have := rval_lt e; grind
  rw [← hv] at hlt hgt
  constructor
  · rcases Nat.lt_or_ge r 9218868437227405311 with k | k
    · exact k
    · exfalso
      obtain ⟨q, rfl⟩ : ∃ q, r = q + 1 := ⟨r - 1, by omega⟩
      have hm : dy 1 1024 < mid 9218868437227405310 * mid 9218868437227405310 := by decide +kernel
      have hq : mid 9218868437227405310 * mid 9218868437227405310 ≤ mid q * mid q := by
        rcases Nat.eq_or_lt_of_le (show 9218868437227405310 ≤ q by omega) with e | e
        · rw [← e]; grind
        · have := mid_sq_lt e; grind
      rcases h.down q rfl with g | ⟨g, _⟩ <;> grind
  · rintro rfl
    have hm : mid 0 * mid 0 < rval 1 := by decide +kernel
    rcases h.up (by omega) with g | ⟨g, _⟩ <;> grind

end Go.Proofs.Ytfghcfeldpcgcaa
