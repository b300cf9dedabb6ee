/- Plain mathematics of a root taken limb by limb. -/
import Derived.Test.YtncopdgonbgaaaaDoorNum
namespace Go.Proofs.YtncopdgonbgaaaaDoor

/-- r is the root of x, downwards. -/
def Sq (x r : Nat) : Prop := r * r ≤ x ∧ x < (r + 1) * (r + 1)
theorem Sq.uniq {x r s : Nat} (h : Sq x r) (k : Sq x s) : r = s := by
  rcases Nat.lt_trichotomy r s with e | e | e
  · have := Nat.mul_le_mul (show r + 1 ≤ s from e) (show r + 1 ≤ s from e)
    have := h.2; have := k.1; omega
  · exact e
  · have := Nat.mul_le_mul (show s + 1 ≤ r from e) (show s + 1 ≤ r from e)
    have := k.2; have := h.1; omega

theorem newton_ge {n r : Nat} (k : Nat) (hr : 0 < r) (hk : k * k ≤ n) : k ≤ (r + n / r) / 2 := by
  have h1 : 2 * k ≤ r + n / r := by
    rcases Nat.lt_or_ge (r + n / r) (2 * k) with h | h
    · exfalso
      have h2 : n / r < 2 * k - r := by omega
      have h3 : n < (2 * k - r) * r := (Nat.div_lt_iff_lt_mul hr).1 h2
      have h4 : (2 * k - r) * r ≤ k * k := by
        rcases Nat.le_total r k with e | e
        · obtain ⟨d, rfl⟩ := Nat.exists_eq_add_of_le e
          have : 2 * (r + d) - r = r + 2 * d := by omega
          rw [this]
          have : (r + 2 * d) * r = r * r + 2 * (d * r) := by rw [Nat.add_mul, Nat.mul_assoc]
          have : (r + d) * (r + d) = r * r + 2 * (d * r) + d * d := by
            rw [Nat.add_mul, Nat.mul_add, Nat.mul_add, Nat.mul_comm r d]; omega
          omega
        · obtain ⟨d, rfl⟩ := Nat.exists_eq_add_of_le e
          rcases Nat.le_total d k with e2 | e2
          · obtain ⟨f, rfl⟩ := Nat.exists_eq_add_of_le e2
            have : 2 * (d + f) - (d + f + d) = f := by omega
            rw [this]
            have e3 : f * (d + f + d) = f * f + 2 * (f * d) := by rw [Nat.mul_add, Nat.mul_add]; omega
            have e4 : (d + f) * (d + f) = d * d + 2 * (f * d) + f * f := by
              rw [Nat.add_mul, Nat.mul_add, Nat.mul_add, Nat.mul_comm d f]; omega
            omega
          · have : 2 * k - (k + d) = 0 := by omega
            rw [this]; simp
      omega
    · exact h
  omega
theorem newton_stop {n r : Nat} (hr : 0 < r) (h : r ≤ (r + n / r) / 2) : r * r ≤ n := by
  have h1 : r ≤ n / r := by omega
  exact (Nat.le_div_iff_mul_le hr).1 h1

/-- The limb q fits behind the root r. -/
def Fit (r all q : Nat) : Prop := (2 * r * 16777216 + q) * q ≤ all
theorem fit_zero (r all : Nat) : Fit r all 0 := by unfold Fit; simp
theorem fit_mono {r all q q' : Nat} (h : Fit r all q) (hq : q' ≤ q) : Fit r all q' := by
  unfold Fit at *
  exact Nat.le_trans (Nat.mul_le_mul (by omega) hq) h
theorem fit_step_any {B B2 r s x h l q : Nat} (hB : B2 = B * B) (hx : x = r * r + s) (hf : (2 * r * B + q) * q ≤ s * B2 + h * B + l) (hn : ¬ (2 * r * B + (q + 1)) * (q + 1) ≤ s * B2 + h * B + l) :
    (r * B + q) * (r * B + q) ≤ x * B2 + h * B + l ∧ x * B2 + h * B + l < (r * B + q + 1) * (r * B + q + 1) ∧
    x * B2 + h * B + l = (r * B + q) * (r * B + q) + (s * B2 + h * B + l - (2 * r * B + q) * q) := by
  have e1 : (r * B + q) * (r * B + q) = r * r * B2 + (2 * r * B + q) * q := by
    rw [Nat.add_mul, Nat.mul_add, Nat.mul_add, Nat.add_mul, hB]
    have a1 : r * B * (r * B) = r * r * (B * B) := Nat.mul_mul_mul_comm r B r B
    have a2 : q * (r * B) = r * B * q := Nat.mul_comm _ _
    have a3 : 2 * r * B * q = 2 * (r * B * q) := by rw [Nat.mul_assoc 2 r, Nat.mul_assoc 2]
    omega
  have e2 : (r * B + q + 1) * (r * B + q + 1) = r * r * B2 + (2 * r * B + (q + 1)) * (q + 1) := by
    have b1 : (r * B + q + 1) * (r * B + q + 1) = (r * B + q) * (r * B + q) + 2 * (r * B + q) + 1 := by
      rw [Nat.add_mul, Nat.mul_add]; omega
    have b2 : (2 * r * B + (q + 1)) * (q + 1) = (2 * r * B + q) * q + 2 * r * B + 2 * q + 1 := by
      have : 2 * r * B + (q + 1) = (2 * r * B + q) + 1 := by omega
      rw [this, Nat.add_mul, Nat.mul_add]; omega
    have b3 : 2 * r * B = 2 * (r * B) := Nat.mul_assoc _ _ _
    rw [b1, b2, e1]; omega
  have e3 : x * B2 = r * r * B2 + s * B2 := by rw [hx, Nat.add_mul]
  omega
theorem fit_step {r s x h l q : Nat} (hx : x = r * r + s) (hf : Fit r (s * 281474976710656 + h * 16777216 + l) q) (hn : ¬ Fit r (s * 281474976710656 + h * 16777216 + l) (q + 1)) :
    Sq (x * 281474976710656 + h * 16777216 + l) (r * 16777216 + q) ∧
    x * 281474976710656 + h * 16777216 + l = (r * 16777216 + q) * (r * 16777216 + q) + (s * 281474976710656 + h * 16777216 + l - (2 * r * 16777216 + q) * q) :=
  have k := fit_step_any (B := 16777216) (B2 := 281474976710656) (by decide) hx hf hn
  ⟨⟨k.1, k.2.1⟩, k.2.2⟩
theorem sq_rest {x r s : Nat} (h : Sq x r) (e : x = r * r + s) : s ≤ 2 * r := by
  have := h.2
  have : (r + 1) * (r + 1) = r * r + 2 * r + 1 := by rw [Nat.add_mul, Nat.mul_add]; omega
  omega
theorem sq_of_rest {x r s : Nat} (e : x = r * r + s) (h : s ≤ 2 * r) : Sq x r := by
  have : (r + 1) * (r + 1) = r * r + 2 * r + 1 := by rw [Nat.add_mul, Nat.mul_add]; omega
  exact ⟨by omega, by omega⟩

/-- No limb that fits is above the guess. -/
theorem guess_ge {r s h l q d : Nat} (hs : s ≤ 2 * r) (hh : h < 16777216) (hl : l < 16777216) (hr : 0 < 2 * r / 2 ^ d) (hf : Fit r (s * 281474976710656 + h * 16777216 + l) q) :
    q ≤ (s * 16777216 + h) / 2 ^ d / (2 * r / 2 ^ d) ∧ q ≤ 16777215 := by
  unfold Fit at hf
  have hp := Nat.two_pow_pos d
  have h1 : q * (2 * r) ≤ s * 16777216 + h := by
    rcases Nat.lt_or_ge (s * 16777216 + h) (q * (2 * r)) with e | e
    · exfalso
      have e1 : (s * 16777216 + h + 1) * 16777216 ≤ q * (2 * r) * 16777216 := Nat.mul_le_mul_right _ e
      have e2 : q * (2 * r) * 16777216 ≤ (2 * r * 16777216 + q) * q := by
        rw [Nat.add_mul, Nat.mul_comm (2 * r * 16777216) q, Nat.mul_assoc q]; omega
      omega
    · exact e
  constructor
  · rw [Nat.le_div_iff_mul_le hr, Nat.le_div_iff_mul_le hp, Nat.mul_assoc]
    have : 2 * r / 2 ^ d * 2 ^ d ≤ 2 * r := Nat.div_mul_le_self _ _
    exact Nat.le_trans (Nat.mul_le_mul_left q this) h1
  · rcases Nat.lt_or_ge 16777215 q with e | e
    · exfalso
      have e1 : (2 * r * 16777216 + 16777216) * 16777216 ≤ (2 * r * 16777216 + q) * q := Nat.mul_le_mul (by omega) e
      omega
    · exact e
theorem guess_small {r s h d : Nat} (hs : s ≤ 2 * r) (hh : h < 16777216) (hd : d = bl (2 * r) - 36) :
    (s * 16777216 + h) / 2 ^ d < 4611686018427387904 ∧ 2 * r / 2 ^ d < 4611686018427387904 := by
  have hp := Nat.two_pow_pos d
  have hb := bl_lt (2 * r)
  have hpow : 2 ^ bl (2 * r) ≤ 2 ^ d * 68719476736 := by
    have : (68719476736 : Nat) = 2 ^ 36 := by decide
    rw [this, ← Nat.pow_add]
    exact Nat.pow_le_pow_right (by omega) (by omega)
  rw [Nat.div_lt_iff_lt_mul hp, Nat.div_lt_iff_lt_mul hp]
  generalize 2 ^ d = P at *
  generalize 2 ^ bl (2 * r) = Q at *
  constructor <;> omega
theorem guess_pos {r d : Nat} (hr : 0 < r) (hd : d = bl (2 * r) - 36) : 0 < 2 * r / 2 ^ d := by
  apply Nat.div_pos _ (Nat.two_pow_pos d)
  have h1 := bl_le (m := 2 * r) (by omega)
  have h2 : 0 < bl (2 * r) := by
    rcases Nat.eq_zero_or_pos (bl (2 * r)) with e | e
    · have := bl_lt (2 * r); rw [e] at this; simp at this; omega
    · exact e
  exact Nat.le_trans (Nat.pow_le_pow_right (by omega) (by omega)) h1

theorem sq_down {m u R : Nat} (h : Sq (m * 2 ^ (2 * u)) R) : Sq m (R / 2 ^ u) := by
  have hp := Nat.two_pow_pos u
  have e : 2 ^ (2 * u) = 2 ^ u * 2 ^ u := by rw [← Nat.pow_add]; congr 1; omega
  rw [e] at h
  generalize hP : 2 ^ u = P at *
  have h1 : R / P * P ≤ R := Nat.div_mul_le_self _ _
  have h2 : R < (R / P + 1) * P := by
    have := Nat.lt_div_mul_add hp (a := R)
    rw [Nat.add_mul]; omega
  refine ⟨?_, ?_⟩
  · have a1 : (R / P * P) * (R / P * P) ≤ R * R := Nat.mul_le_mul h1 h1
    have a2 : (R / P) * (R / P) * (P * P) ≤ m * (P * P) := by
      rw [Nat.mul_mul_mul_comm] at a1
      exact Nat.le_trans a1 h.1
    exact Nat.le_of_mul_le_mul_right a2 (Nat.mul_pos hp hp)
  · have a1 : (R + 1) * (R + 1) ≤ ((R / P + 1) * P) * ((R / P + 1) * P) := Nat.mul_le_mul h2 h2
    rw [Nat.mul_mul_mul_comm] at a1
    have a2 : m * (P * P) < (R / P + 1) * (R / P + 1) * (P * P) := Nat.lt_of_lt_of_le h.2 a1
    exact Nat.lt_of_mul_lt_mul_right a2
theorem Lt.root {k r x : Nat} (h : Lt (k + k) x) (hr : r * r ≤ x) : Lt k r := by
  obtain ⟨h⟩ := h
  refine ⟨?_⟩
  rcases Int.lt_or_le (r : Int) (bp k) with e | e
  · exact e
  · exfalso
    have hp := bp_pos k
    have : bp k * bp k ≤ (r : Int) * (r : Int) := Int.mul_le_mul e e (by omega) (by omega)
    rw [bp_add] at h
    have : ((r * r : Nat) : Int) ≤ (x : Int) := by exact_mod_cast hr
    push_cast at this
    omega

theorem Lt.behind {k m x : Nat} (h : Lt k m) (hx : x < 16777216) : Lt (k + 1) (m * 16777216 + x) := by
  obtain ⟨h⟩ := h
  refine ⟨?_⟩
  rw [bp_succ]; omega
theorem Lt.limb {x k : Nat} (hx : x < 16777216) : Lt (k + 1) x := by
  refine ⟨?_⟩
  rw [bp_succ]; have := bp_pos k; omega

end Go.Proofs.YtncopdgonbgaaaaDoor
