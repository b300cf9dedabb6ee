/- Angles: plain mathematics. No program is named here. -/
import Derived.Test.YtncopdgonbgaaaaDoorBase
namespace Go.Proofs.YtncopdgonbgaaaaDoor
open Go.RowKit
set_option linter.unusedVariables false

/-- The angle of v parts of 2^40, 0 to 2^40, is k parts of 2^q in its form. -/
structure Fm (v k : Int) (q : Nat) : Prop where
  out : (v = 0 ∧ k = 0 ∧ q = 0) ∨ (k % 2 = 1 ∧ 0 < k ∧ k < 2 ^ q ∧ q ≤ 40 ∧ v = k * 2 ^ (40 - q))
theorem p2_pos (n : Nat) : (0 : Int) < 2 ^ n := Int.pow_pos (by omega)
theorem p2_add (m n : Nat) : (2 : Int) ^ (m + n) = 2 ^ m * 2 ^ n := Int.pow_add ..
theorem p2_40 : (2 : Int) ^ 40 = 1099511627776 := by decide
theorem p2_le {m n : Nat} (h : m ≤ n) : (2 : Int) ^ m ≤ 2 ^ n := by
  have := Nat.pow_le_pow_right (show 0 < 2 by omega) h
  have e1 : ((2 ^ m : Nat) : Int) = 2 ^ m := by rw [Int.natCast_pow]; rfl
  have e2 : ((2 ^ n : Nat) : Int) = 2 ^ n := by rw [Int.natCast_pow]; rfl
  omega
theorem p2_split {q : Nat} (h : q ≤ 40) : (2 : Int) ^ q * 2 ^ (40 - q) = 1099511627776 := by
  rw [← p2_add, show q + (40 - q) = 40 by omega]; exact p2_40
theorem Fm.low {v k : Int} {q : Nat} (h : Fm v k q) : 0 ≤ k ∧ k < 2 ^ q ∧ q ≤ 40 ∧ v = k * 2 ^ (40 - q) := by
  rcases h.out with ⟨rfl, rfl, rfl⟩ | ⟨_, h2, h3, h4, h5⟩
  · exact ⟨by omega, by decide, by omega, by omega⟩
  · exact ⟨by omega, h3, h4, h5⟩
theorem Fm.range {v k : Int} {q : Nat} (h : Fm v k q) : 0 ≤ v ∧ v < 1099511627776 := by
  obtain ⟨h1, h2, h3, h4⟩ := h.low
  have hp := p2_pos (40 - q)
  have hs := p2_split h3
  rw [h4]
  refine ⟨Int.mul_nonneg h1 (Int.le_of_lt hp), ?_⟩
  have := Int.mul_lt_mul_of_pos_right h2 hp
  omega
theorem odd_pow {k k' : Int} {q q' : Nat} (hk' : k' % 2 = 1) (hq : q ≤ q') (hq' : q' ≤ 40) (h : k * 2 ^ (40 - q) = k' * 2 ^ (40 - q')) : k = k' ∧ q = q' := by
  obtain ⟨j, rfl⟩ : ∃ j, q' = q + j := ⟨q' - q, by omega⟩
  rw [show 40 - q = j + (40 - (q + j)) by omega, p2_add, ← Int.mul_assoc] at h
  have h2 := Int.eq_of_mul_eq_mul_right (Int.ne_of_gt (p2_pos _)) h
  cases j with
  | zero => exact ⟨by simpa using h2, rfl⟩
  | succ j =>
    rw [Int.pow_succ, ← Int.mul_assoc] at h2
    omega
theorem Fm.uniq {v k k' : Int} {q q' : Nat} (h : Fm v k q) (g : Fm v k' q') : k = k' ∧ q = q' := by
  rcases h.out with ⟨h1, rfl, rfl⟩ | ⟨h1, h2, h3, h4, h5⟩
  · rcases g.out with ⟨_, rfl, rfl⟩ | ⟨g1, g2, g3, g4, g5⟩
    · exact ⟨rfl, rfl⟩
    · exfalso
      have := Int.mul_pos g2 (p2_pos (40 - q'))
      omega
  · rcases g.out with ⟨g1, rfl, rfl⟩ | ⟨g1, g2, g3, g4, g5⟩
    · exfalso
      have := Int.mul_pos h2 (p2_pos (40 - q))
      omega
    · rcases Nat.le_total q q' with l | l
      · exact odd_pow g1 l g4 (by rw [← h5, ← g5])
      · obtain ⟨a, b⟩ := odd_pow h1 l h4 (by rw [← h5, ← g5]); exact ⟨a.symm, b.symm⟩
theorem Fm.val {v v' k : Int} {q : Nat} (h : Fm v k q) (g : Fm v' k q) : v = v' := by rw [h.low.2.2.2, g.low.2.2.2]
/-- How many parts of 2^40 the angle has. -/
def tv (K : Int) (Q : Nat) : Int := K * 2 ^ (40 - Q) % 1099511627776
theorem tv_mod {K : Int} {Q : Nat} (h : Q ≤ 40) : tv K Q = K % 2 ^ Q * 2 ^ (40 - Q) := by
  unfold tv
  rw [← p2_split h, Int.mul_comm K, Int.mul_comm (2 ^ Q), Int.mul_emod_mul_of_pos _ _ (p2_pos _), Int.mul_comm]
theorem tv_range (K : Int) (Q : Nat) : 0 ≤ tv K Q ∧ tv K Q < 1099511627776 := by unfold tv; omega
theorem Fm.tv {v k : Int} {q : Nat} (h : Fm v k q) : tv k q = v := by
  obtain ⟨h1, h2, h3, h4⟩ := h.low
  rw [tv_mod h3, Int.emod_eq_of_lt h1 h2, h4]
/-- The way there: halves as long as it goes. -/
theorem fm_half {K : Int} {q : Nat} (h0 : 0 < K) (h1 : K < 2 ^ (q + 1)) (he : K % 2 = 0) : 0 < K / 2 ∧ K / 2 < 2 ^ q := by
  rw [Int.pow_succ] at h1; omega
theorem fm_step {K : Int} {q : Nat} (hq : q + 1 ≤ 40) (he : K % 2 = 0) : K * 2 ^ (40 - (q + 1)) = K / 2 * 2 ^ (40 - q) := by
  rw [show 40 - q = 1 + (40 - (q + 1)) by omega, p2_add, ← Int.mul_assoc]
  congr 1; omega
theorem fm_end {K : Int} {q : Nat} (h0 : 0 < K) (h1 : K < 2 ^ q) (hq : q ≤ 40) (ho : K % 2 ≠ 0) : Fm (K * 2 ^ (40 - q)) K q := ⟨.inr ⟨by omega, h0, h1, hq, rfl⟩⟩
theorem fm_zero : Fm 0 0 0 := ⟨.inl ⟨rfl, rfl, rfl⟩⟩
theorem fm_some {q : Nat} : ∀ {K : Int}, 0 ≤ K → K < 2 ^ q → q ≤ 40 → ∃ k j, Fm (K * 2 ^ (40 - q)) k j := by
  induction q with
  | zero =>
    intro K h0 h1 _
    obtain rfl : K = 0 := by have : (2 : Int) ^ 0 = 1 := rfl; omega
    exact ⟨0, 0, by rw [Int.zero_mul]; exact fm_zero⟩
  | succ q ih =>
    intro K h0 h1 hq
    by_cases hz : K = 0
    · subst hz; exact ⟨0, 0, by rw [Int.zero_mul]; exact fm_zero⟩
    · by_cases he : K % 2 = 0
      · obtain ⟨a, b⟩ := fm_half (by omega) h1 he
        rw [fm_step hq he]; exact ih (by omega) b (by omega)
      · exact ⟨K, q + 1, fm_end (by omega) h1 hq he⟩
theorem fm_there {v : Int} (h0 : 0 ≤ v) (h1 : v < 1099511627776) : ∃ k q, Fm v k q := by
  have := fm_some (q := 40) h0 (by rw [p2_40]; exact h1) (Nat.le_refl _)
  simpa using this
/-- Multiples of a part. -/
theorem fm_parts {v k : Int} {q Q : Nat} (h : Fm v k q) (hq : q ≤ Q) (hQ : Q ≤ 40) : k * 2 ^ (Q - q) * 2 ^ (40 - Q) = v := by
  rw [Int.mul_assoc, ← p2_add, show Q - q + (40 - Q) = 40 - q by omega]; exact h.low.2.2.2.symm
theorem parts_range {v k : Int} {q Q : Nat} (h : Fm v k q) (hq : q ≤ Q) (hQ : Q ≤ 40) : 0 ≤ k * 2 ^ (Q - q) ∧ k * 2 ^ (Q - q) < 2 ^ Q := by
  obtain ⟨h1, h2, h3, h4⟩ := h.low
  have hp := p2_pos (Q - q)
  refine ⟨Int.mul_nonneg h1 (Int.le_of_lt hp), ?_⟩
  have := Int.mul_lt_mul_of_pos_right h2 hp
  rw [← p2_add, show q + (Q - q) = Q by omega] at this
  exact this
theorem fm_le {K k : Int} {Q q : Nat} (hQ : Q ≤ 40) (h : Fm (tv K Q) k q) : q ≤ Q := by
  rcases h.out with ⟨_, _, rfl⟩ | ⟨h1, h2, h3, h4, h5⟩
  · omega
  · rw [tv_mod hQ] at h5
    rcases Nat.le_total q Q with l | l
    · exact l
    · obtain ⟨a, b⟩ := odd_pow h1 l h4 h5; omega
theorem mod_twice (a b U : Int) : (a % U + b) % U = (a + b) % U := by rw [Int.emod_add_emod]
theorem tv_add {a b : Int} {q : Nat} {va vb : Int} (ha : a * 2 ^ (40 - q) = va) (hb : b * 2 ^ (40 - q) = vb) : tv (a + b) q = (va + vb) % 1099511627776 := by
  unfold tv; rw [Int.add_mul, ha, hb]
theorem tv_neg (K : Int) (Q : Nat) : tv (-K) Q = (-tv K Q) % 1099511627776 := by
  unfold tv
  rw [Int.neg_mul]
  generalize K * 2 ^ (40 - Q) = X
  omega
/-- A wrapped number of parts is the same angle. -/
theorem tv_wrap (K : Int) (Q : Nat) : tv (wrap64 K) Q = tv K Q := by
  have hw : ∃ j, wrap64 K = K + j * 18446744073709551616 := by
    refine ⟨(wrap64 K - K) / 18446744073709551616, ?_⟩
    unfold wrap64; omega
  obtain ⟨j, hj⟩ := hw
  unfold tv
  rw [hj, Int.add_mul, show j * 18446744073709551616 * 2 ^ (40 - Q) = 1099511627776 * (j * 16777216 * 2 ^ (40 - Q)) by
    rw [show (18446744073709551616 : Int) = 1099511627776 * 16777216 by decide]
    generalize (2 : Int) ^ (40 - Q) = P
    grind]
  exact Int.add_mul_emod_self_left ..
theorem tv_times {K n v : Int} {q : Nat} (hq : q ≤ 40) (h : K * 2 ^ (40 - q) = v) : tv (K * (n % 2 ^ q)) q = n * v % 1099511627776 := by
  unfold tv
  have hs := p2_split hq
  have e : n * v = K * (n % 2 ^ q) * 2 ^ (40 - q) + 1099511627776 * (K * (n / 2 ^ q)) := by
    rw [← h, ← hs]
    have := Int.mul_ediv_add_emod n (2 ^ q)
    generalize n / 2 ^ q = d at *
    generalize n % 2 ^ q = r at *
    generalize (2 : Int) ^ q = A at *
    generalize (2 : Int) ^ (40 - q) = B at *
    grind
  rw [e, Int.add_mul_emod_self_left]
end Go.Proofs.YtncopdgonbgaaaaDoor
