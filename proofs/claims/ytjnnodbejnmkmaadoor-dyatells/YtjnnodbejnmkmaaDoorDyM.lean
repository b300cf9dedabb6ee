/- Plain mathematics of dyadic numbers. -/
import Derived.Test.YtjnnodbejnmkmaaDoorNum
import Init.Data.Dyadic
namespace Go.Proofs.YtjnnodbejnmkmaaDoor

/-- z times two to the e. -/
def dy (z e : Int) : Dyadic := .ofIntWithPrec z (-e)
theorem dy_rat (z e : Int) : (dy z e).toRat = z * 2 ^ e := by
  unfold dy; rw [Dyadic.toRat_ofIntWithPrec_eq_mul_two_pow, Int.neg_neg]
theorem dy_zero (e : Int) : dy 0 e = 0 := rfl
theorem two_ne : (2 : Rat) ≠ 0 := by decide
theorem dy_up (z e : Int) (k : Nat) : dy (z * 2 ^ k) e = dy z (e + k) := by
  rw [← Dyadic.toRat_inj, dy_rat, dy_rat, Rat.zpow_add two_ne, Rat.zpow_natCast, Rat.intCast_mul, Rat.intCast_pow]
  grind
theorem dy_add (x y e : Int) : dy x e + dy y e = dy (x + y) e := by
  rw [← Dyadic.toRat_inj, Dyadic.toRat_add, dy_rat, dy_rat, dy_rat, Rat.intCast_add]
  grind
theorem dy_mul (x y e f : Int) : dy x e * dy y f = dy (x * y) (e + f) := by
  rw [← Dyadic.toRat_inj, Dyadic.toRat_mul, dy_rat, dy_rat, dy_rat, Rat.intCast_mul, Rat.zpow_add two_ne]
  grind
theorem dy_neg (x e : Int) : - dy x e = dy (-x) e := by
  unfold dy; exact Dyadic.neg_ofIntWithPrec
theorem dy_pos (e : Int) : (0 : Rat) < 2 ^ e := Rat.zpow_pos (by decide)
theorem dy_lt {x y e : Int} : dy x e < dy y e ↔ x < y := by
  rw [← Dyadic.toRat_lt_toRat_iff, dy_rat, dy_rat]
  have h := dy_pos e
  rw [← Rat.intCast_lt_intCast]
  constructor
  · intro k; exact Rat.lt_of_mul_lt_mul_right k (Rat.le_of_lt h)
  · intro k; exact Rat.mul_lt_mul_of_pos_right k h
theorem dy_inj {x y e : Int} (h : dy x e = dy y e) : x = y := by
  have h1 := mt (dy_lt (x := x) (y := y) (e := e)).2
  have h2 := mt (dy_lt (x := y) (y := x) (e := e)).2
  rw [h] at h1 h2
  have : ¬ dy y e < dy y e := by grind
  have := h1 this; have := h2 ‹_›; omega
theorem dy_odd {z e : Int} (h : z % 2 = 1) : dy z e = .ofOdd z (-e) h := by
  rw [Dyadic.ofOdd_eq_ofIntWithPrec]; rfl
/-- The form that each number has but once. -/
structure Canon (z e : Int) : Prop where
  out : (z = 0 ∧ e = 0) ∨ z % 2 = 1
theorem Canon.uniq {z e z' e' : Int} (h : Canon z e) (h' : Canon z' e') (hd : dy z e = dy z' e') : z = z' ∧ e = e' := by
  rcases h.out with ⟨rfl, rfl⟩ | o <;> rcases h'.out with ⟨rfl, rfl⟩ | o'
  · exact ⟨rfl, rfl⟩
  · rw [dy_odd o', dy_zero] at hd; cases hd
  · rw [dy_odd o, dy_zero] at hd; cases hd
  · rw [dy_odd o, dy_odd o'] at hd
    injection hd with h1 h2
    exact ⟨h1, by omega⟩

/-- d is a whole multiple of two to the -P, and below two to the Q, and above its opposite. -/
structure Rg (P Q : Nat) (d : Dyadic) : Prop where
  out : ∃ X : Int, d = dy X (-P) ∧ -2 ^ (P + Q) < X ∧ X < 2 ^ (P + Q)
theorem pow2_pos (k : Nat) : (0 : Int) < 2 ^ k := Int.pow_pos (by omega)
theorem pow2_mono {j k : Nat} (h : j ≤ k) : (2 : Int) ^ j ≤ 2 ^ k := by
  obtain ⟨d, rfl⟩ := Nat.exists_eq_add_of_le h
  rw [Int.pow_add]
  have := pow2_pos j; have := pow2_pos d
  have := Int.mul_le_mul_of_nonneg_left (show (1 : Int) ≤ 2 ^ d by omega) (show (0 : Int) ≤ 2 ^ j by omega)
  omega
theorem mul_bound {x a b : Int} (hb : 0 < b) (h1 : -a < x) (h2 : x < a) : -(a * b) < x * b ∧ x * b < a * b := by
  constructor
  · rw [← Int.neg_mul]; exact Int.mul_lt_mul_of_pos_right h1 hb
  · exact Int.mul_lt_mul_of_pos_right h2 hb
theorem dy_down (x e : Int) (P : Nat) (h : 0 ≤ e + P) : dy x e = dy (x * 2 ^ (e + P).toNat) (-P) := by
  rw [dy_up]; congr 1; omega
theorem Rg.mono {P Q P' Q' : Nat} {d : Dyadic} (h : Rg P Q d) (hP : P ≤ P') (hQ : Q ≤ Q') : Rg P' Q' d := by
  obtain ⟨X, rfl, h1, h2⟩ := h.out
  refine ⟨X * 2 ^ (P' - P), ?_, ?_⟩
  · rw [dy_up]; congr 1; omega
  · have := mul_bound (pow2_pos (P' - P)) h1 h2
    rw [← Int.pow_add] at this
    have := pow2_mono (show P + Q + (P' - P) ≤ P' + Q' by omega)
    omega
theorem Rg.neg {P Q : Nat} {d : Dyadic} (h : Rg P Q d) : Rg P Q (-d) := by
  obtain ⟨X, rfl, h1, h2⟩ := h.out
  exact ⟨-X, dy_neg _ _, by omega, by omega⟩
theorem Rg.add {P Q : Nat} {x y : Dyadic} (h : Rg P Q x) (k : Rg P Q y) : Rg P (Q + 1) (x + y) := by
  obtain ⟨X, rfl, h1, h2⟩ := h.out
  obtain ⟨Y, rfl, k1, k2⟩ := k.out
  refine ⟨X + Y, dy_add _ _ _, ?_⟩
  rw [← Nat.add_assoc, Int.pow_succ]; omega
theorem Rg.sub {P Q : Nat} {x y : Dyadic} (h : Rg P Q x) (k : Rg P Q y) : Rg P (Q + 1) (x - y) := by
  have e : x - y = x + -y := by grind
  rw [e]; exact h.add k.neg
theorem Rg.mul {P Q P' Q' : Nat} {x y : Dyadic} (h : Rg P Q x) (k : Rg P' Q' y) : Rg (P + P') (Q + Q') (x * y) := by
  obtain ⟨X, rfl, h1, h2⟩ := h.out
  obtain ⟨Y, rfl, k1, k2⟩ := k.out
  refine ⟨X * Y, by rw [dy_mul]; congr 1; omega, ?_⟩
  have e : (2 : Int) ^ (P + P' + (Q + Q')) = 2 ^ (P + Q) * 2 ^ (P' + Q') := by rw [← Int.pow_add]; congr 1; omega
  rw [e]
  generalize (2 : Int) ^ (P + Q) = A at *
  generalize (2 : Int) ^ (P' + Q') = B at *
  have hx : X.natAbs < A.natAbs := by omega
  have hy : Y.natAbs < B.natAbs := by omega
  have hm : X.natAbs * Y.natAbs < A.natAbs * B.natAbs := Nat.mul_lt_mul'' hx hy
  have e1 : (X * Y).natAbs = X.natAbs * Y.natAbs := Int.natAbs_mul _ _
  have e2 : (A * B).natAbs = A.natAbs * B.natAbs := Int.natAbs_mul _ _
  have hA : 0 < A := by omega
  have hB : 0 < B := by omega
  have := Int.mul_pos hA hB
  omega
theorem Rg.int {z : Int} {Q : Nat} (h : -2 ^ Q < z ∧ z < 2 ^ Q) : Rg 0 Q (dy z 0) := ⟨z, rfl, by simpa using h.1, by simpa using h.2⟩
theorem Rg.pow {k : Int} {K : Nat} (h : -K ≤ k ∧ k ≤ K) : Rg K (K + 1) (dy 1 k) := by
  refine ⟨1 * 2 ^ (k + K).toNat, dy_down 1 k K (by omega), ?_⟩
  have := pow2_pos (k + K).toNat
  have h1 := pow2_mono (show (k + K).toNat ≤ K + K by omega)
  rw [← Nat.add_assoc, Int.pow_succ]
  omega
theorem Rg.canon {P Q : Nat} {z e : Int} (h : Rg P Q (dy z e)) (c : Canon z e) : -P ≤ e ∧ e ≤ Q ∧ z.natAbs < 2 ^ (P + Q) := by
  obtain ⟨X, hX, h1, h2⟩ := h.out
  have hp := pow2_pos (P + Q)
  rcases c.out with ⟨rfl, rfl⟩ | o
  · exact ⟨by omega, by omega, Nat.two_pow_pos _⟩
  · rcases Int.lt_or_le e (-P) with he | he
    · exfalso
      obtain ⟨k, hk⟩ : ∃ k : Nat, -(P : Int) = e + (k + 1 : Nat) := ⟨(-P - e - 1).toNat, by omega⟩
      rw [hk, ← dy_up, Int.pow_succ] at hX
      have := dy_inj hX
      rw [← Int.mul_assoc] at this
      omega
    · obtain ⟨k, hk⟩ : ∃ k : Nat, e = -P + (k : Int) := ⟨(e + P).toNat, by omega⟩
      rw [hk, ← dy_up] at hX
      have hz := dy_inj hX
      have hkp := pow2_pos k
      have hzz : z.natAbs * 2 ^ k < 2 ^ (P + Q) := by
        have e1 : (z * 2 ^ k).natAbs = z.natAbs * 2 ^ k := by rw [Int.natAbs_mul, Int.natAbs_pow]; rfl
        have e2 : ((2 : Int) ^ (P + Q)).natAbs = 2 ^ (P + Q) := by rw [Int.natAbs_pow]; rfl
        omega
      have hz1 : 1 ≤ z.natAbs := by omega
      have hk1 : 2 ^ k < 2 ^ (P + Q) := Nat.lt_of_le_of_lt (Nat.le_mul_of_pos_left _ hz1) hzz
      have hk2 : k < P + Q := (Nat.pow_lt_pow_iff_right (by omega)).1 hk1
      have hk3 : z.natAbs < 2 ^ (P + Q) := Nat.lt_of_le_of_lt (Nat.le_mul_of_pos_right _ (Nat.two_pow_pos k)) hzz
      exact ⟨he, by omega, hk3⟩

end Go.Proofs.YtjnnodbejnmkmaaDoor
