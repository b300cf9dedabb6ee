/- Enclosures: plain mathematics (products of ends, cuts, roots). No program is named here. -/
import Derived.Test.YtimdglgianheiaaDoorMG
namespace Go.Proofs.YtimdglgianheiaaDoor
open Go.RowKit

def dmin (x y : Dyadic) : Dyadic := if y < x then y else x
def dmax (x y : Dyadic) : Dyadic := if x < y then y else x
theorem dmin_le1 (x y : Dyadic) : dmin x y ≤ x := by unfold dmin; split <;> grind
theorem dmin_le2 (x y : Dyadic) : dmin x y ≤ y := by unfold dmin; split <;> grind
theorem dmin_or (x y : Dyadic) : dmin x y = x ∨ dmin x y = y := by unfold dmin; split <;> grind
theorem le_dmax1 (x y : Dyadic) : x ≤ dmax x y := by unfold dmax; split <;> grind
theorem le_dmax2 (x y : Dyadic) : y ≤ dmax x y := by unfold dmax; split <;> grind
theorem dmax_or (x y : Dyadic) : dmax x y = x ∨ dmax x y = y := by unfold dmax; split <;> grind
theorem mul_nn {x y : Dyadic} (h : 0 ≤ x) (k : 0 ≤ y) : 0 ≤ x * y := by
  rcases (show x = 0 ∨ 0 < x by grind) with h0 | h0
  · rw [h0]; grind
  · rcases (show y = 0 ∨ 0 < y by grind) with k0 | k0
    · rw [k0]; grind
    · have := Dyadic.instOrderedRing.mul_lt_mul_of_pos_left k0 h0
      grind
theorem mulr {a x y : Dyadic} (h : a ≤ x) (k : 0 ≤ y) : a * y ≤ x * y := by
  have := mul_nn (x := x - a) (y := y) (by grind) k
  grind
theorem mulr' {a x y : Dyadic} (h : a ≤ x) (k : y ≤ 0) : x * y ≤ a * y := by
  have := mul_nn (x := x - a) (y := -y) (by grind) (by grind)
  grind
theorem sq_le {x y : Dyadic} (hx : 0 ≤ x) (h : x ≤ y) : x * x ≤ y * y := by
  have h1 := mulr h hx
  have h2 := mulr h (show 0 ≤ y by grind)
  grind
theorem sq_lt {x y : Dyadic} (hx : 0 ≤ x) (h : x < y) : x * x < y * y := by
  have h0 : 0 < y - x := by grind
  have h1 : 0 < (y - x) * (y - x) := by
    have := Dyadic.instOrderedRing.mul_lt_mul_of_pos_left h0 h0
    grind
  have h2 := mulr (a := x) (x := y) (y := x) (by grind) hx
  grind
theorem le_of_sq {x y : Dyadic} (hy : 0 ≤ y) (h : x * x ≤ y * y) : x ≤ y := by
  rcases Std.le_total (a := x) (b := y) with k | k
  · exact k
  · by_cases e : y = x
    · grind
    · have := sq_lt (x := y) (y := x) hy (by grind)
      grind

/-- The least and the greatest of four. -/
def min4 (a b c d : Dyadic) : Dyadic := dmin (dmin (dmin a b) c) d
def max4 (a b c d : Dyadic) : Dyadic := dmax (dmax (dmax a b) c) d
theorem min4_le (a b c d : Dyadic) : min4 a b c d ≤ a ∧ min4 a b c d ≤ b ∧ min4 a b c d ≤ c ∧ min4 a b c d ≤ d := by
  unfold min4
  have h1 := dmin_le1 a b
  have h2 := dmin_le2 a b
  have h3 := dmin_le1 (dmin a b) c
  have h4 := dmin_le2 (dmin a b) c
  have h5 := dmin_le1 (dmin (dmin a b) c) d
  have h6 := dmin_le2 (dmin (dmin a b) c) d
  grind
theorem le_max4 (a b c d : Dyadic) : a ≤ max4 a b c d ∧ b ≤ max4 a b c d ∧ c ≤ max4 a b c d ∧ d ≤ max4 a b c d := by
  unfold max4
  have h1 := le_dmax1 a b
  have h2 := le_dmax2 a b
  have h3 := le_dmax1 (dmax a b) c
  have h4 := le_dmax2 (dmax a b) c
  have h5 := le_dmax1 (dmax (dmax a b) c) d
  have h6 := le_dmax2 (dmax (dmax a b) c) d
  grind
theorem min4_or (a b c d : Dyadic) : min4 a b c d = a ∨ min4 a b c d = b ∨ min4 a b c d = c ∨ min4 a b c d = d := by
  unfold min4
  have h1 := dmin_or a b
  have h2 := dmin_or (dmin a b) c
  have h3 := dmin_or (dmin (dmin a b) c) d
  grind
theorem max4_or (a b c d : Dyadic) : max4 a b c d = a ∨ max4 a b c d = b ∨ max4 a b c d = c ∨ max4 a b c d = d := by
  unfold max4
  have h1 := dmax_or a b
  have h2 := dmax_or (dmax a b) c
  have h3 := dmax_or (dmax (dmax a b) c) d
  grind
/-- The ends of all products. -/
def mlo (a b c d : Dyadic) : Dyadic := min4 (a * c) (a * d) (b * c) (b * d)
def mhi (a b c d : Dyadic) : Dyadic := max4 (a * c) (a * d) (b * c) (b * d)
theorem line {a b x : Dyadic} (y : Dyadic) (h1 : a ≤ x) (h2 : x ≤ b) : (a * y ≤ x * y ∧ x * y ≤ b * y) ∨ (b * y ≤ x * y ∧ x * y ≤ a * y) := by
  rcases Std.le_total (a := 0) (b := y) with k | k
  · exact .inl ⟨mulr h1 k, mulr h2 k⟩
  · exact .inr ⟨mulr' h2 k, mulr' h1 k⟩
theorem mul_kept {a b c d x y : Dyadic} (h1 : a ≤ x) (h2 : x ≤ b) (h3 : c ≤ y) (h4 : y ≤ d) : mlo a b c d ≤ x * y ∧ x * y ≤ mhi a b c d := by
  have k1 := line y h1 h2
  have k2 := line a h3 h4
  have k3 := line b h3 h4
  have k4 := min4_le (a * c) (a * d) (b * c) (b * d)
  have k5 := le_max4 (a * c) (a * d) (b * c) (b * d)
  unfold mlo mhi
  have c1 : c * a = a * c := Dyadic.mul_comm _ _
  have c2 : d * a = a * d := Dyadic.mul_comm _ _
  have c3 : c * b = b * c := Dyadic.mul_comm _ _
  have c4 : d * b = b * d := Dyadic.mul_comm _ _
  have c5 : y * a = a * y := Dyadic.mul_comm _ _
  have c6 : y * b = b * y := Dyadic.mul_comm _ _
  rw [c1, c2, c5] at k2
  rw [c3, c4, c6] at k3
  grind
theorem mlo_mhi {a b c d : Dyadic} (h1 : a ≤ b) (h2 : c ≤ d) : mlo a b c d ≤ mhi a b c d := by
  have := mul_kept (Std.le_refl a) h1 (Std.le_refl c) h2
  grind
theorem mul_inside {a b c d a' b' : Dyadic} (h1 : a' ≤ a) (h2 : a ≤ b) (h3 : b ≤ b') (h4 : c ≤ d) : mlo a' b' c d ≤ mlo a b c d ∧ mhi a b c d ≤ mhi a' b' c d := by
  have k1 := mul_kept h1 (show a ≤ b' by grind) (Std.le_refl c) h4
  have k2 := mul_kept h1 (show a ≤ b' by grind) h4 (Std.le_refl d)
  have k3 := mul_kept (show a' ≤ b by grind) h3 (Std.le_refl c) h4
  have k4 := mul_kept (show a' ≤ b by grind) h3 h4 (Std.le_refl d)
  have j1 := min4_or (a * c) (a * d) (b * c) (b * d)
  have j2 := max4_or (a * c) (a * d) (b * c) (b * d)
  constructor
  · rw [show mlo a b c d = min4 (a * c) (a * d) (b * c) (b * d) from rfl]
    grind
  · rw [show mhi a b c d = max4 (a * c) (a * d) (b * c) (b * d) from rfl]
    grind

theorem dy_le {x y e : Int} : dy x e ≤ dy y e ↔ x ≤ y := by
  have := dy_lt (x := y) (y := x) (e := e)
  constructor
  · intro h
    rcases Int.lt_or_le y x with k | k
    · have := this.2 k; grind
    · exact k
  · intro h
    rcases Std.le_total (a := dy x e) (b := dy y e) with k | k
    · exact k
    · by_cases q : dy x e = dy y e
      · grind
      · have := this.1 (by grind); omega
theorem Few.neg {k : Nat} {d : Dyadic} (h : Few k d) : Few k (-d) := by
  obtain ⟨Z, E, rfl, hZ⟩ := h.out
  exact ⟨-Z, E, dy_neg Z E, by omega⟩
theorem Few.zero (k : Nat) : Few k 0 := ⟨0, 0, (dy_zero 0).symm, by have := Nat.two_pow_pos k; omega⟩
/-- Of k bits at the most: nothing lies between neighbours that have k bits. -/
theorem gran {k : Nat} {d : Dyadic} {q e : Int} (h : Few k d) (hq : (2 : Int) ^ k ≤ 2 * q) (hd : dy q e < d) : dy (q + 1) e ≤ d := by
  obtain ⟨Z, E, rfl, hZ⟩ := h.out
  have hZ2 : Z ≤ 2 ^ k := by
    have h1 : ((2 ^ k : Nat) : Int) = 2 ^ k := by rw [Int.natCast_pow]; rfl
    omega
  rcases Int.lt_or_le E e with he | he
  · exfalso
    obtain ⟨t, ht⟩ : ∃ t : Nat, e = E + (t + 1 : Nat) := ⟨(e - E - 1).toNat, by omega⟩
    rw [ht, ← dy_up, dy_lt, Int.pow_succ] at hd
    have h2 := pow2_pos t
    have h3 := pow2_pos k
    have h4 : 2 * q * 1 ≤ 2 * q * 2 ^ t := Int.mul_le_mul_of_nonneg_left (by omega) (by omega)
    have h5 : q * (2 ^ t * 2) = 2 * q * 2 ^ t := by rw [← Int.mul_assoc, Int.mul_comm, ← Int.mul_assoc]
    omega
  · obtain ⟨t, ht⟩ : ∃ t : Nat, E = e + (t : Nat) := ⟨(E - e).toNat, by omega⟩
    rw [ht, ← dy_up] at hd ⊢
    rw [dy_lt] at hd
    rw [dy_le]
    omega

/-- c is the greatest number of at most k bits that is at most x. -/
structure Clo (k : Nat) (x c : Dyadic) : Prop where
  few : Few k c
  le : c ≤ x
  most : ∀ d, Few k d → d ≤ x → d ≤ c
structure Chi (k : Nat) (x c : Dyadic) : Prop where
  few : Few k c
  ge : x ≤ c
  least : ∀ d, Few k d → x ≤ d → c ≤ d
theorem Clo.mono {k : Nat} {x y c d : Dyadic} (h : Clo k x c) (g : Clo k y d) (hx : x ≤ y) : c ≤ d := g.most _ h.few (by have := h.le; grind)
theorem Chi.mono {k : Nat} {x y c d : Dyadic} (h : Chi k x c) (g : Chi k y d) (hx : x ≤ y) : c ≤ d := h.least _ g.few (by have := g.ge; grind)
theorem Clo.opp {k : Nat} {x c : Dyadic} (h : Clo k x c) : Chi k (-x) (-c) := ⟨h.few.neg, by have := h.le; grind, fun d hd hx => by have := h.most (-d) hd.neg (by grind); grind⟩
theorem Chi.opp {k : Nat} {x c : Dyadic} (h : Chi k x c) : Clo k (-x) (-c) := ⟨h.few.neg, by have := h.ge; grind, fun d hd hx => by have := h.least (-d) hd.neg (by grind); grind⟩
theorem cut_pos {p j k : Nat} {e : Int} (hb : bl p = k + j) (hj : 0 < j) (hk : 1 ≤ k) (ho : p % 2 = 1) : Clo k (dy p e) (dy (p / 2 ^ j : Nat) (e + j)) ∧ Chi k (dy p e) (dy ((p / 2 ^ j + 1 : Nat)) (e + j)) := by
  obtain ⟨q, hq⟩ : ∃ q, p / 2 ^ j = q := ⟨_, rfl⟩
  rw [hq]
  have hp := Nat.two_pow_pos j
  have h1 : p < 2 ^ (k + j) := by rw [← hb]; exact bl_lt p
  have hp0 : p ≠ 0 := by omega
  have h2 : 2 ^ (k + j - 1) ≤ p := by have := bl_le hp0; rw [hb] at this; exact this
  have hdm := Nat.div_add_mod p (2 ^ j)
  have hr := Nat.mod_lt p hp
  rw [hq] at hdm
  have hq1 : q < 2 ^ k := by
    rw [← hq]
    exact Nat.div_lt_of_lt_mul (by rw [← Nat.pow_add, Nat.add_comm]; exact h1)
  have hq2 : 2 ^ (k - 1) ≤ q := by
    rw [← hq, Nat.le_div_iff_mul_le hp, ← Nat.pow_add, show k - 1 + j = k + j - 1 by omega]; exact h2
  have hm : p % 2 ^ j ≠ 0 := by
    intro h0
    obtain ⟨i, rfl⟩ : ∃ i, j = i + 1 := ⟨j - 1, by omega⟩
    rw [Nat.pow_succ] at hdm h0
    rw [h0, Nat.add_zero, show 2 ^ i * 2 * q = 2 * (2 ^ i * q) by rw [Nat.mul_comm (2 ^ i) 2, Nat.mul_assoc]] at hdm
    omega
  have hpk : (2 : Nat) ^ k = 2 * 2 ^ (k - 1) := by
    conv => lhs; rw [show k = k - 1 + 1 by omega, Nat.pow_succ]
    omega
  have hg : (2 : Int) ^ k ≤ 2 * (q : Int) := by
    have e1 : ((2 ^ k : Nat) : Int) = 2 ^ k := by rw [Int.natCast_pow]; rfl
    omega
  have l1 : dy (q : Nat) (e + j) < dy p e := by
    rw [← dy_up, dy_lt]
    have e2 : ((q : Nat) : Int) * 2 ^ j = ((2 ^ j * q : Nat) : Int) := by rw [Int.natCast_mul, Int.natCast_pow, Int.mul_comm]; rfl
    rw [e2]
    omega
  have l2 : dy p e < dy ((q : Int) + 1) (e + j) := by
    rw [← dy_up, dy_lt]
    have e2 : ((q : Int) + 1) * 2 ^ j = ((2 ^ j * q + 2 ^ j : Nat) : Int) := by rw [Int.add_mul, Int.natCast_add, Int.natCast_mul, Int.natCast_pow, Int.mul_comm]; simp
    rw [e2]
    omega
  have e3 : ((q + 1 : Nat) : Int) = (q : Int) + 1 := by omega
  rw [e3]
  refine ⟨⟨⟨q, e + j, rfl, by omega⟩, by grind, fun d hd hx => ?_⟩, ⟨⟨(q : Int) + 1, e + j, rfl, by omega⟩, by grind, fun d hd hx => gran hd hg (by grind)⟩⟩
  rcases Std.le_total (a := d) (b := dy (q : Nat) (e + j)) with t | t
  · exact t
  · by_cases hx2 : dy (q : Nat) (e + j) = d
    · grind
    · have := gran hd hg (show dy (q : Nat) (e + j) < d by grind)
      grind
theorem few_self {z e : Int} {k : Nat} (h : bl z.natAbs ≤ k) : Few k (dy z e) :=
  ⟨z, e, rfl, Nat.le_trans (Nat.le_of_lt (bl_lt _)) (Nat.pow_le_pow_right (by omega) h)⟩
theorem cut_spec' {z e : Int} {k : Nat} (hc : Canon z e) (hk : 1 ≤ k) : Clo k (dy z e) (cutD z e k false) ∧ Chi k (dy z e) (cutD z e k true) := by
  by_cases hb : bl z.natAbs ≤ k
  · rw [cut_same hb, cut_same hb]
    exact ⟨⟨few_self hb, Std.le_refl _, fun _ _ h => h⟩, ⟨few_self hb, Std.le_refl _, fun _ _ h => h⟩⟩
  · have ho : z % 2 = 1 := by
      rcases hc.out with ⟨rfl, _⟩ | ho
      · exfalso; apply hb; exact Nat.le_trans (Nat.le_of_eq bl_zero) (Nat.zero_le _)
      · exact ho
    obtain ⟨j, hj⟩ : ∃ j, bl z.natAbs = k + j := ⟨bl z.natAbs - k, by omega⟩
    have C := cut_pos (e := e) hj (by omega) hk (show z.natAbs % 2 = 1 by omega)
    unfold cutD
    rw [if_neg hb, if_neg hb, show bl z.natAbs - k = j by omega]
    rcases Int.lt_or_le z 0 with h0 | h0
    · rw [decide_eq_true h0]
      have e1 : dy z e = -dy (z.natAbs : Nat) e := by rw [dy_neg]; congr 1; omega
      rw [e1]
      simp only [sg, if_true, Bool.false_eq_true, if_false, Nat.add_zero]
      rw [← dy_neg, ← dy_neg]
      exact ⟨C.2.opp, C.1.opp⟩
    · rw [decide_eq_false (by omega)]
      have e1 : dy z e = dy (z.natAbs : Nat) e := by congr 1; omega
      rw [e1]
      simp only [sg, Bool.false_eq_true, if_false, if_true, Nat.add_zero]
      refine ⟨C.1, ?_⟩
      have := C.2
      simpa using this

/-- r is the greatest number of at most k bits whose square is at most x; the least whose square is at least x. -/
structure Rlo (k : Nat) (x r : Dyadic) : Prop where
  few : Few k r
  nn : 0 ≤ r
  le : r * r ≤ x
  most : ∀ d, Few k d → 0 ≤ d → d * d ≤ x → d ≤ r
structure Rhi (k : Nat) (x r : Dyadic) : Prop where
  few : Few k r
  nn : 0 ≤ r
  ge : x ≤ r * r
  least : ∀ d, Few k d → 0 ≤ d → x ≤ d * d → r ≤ d
theorem Rlo.uniq {k : Nat} {x r s : Dyadic} (h : Rlo k x r) (g : Rlo k x s) : r = s := by
  have := h.most _ g.few g.nn g.le
  have := g.most _ h.few h.nn h.le
  grind
theorem Rhi.uniq {k : Nat} {x r s : Dyadic} (h : Rhi k x r) (g : Rhi k x s) : r = s := by
  have := h.least _ g.few g.nn g.ge
  have := g.least _ h.few h.nn h.ge
  grind
theorem Rlo.mono {k : Nat} {x y r s : Dyadic} (h : Rlo k x r) (g : Rlo k y s) (hx : x ≤ y) : r ≤ s := g.most _ h.few h.nn (by have := h.le; grind)
theorem Rhi.mono {k : Nat} {x y r s : Dyadic} (h : Rhi k x r) (g : Rhi k y s) (hx : x ≤ y) : r ≤ s := h.least _ g.few g.nn (by have := g.ge; grind)
theorem Rlo.hi {k : Nat} {x y r s : Dyadic} (h : Rlo k x r) (g : Rhi k y s) (hx : x ≤ y) : r ≤ s := le_of_sq g.nn (by have := h.le; have := g.ge; grind)
theorem Rlo.zero (k : Nat) : Rlo k 0 0 := ⟨Few.zero k, Std.le_refl _, by grind, fun d _ h0 h => le_of_sq (Std.le_refl _) (by grind)⟩
theorem Rhi.zero (k : Nat) : Rhi k 0 0 := ⟨Few.zero k, Std.le_refl _, by grind, fun d _ h0 h => h0⟩
theorem dy_nn {m : Nat} {e : Int} : 0 ≤ dy m e := by rw [← dy_zero e, dy_le]; omega
theorem dy_sq (m e : Int) : dy m e * dy m e = dy (m * m) (2 * e) := by rw [dy_mul]; congr 1; omega
/-- What the program's roots are. -/
theorem root_lo {k m : Nat} {e : Int} {x : Dyadic} (h1 : 2 ^ k ≤ 2 * m) (h2 : m < 2 ^ k) (h3 : dy ((m * m : Nat) : Int) (2 * e) ≤ x) (h4 : x < dy (((m + 1) * (m + 1) : Nat) : Int) (2 * e)) : Rlo k x (dy m e) := by
  have hq : dy m e * dy m e = dy ((m * m : Nat) : Int) (2 * e) := by rw [dy_sq, Int.natCast_mul]
  have hq' : dy ((m : Int) + 1) e * dy ((m : Int) + 1) e = dy (((m + 1) * (m + 1) : Nat) : Int) (2 * e) := by rw [dy_sq]; congr 1
  have hg : (2 : Int) ^ k ≤ 2 * (m : Int) := by
    have e1 : ((2 ^ k : Nat) : Int) = 2 ^ k := by rw [Int.natCast_pow]; rfl
    omega
  refine ⟨⟨m, e, rfl, by omega⟩, dy_nn, by rw [hq]; exact h3, fun d hd h0 hx => ?_⟩
  rcases Std.le_total (a := d) (b := dy m e) with t | t
  · exact t
  · by_cases hx2 : dy m e = d
    · grind
    · have := gran hd hg (show dy m e < d by grind)
      have h5 : 0 ≤ dy ((m : Int) + 1) e := dy_nn (m := m + 1)
      have := sq_le h5 this
      grind
theorem root_hi0 {k m : Nat} {e : Int} {x : Dyadic} (h2 : m < 2 ^ k) (h3 : dy ((m * m : Nat) : Int) (2 * e) = x) : Rhi k x (dy m e) := by
  have hq : dy m e * dy m e = dy ((m * m : Nat) : Int) (2 * e) := by rw [dy_sq, Int.natCast_mul]
  refine ⟨⟨m, e, rfl, by omega⟩, dy_nn, by rw [hq, h3]; exact Std.le_refl _, fun d hd h0 hx => le_of_sq h0 (by rw [hq, h3]; exact hx)⟩
theorem root_hi1 {k m : Nat} {e : Int} {x : Dyadic} (h1 : 2 ^ k ≤ 2 * m) (h2 : m < 2 ^ k) (h3 : dy ((m * m : Nat) : Int) (2 * e) < x) (h4 : x < dy (((m + 1) * (m + 1) : Nat) : Int) (2 * e)) : Rhi k x (dy ((m + 1 : Nat) : Int) e) := by
  have hq : dy m e * dy m e = dy ((m * m : Nat) : Int) (2 * e) := by rw [dy_sq, Int.natCast_mul]
  have hq' : dy ((m + 1 : Nat) : Int) e * dy ((m + 1 : Nat) : Int) e = dy (((m + 1) * (m + 1) : Nat) : Int) (2 * e) := by rw [dy_sq, ← Int.natCast_mul]
  have hg : (2 : Int) ^ k ≤ 2 * (m : Int) := by
    have e1 : ((2 ^ k : Nat) : Int) = 2 ^ k := by rw [Int.natCast_pow]; rfl
    omega
  refine ⟨⟨(m + 1 : Nat), e, rfl, by omega⟩, dy_nn, by rw [hq']; grind, fun d hd h0 hx => ?_⟩
  have hlt : dy m e < d := by
    rcases Std.le_total (a := d) (b := dy m e) with t | t
    · have := sq_le h0 t; grind
    · by_cases hx2 : dy m e = d
      · subst hx2; grind
      · grind
  exact gran hd hg hlt
/-- What the document's roots are: cuts of a number that lies as the root does, to all of so few bits. -/
theorem Clo.root {k : Nat} {x y c : Dyadic} (h : Clo k y c) (h0 : 0 ≤ y) (hy : ∀ d, Few k d → 0 ≤ d → (d * d ≤ x ↔ d ≤ y)) : Rlo k x c := by
  have hc := h.most 0 (Few.zero k) h0
  exact ⟨h.few, hc, (hy c h.few hc).2 h.le, fun d hd h1 hx => h.most d hd ((hy d hd h1).1 hx)⟩
theorem Chi.root {k : Nat} {x y c : Dyadic} (h : Chi k y c) (h0 : 0 ≤ y) (hy : ∀ d, Few k d → 0 ≤ d → (x ≤ d * d ↔ y ≤ d)) : Rhi k x c := by
  have hc : 0 ≤ c := by have := h.ge; grind
  exact ⟨h.few, hc, (hy c h.few hc).2 h.ge, fun d hd h1 hx => h.least d hd ((hy d hd h1).1 hx)⟩

end Go.Proofs.YtimdglgianheiaaDoor
