/- Enclosures. -/
import Derived.Test.YtomdbmjfehoodaaGreatDoorMG
set_option maxRecDepth 8000
/- Enclosures: plain mathematics (products of ends, cuts, roots). No program is named here. -/
namespace Go.Proofs.YtomdbmjfehoodaaGreatDoor
open Go.RowKit

def dmin (x y : Dyadic) : Dyadic := if y < x then y else x
def dmax (x y : Dyadic) : Dyadic := if x < y then y else x
theorem dmin_le1 (x y : Dyadic) : dmin x y ≤ x := by unfold dmin; split <;> grind
theorem dmin_le2 (x y : Dyadic) : dmin x y ≤ y := by unfold dmin; split <;> grind
theorem dmin_or (x y : Dyadic) : dmin x y = x ∨ dmin x y = y := by unfold dmin; split <;> grind
theorem le_dmax1 (x y : Dyadic) : x ≤ dmax x y := by unfold dmax; split <;> grind
theorem le_dmax2 (x y : Dyadic) : y ≤ dmax x y := by unfold dmax; split <;> grind
theorem dmax_or (x y : Dyadic) : dmax x y = x ∨ dmax x y = y := by unfold dmax; split <;> grind
theorem mul_nn {x y : Dyadic} (h : 0 ≤ x) (k : 0 ≤ y) : 0 ≤ x * y := by
  rcases (show x = 0 ∨ 0 < x by grind) with h0 | h0
  · rw [h0]; grind
  · rcases (show y = 0 ∨ 0 < y by grind) with k0 | k0
    · rw [k0]; grind
    · have := Dyadic.instOrderedRing.mul_lt_mul_of_pos_left k0 h0
      grind
theorem mulr {a x y : Dyadic} (h : a ≤ x) (k : 0 ≤ y) : a * y ≤ x * y := by
  have := mul_nn (x := x - a) (y := y) (by grind) k
  grind
theorem mulr' {a x y : Dyadic} (h : a ≤ x) (k : y ≤ 0) : x * y ≤ a * y := by
  have := mul_nn (x := x - a) (y := -y) (by grind) (by grind)
  grind
theorem sq_le {x y : Dyadic} (hx : 0 ≤ x) (h : x ≤ y) : x * x ≤ y * y := by
  have h1 := mulr h hx
  have h2 := mulr h (show 0 ≤ y by grind)
  grind
theorem sq_lt {x y : Dyadic} (hx : 0 ≤ x) (h : x < y) : x * x < y * y := by
  have h0 : 0 < y - x := by grind
  have h1 : 0 < (y - x) * (y - x) := by
    have := Dyadic.instOrderedRing.mul_lt_mul_of_pos_left h0 h0
    grind
  have h2 := mulr (a := x) (x := y) (y := x) (by grind) hx
  grind
theorem le_of_sq {x y : Dyadic} (hy : 0 ≤ y) (h : x * x ≤ y * y) : x ≤ y := by
  rcases Std.le_total (a := x) (b := y) with k | k
  · exact k
  · by_cases e : y = x
    · grind
    · have := sq_lt (x := y) (y := x) hy (by grind)
      grind

/-- The least and the greatest of four. -/
def min4 (a b c d : Dyadic) : Dyadic := dmin (dmin (dmin a b) c) d
def max4 (a b c d : Dyadic) : Dyadic := dmax (dmax (dmax a b) c) d
theorem min4_le (a b c d : Dyadic) : min4 a b c d ≤ a ∧ min4 a b c d ≤ b ∧ min4 a b c d ≤ c ∧ min4 a b c d ≤ d := by
  unfold min4
  have h1 := dmin_le1 a b
  have h2 := dmin_le2 a b
  have h3 := dmin_le1 (dmin a b) c
  have h4 := dmin_le2 (dmin a b) c
  have h5 := dmin_le1 (dmin (dmin a b) c) d
  have h6 := dmin_le2 (dmin (dmin a b) c) d
  grind
theorem le_max4 (a b c d : Dyadic) : a ≤ max4 a b c d ∧ b ≤ max4 a b c d ∧ c ≤ max4 a b c d ∧ d ≤ max4 a b c d := by
  unfold max4
  have h1 := le_dmax1 a b
  have h2 := le_dmax2 a b
  have h3 := le_dmax1 (dmax a b) c
  have h4 := le_dmax2 (dmax a b) c
  have h5 := le_dmax1 (dmax (dmax a b) c) d
  have h6 := le_dmax2 (dmax (dmax a b) c) d
  grind
theorem min4_or (a b c d : Dyadic) : min4 a b c d = a ∨ min4 a b c d = b ∨ min4 a b c d = c ∨ min4 a b c d = d := by
  unfold min4
  have h1 := dmin_or a b
  have h2 := dmin_or (dmin a b) c
  have h3 := dmin_or (dmin (dmin a b) c) d
  grind
theorem max4_or (a b c d : Dyadic) : max4 a b c d = a ∨ max4 a b c d = b ∨ max4 a b c d = c ∨ max4 a b c d = d := by
  unfold max4
  have h1 := dmax_or a b
  have h2 := dmax_or (dmax a b) c
  have h3 := dmax_or (dmax (dmax a b) c) d
  grind
/-- The ends of all products. -/
def mlo (a b c d : Dyadic) : Dyadic := min4 (a * c) (a * d) (b * c) (b * d)
def mhi (a b c d : Dyadic) : Dyadic := max4 (a * c) (a * d) (b * c) (b * d)
theorem line {a b x : Dyadic} (y : Dyadic) (h1 : a ≤ x) (h2 : x ≤ b) : (a * y ≤ x * y ∧ x * y ≤ b * y) ∨ (b * y ≤ x * y ∧ x * y ≤ a * y) := by
  rcases Std.le_total (a := 0) (b := y) with k | k
  · exact .inl ⟨mulr h1 k, mulr h2 k⟩
  · exact .inr ⟨mulr' h2 k, mulr' h1 k⟩
theorem mul_kept {a b c d x y : Dyadic} (h1 : a ≤ x) (h2 : x ≤ b) (h3 : c ≤ y) (h4 : y ≤ d) : mlo a b c d ≤ x * y ∧ x * y ≤ mhi a b c d := by
  have k1 := line y h1 h2
  have k2 := line a h3 h4
  have k3 := line b h3 h4
  have k4 := min4_le (a * c) (a * d) (b * c) (b * d)
  have k5 := le_max4 (a * c) (a * d) (b * c) (b * d)
  unfold mlo mhi
  have c1 : c * a = a * c := Dyadic.mul_comm _ _
  have c2 : d * a = a * d := Dyadic.mul_comm _ _
  have c3 : c * b = b * c := Dyadic.mul_comm _ _
  have c4 : d * b = b * d := Dyadic.mul_comm _ _
  have c5 : y * a = a * y := Dyadic.mul_comm _ _
  have c6 : y * b = b * y := Dyadic.mul_comm _ _
  rw [c1, c2, c5] at k2
  rw [c3, c4, c6] at k3
  grind
theorem mlo_mhi {a b c d : Dyadic} (h1 : a ≤ b) (h2 : c ≤ d) : mlo a b c d ≤ mhi a b c d := by
  have := mul_kept (Std.le_refl a) h1 (Std.le_refl c) h2
  grind
theorem mul_inside {a b c d a' b' : Dyadic} (h1 : a' ≤ a) (h2 : a ≤ b) (h3 : b ≤ b') (h4 : c ≤ d) : mlo a' b' c d ≤ mlo a b c d ∧ mhi a b c d ≤ mhi a' b' c d := by
  have k1 := mul_kept h1 (show a ≤ b' by grind) (Std.le_refl c) h4
  have k2 := mul_kept h1 (show a ≤ b' by grind) h4 (Std.le_refl d)
  have k3 := mul_kept (show a' ≤ b by grind) h3 (Std.le_refl c) h4
  have k4 := mul_kept (show a' ≤ b by grind) h3 h4 (Std.le_refl d)
  have j1 := min4_or (a * c) (a * d) (b * c) (b * d)
  have j2 := max4_or (a * c) (a * d) (b * c) (b * d)
  constructor
  · rw [show mlo a b c d = min4 (a * c) (a * d) (b * c) (b * d) from rfl]
    grind
  · rw [show mhi a b c d = max4 (a * c) (a * d) (b * c) (b * d) from rfl]
    grind

theorem dy_le {x y e : Int} : dy x e ≤ dy y e ↔ x ≤ y := by
  have := dy_lt (x := y) (y := x) (e := e)
  constructor
  · intro h
    rcases Int.lt_or_le y x with k | k
    · have := this.2 k; grind
    · exact k
  · intro h
    rcases Std.le_total (a := dy x e) (b := dy y e) with k | k
    · exact k
    · by_cases q : dy x e = dy y e
      · grind
      · have := this.1 (by grind); omega
theorem Few.neg {k : Nat} {d : Dyadic} (h : Few k d) : Few k (-d) := by
  obtain ⟨Z, E, rfl, hZ⟩ := h.out
  exact ⟨-Z, E, dy_neg Z E, by omega⟩
theorem Few.zero (k : Nat) : Few k 0 := ⟨0, 0, (dy_zero 0).symm, by have := Nat.two_pow_pos k; omega⟩
/-- Of k bits at the most: nothing lies between neighbours that have k bits. -/
theorem gran {k : Nat} {d : Dyadic} {q e : Int} (h : Few k d) (hq : (2 : Int) ^ k ≤ 2 * q) (hd : dy q e < d) : dy (q + 1) e ≤ d := by
  obtain ⟨Z, E, rfl, hZ⟩ := h.out
  have hZ2 : Z ≤ 2 ^ k := by
    have h1 : ((2 ^ k : Nat) : Int) = 2 ^ k := by rw [Int.natCast_pow]; rfl
    omega
  rcases Int.lt_or_le E e with he | he
  · exfalso
    obtain ⟨t, ht⟩ : ∃ t : Nat, e = E + (t + 1 : Nat) := ⟨(e - E - 1).toNat, by omega⟩
    rw [ht, ← dy_up, dy_lt, Int.pow_succ] at hd
    have h2 := pow2_pos t
    have h3 := pow2_pos k
    have h4 : 2 * q * 1 ≤ 2 * q * 2 ^ t := Int.mul_le_mul_of_nonneg_left (by omega) (by omega)
    have h5 : q * (2 ^ t * 2) = 2 * q * 2 ^ t := by rw [← Int.mul_assoc, Int.mul_comm, ← Int.mul_assoc]
    omega
  · obtain ⟨t, ht⟩ : ∃ t : Nat, E = e + (t : Nat) := ⟨(E - e).toNat, by omega⟩
    rw [ht, ← dy_up] at hd ⊢
    rw [dy_lt] at hd
    rw [dy_le]
    omega

/-- c is the greatest number of at most k bits that is at most x. -/
structure Clo (k : Nat) (x c : Dyadic) : Prop where
  few : Few k c
  le : c ≤ x
  most : ∀ d, Few k d → d ≤ x → d ≤ c
structure Chi (k : Nat) (x c : Dyadic) : Prop where
  few : Few k c
  ge : x ≤ c
  least : ∀ d, Few k d → x ≤ d → c ≤ d
theorem Clo.mono {k : Nat} {x y c d : Dyadic} (h : Clo k x c) (g : Clo k y d) (hx : x ≤ y) : c ≤ d := g.most _ h.few (by have := h.le; grind)
theorem Chi.mono {k : Nat} {x y c d : Dyadic} (h : Chi k x c) (g : Chi k y d) (hx : x ≤ y) : c ≤ d := h.least _ g.few (by have := g.ge; grind)
theorem Clo.opp {k : Nat} {x c : Dyadic} (h : Clo k x c) : Chi k (-x) (-c) := ⟨h.few.neg, by have := h.le; grind, fun d hd hx => by have := h.most (-d) hd.neg (by grind); grind⟩
theorem Chi.opp {k : Nat} {x c : Dyadic} (h : Chi k x c) : Clo k (-x) (-c) := ⟨h.few.neg, by have := h.ge; grind, fun d hd hx => by have := h.least (-d) hd.neg (by grind); grind⟩
theorem cut_pos {p j k : Nat} {e : Int} (hb : bl p = k + j) (hj : 0 < j) (hk : 1 ≤ k) (ho : p % 2 = 1) : Clo k (dy p e) (dy (p / 2 ^ j : Nat) (e + j)) ∧ Chi k (dy p e) (dy ((p / 2 ^ j + 1 : Nat)) (e + j)) := by
  obtain ⟨q, hq⟩ : ∃ q, p / 2 ^ j = q := ⟨_, rfl⟩
  rw [hq]
  have hp := Nat.two_pow_pos j
  have h1 : p < 2 ^ (k + j) := by rw [← hb]; exact bl_lt p
  have hp0 : p ≠ 0 := by omega
  have h2 : 2 ^ (k + j - 1) ≤ p := by have := bl_le hp0; rw [hb] at this; exact this
  have hdm := Nat.div_add_mod p (2 ^ j)
  have hr := Nat.mod_lt p hp
  rw [hq] at hdm
  have hq1 : q < 2 ^ k := by
    rw [← hq]
    exact Nat.div_lt_of_lt_mul (by rw [← Nat.pow_add, Nat.add_comm]; exact h1)
  have hq2 : 2 ^ (k - 1) ≤ q := by
    rw [← hq, Nat.le_div_iff_mul_le hp, ← Nat.pow_add, show k - 1 + j = k + j - 1 by omega]; exact h2
  have hm : p % 2 ^ j ≠ 0 := by
    intro h0
    obtain ⟨i, rfl⟩ : ∃ i, j = i + 1 := ⟨j - 1, by omega⟩
    rw [Nat.pow_succ] at hdm h0
    rw [h0, Nat.add_zero, show 2 ^ i * 2 * q = 2 * (2 ^ i * q) by rw [Nat.mul_comm (2 ^ i) 2, Nat.mul_assoc]] at hdm
    omega
  have hpk : (2 : Nat) ^ k = 2 * 2 ^ (k - 1) := by
    conv => lhs; rw [show k = k - 1 + 1 by omega, Nat.pow_succ]
    omega
  have hg : (2 : Int) ^ k ≤ 2 * (q : Int) := by
    have e1 : ((2 ^ k : Nat) : Int) = 2 ^ k := by rw [Int.natCast_pow]; rfl
    omega
  have l1 : dy (q : Nat) (e + j) < dy p e := by
    rw [← dy_up, dy_lt]
    have e2 : ((q : Nat) : Int) * 2 ^ j = ((2 ^ j * q : Nat) : Int) := by rw [Int.natCast_mul, Int.natCast_pow, Int.mul_comm]; rfl
    rw [e2]
    omega
  have l2 : dy p e < dy ((q : Int) + 1) (e + j) := by
    rw [← dy_up, dy_lt]
    have e2 : ((q : Int) + 1) * 2 ^ j = ((2 ^ j * q + 2 ^ j : Nat) : Int) := by rw [Int.add_mul, Int.natCast_add, Int.natCast_mul, Int.natCast_pow, Int.mul_comm]; simp
    rw [e2]
    omega
  have e3 : ((q + 1 : Nat) : Int) = (q : Int) + 1 := by omega
  rw [e3]
  refine ⟨⟨⟨q, e + j, rfl, by omega⟩, by grind, fun d hd hx => ?_⟩, ⟨⟨(q : Int) + 1, e + j, rfl, by omega⟩, by grind, fun d hd hx => gran hd hg (by grind)⟩⟩
  rcases Std.le_total (a := d) (b := dy (q : Nat) (e + j)) with t | t
  · exact t
  · by_cases hx2 : dy (q : Nat) (e + j) = d
    · grind
    · have := gran hd hg (show dy (q : Nat) (e + j) < d by grind)
      grind
theorem few_self {z e : Int} {k : Nat} (h : bl z.natAbs ≤ k) : Few k (dy z e) :=
  ⟨z, e, rfl, Nat.le_trans (Nat.le_of_lt (bl_lt _)) (Nat.pow_le_pow_right (by omega) h)⟩
theorem cut_spec' {z e : Int} {k : Nat} (hc : Canon z e) (hk : 1 ≤ k) : Clo k (dy z e) (cutD z e k false) ∧ Chi k (dy z e) (cutD z e k true) := by
  by_cases hb : bl z.natAbs ≤ k
  · rw [cut_same hb, cut_same hb]
    exact ⟨⟨few_self hb, Std.le_refl _, fun _ _ h => h⟩, ⟨few_self hb, Std.le_refl _, fun _ _ h => h⟩⟩
  · have ho : z % 2 = 1 := by
      rcases hc.out with ⟨rfl, _⟩ | ho
      · exfalso; apply hb; exact Nat.le_trans (Nat.le_of_eq bl_zero) (Nat.zero_le _)
      · exact ho
    obtain ⟨j, hj⟩ : ∃ j, bl z.natAbs = k + j := ⟨bl z.natAbs - k, by omega⟩
    have C := cut_pos (e := e) hj (by omega) hk (show z.natAbs % 2 = 1 by omega)
    unfold cutD
    rw [if_neg hb, if_neg hb, show bl z.natAbs - k = j by omega]
    rcases Int.lt_or_le z 0 with h0 | h0
    · rw [decide_eq_true h0]
      have e1 : dy z e = -dy (z.natAbs : Nat) e := by rw [dy_neg]; congr 1; omega
      rw [e1]
      simp only [sg, if_true, Bool.false_eq_true, if_false, Nat.add_zero]
      rw [← dy_neg, ← dy_neg]
      exact ⟨C.2.opp, C.1.opp⟩
    · rw [decide_eq_false (by omega)]
      have e1 : dy z e = dy (z.natAbs : Nat) e := by congr 1; omega
      rw [e1]
      simp only [sg, Bool.false_eq_true, if_false, if_true, Nat.add_zero]
      refine ⟨C.1, ?_⟩
      have := C.2
      simpa using this

/-- r is the greatest number of at most k bits whose square is at most x; the least whose square is at least x. -/
structure Rlo (k : Nat) (x r : Dyadic) : Prop where
  few : Few k r
  nn : 0 ≤ r
  le : r * r ≤ x
  most : ∀ d, Few k d → 0 ≤ d → d * d ≤ x → d ≤ r
structure Rhi (k : Nat) (x r : Dyadic) : Prop where
  few : Few k r
  nn : 0 ≤ r
  ge : x ≤ r * r
  least : ∀ d, Few k d → 0 ≤ d → x ≤ d * d → r ≤ d
theorem Rlo.uniq {k : Nat} {x r s : Dyadic} (h : Rlo k x r) (g : Rlo k x s) : r = s := by
  have := h.most _ g.few g.nn g.le
  have := g.most _ h.few h.nn h.le
  grind
theorem Rhi.uniq {k : Nat} {x r s : Dyadic} (h : Rhi k x r) (g : Rhi k x s) : r = s := by
  have := h.least _ g.few g.nn g.ge
  have := g.least _ h.few h.nn h.ge
  grind
theorem Rlo.mono {k : Nat} {x y r s : Dyadic} (h : Rlo k x r) (g : Rlo k y s) (hx : x ≤ y) : r ≤ s := g.most _ h.few h.nn (by have := h.le; grind)
theorem Rhi.mono {k : Nat} {x y r s : Dyadic} (h : Rhi k x r) (g : Rhi k y s) (hx : x ≤ y) : r ≤ s := h.least _ g.few g.nn (by have := g.ge; grind)
theorem Rlo.hi {k : Nat} {x y r s : Dyadic} (h : Rlo k x r) (g : Rhi k y s) (hx : x ≤ y) : r ≤ s := le_of_sq g.nn (by have := h.le; have := g.ge; grind)
theorem Rlo.zero (k : Nat) : Rlo k 0 0 := ⟨Few.zero k, Std.le_refl _, by grind, fun d _ h0 h => le_of_sq (Std.le_refl _) (by grind)⟩
theorem Rhi.zero (k : Nat) : Rhi k 0 0 := ⟨Few.zero k, Std.le_refl _, by grind, fun d _ h0 h => h0⟩
theorem dy_nn {m : Nat} {e : Int} : 0 ≤ dy m e := by rw [← dy_zero e, dy_le]; omega
theorem dy_sq (m e : Int) : dy m e * dy m e = dy (m * m) (2 * e) := by rw [dy_mul]; congr 1; omega
/-- What the program's roots are. -/
theorem root_lo {k m : Nat} {e : Int} {x : Dyadic} (h1 : 2 ^ k ≤ 2 * m) (h2 : m < 2 ^ k) (h3 : dy ((m * m : Nat) : Int) (2 * e) ≤ x) (h4 : x < dy (((m + 1) * (m + 1) : Nat) : Int) (2 * e)) : Rlo k x (dy m e) := by
  have hq : dy m e * dy m e = dy ((m * m : Nat) : Int) (2 * e) := by rw [dy_sq, Int.natCast_mul]
  have hq' : dy ((m : Int) + 1) e * dy ((m : Int) + 1) e = dy (((m + 1) * (m + 1) : Nat) : Int) (2 * e) := by rw [dy_sq]; congr 1
  have hg : (2 : Int) ^ k ≤ 2 * (m : Int) := by
    have e1 : ((2 ^ k : Nat) : Int) = 2 ^ k := by rw [Int.natCast_pow]; rfl
    omega
  refine ⟨⟨m, e, rfl, by omega⟩, dy_nn, by rw [hq]; exact h3, fun d hd h0 hx => ?_⟩
  rcases Std.le_total (a := d) (b := dy m e) with t | t
  · exact t
  · by_cases hx2 : dy m e = d
    · grind
    · have := gran hd hg (show dy m e < d by grind)
      have h5 : 0 ≤ dy ((m : Int) + 1) e := dy_nn (m := m + 1)
      have := sq_le h5 this
      grind
theorem root_hi0 {k m : Nat} {e : Int} {x : Dyadic} (h2 : m < 2 ^ k) (h3 : dy ((m * m : Nat) : Int) (2 * e) = x) : Rhi k x (dy m e) := by
  have hq : dy m e * dy m e = dy ((m * m : Nat) : Int) (2 * e) := by rw [dy_sq, Int.natCast_mul]
  refine ⟨⟨m, e, rfl, by omega⟩, dy_nn, by rw [hq, h3]; exact Std.le_refl _, fun d hd h0 hx => le_of_sq h0 (by rw [hq, h3]; exact hx)⟩
theorem root_hi1 {k m : Nat} {e : Int} {x : Dyadic} (h1 : 2 ^ k ≤ 2 * m) (h2 : m < 2 ^ k) (h3 : dy ((m * m : Nat) : Int) (2 * e) < x) (h4 : x < dy (((m + 1) * (m + 1) : Nat) : Int) (2 * e)) : Rhi k x (dy ((m + 1 : Nat) : Int) e) := by
  have hq : dy m e * dy m e = dy ((m * m : Nat) : Int) (2 * e) := by rw [dy_sq, Int.natCast_mul]
  have hq' : dy ((m + 1 : Nat) : Int) e * dy ((m + 1 : Nat) : Int) e = dy (((m + 1) * (m + 1) : Nat) : Int) (2 * e) := by rw [dy_sq, ← Int.natCast_mul]
  have hg : (2 : Int) ^ k ≤ 2 * (m : Int) := by
    have e1 : ((2 ^ k : Nat) : Int) = 2 ^ k := by rw [Int.natCast_pow]; rfl
    omega
  refine ⟨⟨(m + 1 : Nat), e, rfl, by omega⟩, dy_nn, by rw [hq']; grind, fun d hd h0 hx => ?_⟩
  have hlt : dy m e < d := by
    rcases Std.le_total (a := d) (b := dy m e) with t | t
    · have := sq_le h0 t; grind
    · by_cases hx2 : dy m e = d
      · subst hx2; grind
      · grind
  exact gran hd hg hlt
/-- What the document's roots are: cuts of a number that lies as the root does, to all of so few bits. -/
theorem Clo.root {k : Nat} {x y c : Dyadic} (h : Clo k y c) (h0 : 0 ≤ y) (hy : ∀ d, Few k d → 0 ≤ d → (d * d ≤ x ↔ d ≤ y)) : Rlo k x c := by
  have hc := h.most 0 (Few.zero k) h0
  exact ⟨h.few, hc, (hy c h.few hc).2 h.le, fun d hd h1 hx => h.most d hd ((hy d hd h1).1 hx)⟩
theorem Chi.root {k : Nat} {x y c : Dyadic} (h : Chi k y c) (h0 : 0 ≤ y) (hy : ∀ d, Few k d → 0 ≤ d → (x ≤ d * d ↔ y ≤ d)) : Rhi k x c := by
  have hc : 0 ≤ c := by have := h.ge; grind
  exact ⟨h.few, hc, (hy c h.few hc).2 h.ge, fun d hd h1 hx => h.least d hd ((hy d hd h1).1 hx)⟩

end Go.Proofs.YtomdbmjfehoodaaGreatDoor

/- Enclosures as the program holds them. -/
namespace Go.Proofs.YtomdbmjfehoodaaGreatDoor
open Go.RowKit

/-- v is the enclosure from l to h. -/
def In (w : World) (v : Value) (l h : Dyadic) : Prop :=
  ∃ (b : Bool) (A : Option Addr) (n c : Nat) (e : Int) (b' : Bool) (A' : Option Addr) (n' c' : Nat) (e' : Int),
    v = .agg #[.bool b, .slice A n c, .int .i64 e, .bool b', .slice A' n' c', .int .i64 e'] ∧ Dn w (.agg #[.bool b, .slice A n c, .int .i64 e]) l ∧ Dn w (.agg #[.bool b', .slice A' n' c', .int .i64 e']) h
def RetI (w : World) (l h : Dyadic) (e : Ending) (w' : World) : Prop := ∃ v, e = .returned v ∧ In w' v l h ∧ Ext w w'
theorem In.ext {w w' : World} {v : Value} {l h : Dyadic} (k : In w v l h) (E : Ext w w') : In w' v l h := by
  obtain ⟨b, A, n, c, e, b', A', n', c', e', rfl, h1, h2⟩ := k
  exact ⟨b, A, n, c, e, b', A', n', c', e', rfl, h1.ext E, h2.ext E⟩
theorem In.mk {w : World} {x y z x' y' z' : Value} {l h : Dyadic} (h1 : Dn w (.agg #[x, y, z]) l) (h2 : Dn w (.agg #[x', y', z']) h) : In w (.agg #[x, y, z, x', y', z']) l h := by
  obtain ⟨b, A, n, c, e, hv⟩ := h1.form
  obtain ⟨b', A', n', c', e', hv'⟩ := h2.form
  simp only [Value.agg.injEq, Array.mk.injEq, List.cons.injEq, and_true] at hv hv'
  obtain ⟨rfl, rfl, rfl⟩ := hv
  obtain ⟨rfl, rfl, rfl⟩ := hv'
  exact ⟨b, A, n, c, e, b', A', n', c', e', rfl, h1, h2⟩
theorem In.lo {w : World} {x y z x' y' z' : Value} {l h : Dyadic} (k : In w (.agg #[x, y, z, x', y', z']) l h) : Dn w (.agg #[x, y, z]) l := by
  obtain ⟨b, A, n, c, e, b', A', n', c', e', hv, h1, h2⟩ := k
  simp only [Value.agg.injEq, Array.mk.injEq, List.cons.injEq, and_true] at hv
  obtain ⟨rfl, rfl, rfl, rfl, rfl, rfl⟩ := hv
  exact h1
theorem In.hi {w : World} {x y z x' y' z' : Value} {l h : Dyadic} (k : In w (.agg #[x, y, z, x', y', z']) l h) : Dn w (.agg #[x', y', z']) h := by
  obtain ⟨b, A, n, c, e, b', A', n', c', e', hv, h1, h2⟩ := k
  simp only [Value.agg.injEq, Array.mk.injEq, List.cons.injEq, and_true] at hv
  obtain ⟨rfl, rfl, rfl, rfl, rfl, rfl⟩ := hv
  exact h2
theorem In.zero (w : World) : In w (.agg #[.bool false, .slice none 0 0, .int .i64 0, .bool false, .slice none 0 0, .int .i64 0]) 0 0 := In.mk (Dn.zero w) (Dn.zero w)

/-- At g lies an enclosure's variable. -/
structure Bx (w : World) (g : Nat) (x y z x' y' z' : Value) : Prop where
  c0 : w.cell? ⟨g, 0, none⟩ = some x
  c1 : w.cell? ⟨g, 1, none⟩ = some y
  c2 : w.cell? ⟨g, 2, none⟩ = some z
  c3 : w.cell? ⟨g, 3, none⟩ = some x'
  c4 : w.cell? ⟨g, 4, none⟩ = some y'
  c5 : w.cell? ⟨g, 5, none⟩ = some z'
theorem Bx.ext {w w' : World} {g : Nat} {x y z x' y' z' : Value} (h : Bx w g x y z x' y' z') (E : Ext w w') : Bx w' g x y z x' y' z' := by
  have hg : g < w.heap.size := World.block_lt_of_cell? w _ h.c0
  exact ⟨(E.cell hg).trans h.c0, (E.cell hg).trans h.c1, (E.cell hg).trans h.c2, (E.cell hg).trans h.c3, (E.cell hg).trans h.c4, (E.cell hg).trans h.c5⟩
theorem Bx.new (w : World) (x y z x' y' z' : Value) (t : TypeId) : Bx (w.alloc (.cells #[x, y, z, x', y', z'] t)) w.heap.size x y z x' y' z' :=
  ⟨by rw [World.cell?_alloc_new]; rfl, by rw [World.cell?_alloc_new]; rfl, by rw [World.cell?_alloc_new]; rfl, by rw [World.cell?_alloc_new]; rfl, by rw [World.cell?_alloc_new]; rfl, by rw [World.cell?_alloc_new]; rfl⟩
theorem Bx.at {w w' : World} {x y z x' y' z' : Value} {t : TypeId} {g : Nat} (E : Ext (w.alloc (.cells #[x, y, z, x', y', z'] t)) w') (hg : w.heap.size = g) : Bx w' g x y z x' y' z' := by
  subst hg; exact (Bx.new w x y z x' y' z' t).ext E

/-- At g lies a result's variable of six cells, with nothing in it yet. -/
structure Zi (w : World) (g : Nat) : Prop where
  c0 : w.cell? ⟨g, 0, none⟩ = some (.bool false)
  c1 : w.cell? ⟨g, 1, none⟩ = some (.slice none 0 0)
  c2 : w.cell? ⟨g, 2, none⟩ = some (.int .i64 0)
  c3 : w.cell? ⟨g, 3, none⟩ = some (.bool false)
  c4 : w.cell? ⟨g, 4, none⟩ = some (.slice none 0 0)
  c5 : w.cell? ⟨g, 5, none⟩ = some (.int .i64 0)
  z : ∀ j x, w.cell? ⟨g, j, none⟩ = some (.int .i64 x) → x = 0
  f : ∀ j, w.frozen? ⟨g, j, none⟩ = false
theorem Zi.new (w : World) (t : TypeId) : Zi (w.alloc (.cells #[.bool false, .slice none 0 0, .int .i64 0, .bool false, .slice none 0 0, .int .i64 0] t)) w.heap.size := by
  refine ⟨by rw [World.cell?_alloc_new]; rfl, by rw [World.cell?_alloc_new]; rfl, by rw [World.cell?_alloc_new]; rfl, by rw [World.cell?_alloc_new]; rfl, by rw [World.cell?_alloc_new]; rfl, by rw [World.cell?_alloc_new]; rfl, fun j x h => ?_, fun j => by simp⟩
  rw [World.cell?_alloc_new] at h
  match j, h with
  | 0, h => simp at h
  | 1, h => simp at h
  | 2, h => simpa using h.symm
  | 3, h => simp at h
  | 4, h => simp at h
  | 5, h => simpa using h.symm
  | j + 6, h => simp at h
theorem Zi.ext {w w' : World} {g : Nat} (h : Zi w g) (E : Ext w w') : Zi w' g := by
  have hg : g < w.heap.size := World.block_lt_of_cell? w _ h.c0
  exact ⟨(E.cell hg).trans h.c0, (E.cell hg).trans h.c1, (E.cell hg).trans h.c2, (E.cell hg).trans h.c3, (E.cell hg).trans h.c4, (E.cell hg).trans h.c5, fun j x k => h.z j x ((E.cell hg).symm.trans k), fun j => (E.frozen hg).trans (h.f j)⟩
theorem Zi.at {w w' : World} {t : TypeId} {g : Nat} (E : Ext (w.alloc (.cells #[.bool false, .slice none 0 0, .int .i64 0, .bool false, .slice none 0 0, .int .i64 0] t)) w') (hg : w.heap.size = g) : Zi w' g := by
  subst hg; exact (Zi.new w t).ext E
/-- A number's row lies in no block of noughts: so it outlives a store there. -/
theorem row_off {w w' : World} {g : Nat} {v : Value} {xs : List Int} (hz : ∀ j x, w.cell? ⟨g, j, none⟩ = some (.int .i64 x) → x = 0) (r : Row w v xs) (n : NF xs) (hs : ∀ p : Addr, p.block ≠ g → w'.cell? p = w.cell? p) (hw : w.heap.size ≤ w'.heap.size) : Row w' v xs := by
  obtain ⟨A, c, rfl, h1, h2, h3⟩ := r
  refine ⟨A, c, rfl, h1, h2, fun hl => ?_⟩
  obtain ⟨b, off, rfl, hb, hc⟩ := h3 hl
  have hne : b ≠ g := by
    rintro rfl
    have hk := hc (xs.length - 1) (by omega)
    have htop : nth xs (xs.length - 1) ≠ 0 := by
      rcases n.2 with e | e
      · subst e; simp at hl
      · exact e
    exact htop (hz _ _ hk)
  exact ⟨b, off, rfl, by omega, fun j hj => by rw [hs _ hne]; exact hc j hj⟩
theorem nat_off {w w' : World} {g : Nat} {v : Value} {m : Nat} (hz : ∀ j x, w.cell? ⟨g, j, none⟩ = some (.int .i64 x) → x = 0) (n : N w v m) (hs : ∀ p : Addr, p.block ≠ g → w'.cell? p = w.cell? p) (hw : w.heap.size ≤ w'.heap.size) : N w' v m := by
  obtain ⟨xs, r, nf, e⟩ := n
  exact ⟨xs, row_off hz r nf hs hw, nf, e⟩
theorem dn_off {w w' : World} {g : Nat} {v : Value} {d : Dyadic} (hz : ∀ j x, w.cell? ⟨g, j, none⟩ = some (.int .i64 x) → x = 0) (n : Dn w v d) (hs : ∀ p : Addr, p.block ≠ g → w'.cell? p = w.cell? p) (hw : w.heap.size ≤ w'.heap.size) : Dn w' v d := by
  obtain ⟨M, z, e, rfl, h1, h2, h3⟩ := n
  exact ⟨M, z, e, rfl, nat_off hz h1 hs hw, h2, h3⟩
def set6 (w : World) (g : Nat) (x y z x' y' z' : Value) : World :=
  (((((w.setCell ⟨g, 0, none⟩ x).setCell ⟨g, 1, none⟩ y).setCell ⟨g, 2, none⟩ z).setCell ⟨g, 3, none⟩ x').setCell ⟨g, 4, none⟩ y').setCell ⟨g, 5, none⟩ z'
theorem set6_other {w : World} {g : Nat} {x y z x' y' z' : Value} {p : Addr} (h : p.block ≠ g) : (set6 w g x y z x' y' z').cell? p = w.cell? p := by
  unfold set6
  have hne : ∀ i, (⟨g, i, none⟩ : Addr) ≠ p := by rintro i rfl; exact h rfl
  first
  | rw [World.cell?_setCell_other _ _ _ _ (hne 5), World.cell?_setCell_other _ _ _ _ (hne 4), World.cell?_setCell_other _ _ _ _ (hne 3), World.cell?_setCell_other _ _ _ _ (hne 2), World.cell?_setCell_other _ _ _ _ (hne 1), World.cell?_setCell_other _ _ _ _ (hne 0)]
  | rw [World.cell?_setCell_other _ _ _ _ (hne 5).symm, World.cell?_setCell_other _ _ _ _ (hne 4).symm, World.cell?_setCell_other _ _ _ _ (hne 3).symm, World.cell?_setCell_other _ _ _ _ (hne 2).symm, World.cell?_setCell_other _ _ _ _ (hne 1).symm, World.cell?_setCell_other _ _ _ _ (hne 0).symm]
theorem set6_size {w : World} {g : Nat} {x y z x' y' z' : Value} : (set6 w g x y z x' y' z').heap.size = w.heap.size := by simp [set6]
theorem Ext.set6 {a w : World} {g : Nat} {x y z x' y' z' : Value} (h : Ext a w) (hg : a.heap.size ≤ g) : Ext a (set6 w g x y z x' y' z') := (((((h.setCell hg _).setCell hg _).setCell hg _).setCell hg _).setCell hg _).setCell hg _
theorem set6_same {w : World} {g : Nat} {x y z x' y' z' : Value} {a b c a' b' c' : Value} (h : Bx w g a b c a' b' c') : Bx (set6 w g x y z x' y' z') g x y z x' y' z' := by
  unfold set6
  have o : ∀ (W : World) (i j : Nat) (v : Value), i ≠ j → (W.setCell ⟨g, i, none⟩ v).cell? ⟨g, j, none⟩ = W.cell? ⟨g, j, none⟩ := fun W i j v hij => World.cell?_setCell_other _ _ _ _ (fun h => hij (by injection h))
  refine ⟨?_, ?_, ?_, ?_, ?_, ?_⟩
  · rw [o _ 5 0 _ (by omega), o _ 4 0 _ (by omega), o _ 3 0 _ (by omega), o _ 2 0 _ (by omega), o _ 1 0 _ (by omega)]
    exact World.cell?_setCell_same _ _ _ h.c0
  · rw [o _ 5 1 _ (by omega), o _ 4 1 _ (by omega), o _ 3 1 _ (by omega), o _ 2 1 _ (by omega)]
    exact World.cell?_setCell_same _ _ _ (by rw [o _ 0 1 _ (by omega)]; exact h.c1)
  · rw [o _ 5 2 _ (by omega), o _ 4 2 _ (by omega), o _ 3 2 _ (by omega)]
    exact World.cell?_setCell_same _ _ _ (by rw [o _ 1 2 _ (by omega), o _ 0 2 _ (by omega)]; exact h.c2)
  · rw [o _ 5 3 _ (by omega), o _ 4 3 _ (by omega)]
    exact World.cell?_setCell_same _ _ _ (by rw [o _ 2 3 _ (by omega), o _ 1 3 _ (by omega), o _ 0 3 _ (by omega)]; exact h.c3)
  · rw [o _ 5 4 _ (by omega)]
    exact World.cell?_setCell_same _ _ _ (by rw [o _ 3 4 _ (by omega), o _ 2 4 _ (by omega), o _ 1 4 _ (by omega), o _ 0 4 _ (by omega)]; exact h.c4)
  · exact World.cell?_setCell_same _ _ _ (by rw [o _ 4 5 _ (by omega), o _ 3 5 _ (by omega), o _ 2 5 _ (by omega), o _ 1 5 _ (by omega), o _ 0 5 _ (by omega)]; exact h.c5)
theorem Zi.bx {w : World} {g : Nat} (h : Zi w g) : Bx w g (.bool false) (.slice none 0 0) (.int .i64 0) (.bool false) (.slice none 0 0) (.int .i64 0) := ⟨h.c0, h.c1, h.c2, h.c3, h.c4, h.c5⟩
/-- A result is laid in its variable. -/
theorem Zi.done {w w2 : World} {g : Nat} {x y z x' y' z' : Value} {l u : Dyadic} (h : Zi w2 g) (n : Dn w2 (.agg #[x, y, z]) l) (m : Dn w2 (.agg #[x', y', z']) u) (E : Ext w w2) (hg : w.heap.size ≤ g) :
    let W := ((((((w2.setCell ⟨g, 0, none⟩ x).setCell ⟨g, 1, none⟩ y).setCell ⟨g, 2, none⟩ z).setCell ⟨g, 3, none⟩ x').setCell ⟨g, 4, none⟩ y').setCell ⟨g, 5, none⟩ z')
    W.cell? ⟨g, 0, none⟩ = some x ∧ W.cell? ⟨g, 1, none⟩ = some y ∧ W.cell? ⟨g, 2, none⟩ = some z ∧ W.cell? ⟨g, 3, none⟩ = some x' ∧ W.cell? ⟨g, 4, none⟩ = some y' ∧ W.cell? ⟨g, 5, none⟩ = some z' ∧ RetI w l u (.returned (.agg #[x, y, z, x', y', z'])) W := by
  have B := set6_same (x := x) (y := y) (z := z) (x' := x') (y' := y') (z' := z') h.bx
  exact ⟨B.c0, B.c1, B.c2, B.c3, B.c4, B.c5, _, rfl, In.mk (dn_off h.z n (fun p hp => set6_other hp) (Nat.le_of_eq set6_size.symm)) (dn_off h.z m (fun p hp => set6_other hp) (Nat.le_of_eq set6_size.symm)), E.set6 hg⟩
theorem Zi.keep {w2 : World} {g g' : Nat} {x y z x' y' z' a b c a' b' c' : Value} (B : Bx w2 g' a b c a' b' c') (hg : g' ≠ g) : Bx ((((((w2.setCell ⟨g, 0, none⟩ x).setCell ⟨g, 1, none⟩ y).setCell ⟨g, 2, none⟩ z).setCell ⟨g, 3, none⟩ x').setCell ⟨g, 4, none⟩ y').setCell ⟨g, 5, none⟩ z') g' a b c a' b' c' :=
  ⟨(set6_other hg).trans B.c0, (set6_other hg).trans B.c1, (set6_other hg).trans B.c2, (set6_other hg).trans B.c3, (set6_other hg).trans B.c4, (set6_other hg).trans B.c5⟩

end Go.Proofs.YtomdbmjfehoodaaGreatDoor

/- Walks of package ivl: what is made of ends. -/
namespace Go.Proofs.YtomdbmjfehoodaaGreatDoor
open Go.RowKit
theorem bx6 {w : World} {g : Nat} {x y z x' y' z' : Value} (h : Bx w g x y z x' y' z') : w.cell? ⟨g, 0, none⟩ = some x ∧ w.cell? ⟨g, 1, none⟩ = some y ∧ w.cell? ⟨g, 2, none⟩ = some z ∧ w.cell? ⟨g, 3, none⟩ = some x' ∧ w.cell? ⟨g, 4, none⟩ = some y' ∧ w.cell? ⟨g, 5, none⟩ = some z' := ⟨h.c0, h.c1, h.c2, h.c3, h.c4, h.c5⟩
theorem keep63 {w : World} {g g' : Nat} {x y z x' y' z' a b c : Value} (B : Box w g' a b c) (hg : g' ≠ g) : Box ((((((w.setCell ⟨g, 0, none⟩ x).setCell ⟨g, 1, none⟩ y).setCell ⟨g, 2, none⟩ z).setCell ⟨g, 3, none⟩ x').setCell ⟨g, 4, none⟩ y').setCell ⟨g, 5, none⟩ z') g' a b c := ⟨(set6_other hg).trans B.c0, (set6_other hg).trans B.c1, (set6_other hg).trans B.c2⟩
theorem keep36 {w : World} {g g' : Nat} {x y z x' y' z' a b c : Value} (B : Bx w g' x y z x' y' z') (hg : g' ≠ g) : Bx (((w.setCell ⟨g, 0, none⟩ a).setCell ⟨g, 1, none⟩ b).setCell ⟨g, 2, none⟩ c) g' x y z x' y' z' :=
  ⟨(set3_other hg).trans B.c0, (set3_other hg).trans B.c1, (set3_other hg).trans B.c2, (set3_other hg).trans B.c3, (set3_other hg).trans B.c4, (set3_other hg).trans B.c5⟩
set_option maxRecDepth 4000 in
set_option maxHeartbeats 1000000 in
theorem iadd_any (w : World) (va vb : Value) (l h l' h' : Dyadic) (P Q : Nat) (ha : In w va l h) (hb : In w vb l' h') (r1 : Rg P Q l) (r2 : Rg P Q h) (r3 : Rg P Q l') (r4 : Rg P Q h') (hp : P + Q ≤ 2400) (T : Tb w) :
    Calls Tryz.prog 73 #[va, vb] w (RetI w (l + l') (h + h')) := by
  obtain ⟨ba, Aa, na, ca, ea, ba', Aa', na', ca', ea', rfl, a1, a2⟩ := ha
  obtain ⟨bb, Ab, nb, cb, eb, bb', Ab', nb', cb', eb', rfl, b1, b2⟩ := hb
  go_enter Tryz.func73, Tryz.ntmps73
  go_wp2
  generalize hW0 : (((w.alloc (.cells #[.bool ba, .slice Aa na ca, .int .i64 ea, .bool ba', .slice Aa' na' ca', .int .i64 ea'] 33)).alloc (.cells #[.bool bb, .slice Ab nb cb, .int .i64 eb, .bool bb', .slice Ab' nb' cb', .int .i64 eb'] 33)).alloc (.cells #[.bool false, .slice none 0 0, .int .i64 0, .bool false, .slice none 0 0, .int .i64 0] 33)) = W0
  have Ba : Bx W0 (w.heap.size) (.bool ba) (.slice Aa na ca) (.int .i64 ea) (.bool ba') (.slice Aa' na' ca') (.int .i64 ea') := by rw [← hW0]; exact Bx.at (((Ext.refl _).alloc _).alloc _) (by simp)
  have Bb : Bx W0 (w.heap.size + 1) (.bool bb) (.slice Ab nb cb) (.int .i64 eb) (.bool bb') (.slice Ab' nb' cb') (.int .i64 eb') := by rw [← hW0]; exact Bx.at ((Ext.refl _).alloc _) (by simp)
  have Z0 : Zi W0 (w.heap.size + 1 + 1) := by rw [← hW0]; exact Zi.at (Ext.refl _) (by simp)
  have E0 : Ext w W0 := by rw [← hW0]; exact ((((Ext.refl w).alloc _).alloc _).alloc _)
  obtain ⟨Ba_0, Ba_1, Ba_2, Ba_3, Ba_4, Ba_5⟩ := id Ba
  have NBa : (w.heap.size : Nat) ≠ w.heap.size + 1 + 1 := by omega
  obtain ⟨Bb_0, Bb_1, Bb_2, Bb_3, Bb_4, Bb_5⟩ := id Bb
  have NBb : (w.heap.size + 1 : Nat) ≠ w.heap.size + 1 + 1 := by omega
  replace a1 := a1.ext E0
  replace a2 := a2.ext E0
  replace b1 := b1.ext E0
  replace b2 := b2.ext E0
  replace T := T.ext E0
  clear hW0
  go_region_held3 (fun w' => (w'.cell? ⟨w.heap.size, 0, none⟩ = some (.bool ba) ∧ w'.cell? ⟨w.heap.size, 1, none⟩ = some (.slice Aa na ca) ∧ w'.cell? ⟨w.heap.size, 2, none⟩ = some (.int .i64 ea) ∧ w'.cell? ⟨w.heap.size, 3, none⟩ = some (.bool ba') ∧ w'.cell? ⟨w.heap.size, 4, none⟩ = some (.slice Aa' na' ca') ∧ w'.cell? ⟨w.heap.size, 5, none⟩ = some (.int .i64 ea')) ∧ (w'.cell? ⟨w.heap.size + 1, 0, none⟩ = some (.bool bb) ∧ w'.cell? ⟨w.heap.size + 1, 1, none⟩ = some (.slice Ab nb cb) ∧ w'.cell? ⟨w.heap.size + 1, 2, none⟩ = some (.int .i64 eb) ∧ w'.cell? ⟨w.heap.size + 1, 3, none⟩ = some (.bool bb') ∧ w'.cell? ⟨w.heap.size + 1, 4, none⟩ = some (.slice Ab' nb' cb') ∧ w'.cell? ⟨w.heap.size + 1, 5, none⟩ = some (.int .i64 eb'))) (first | (with_reducible exact ⟨bx6 (Ba.ext F2), bx6 (Bb.ext F2)⟩) | (with_reducible exact ⟨bx6 (Ba.ext F1), bx6 (Bb.ext F1)⟩) | (with_reducible exact ⟨bx6 (Zi.keep (Ba.ext F2) NBa), bx6 (Zi.keep (Bb.ext F2) NBb)⟩) | go_keep) (first | ((have hF2 := F1); (go_at_call 82); (refine (addD_any _ _ _ h h' P Q (a2.ext F1) (b2.ext F1) r2 r4 hp (T.ext F1)).mono ?_); (rintro _ u2 ⟨v2, rfl, m2, e2⟩); (have F2 : Ext W0 u2 := F1.trans e2); (replace m1 := m1.ext e2); (obtain ⟨y1, Y1, p1, q1, x1, rfl⟩ := m1.form); (obtain ⟨y2, Y2, p2, q2, x2, rfl⟩ := m2.form); (have Z1 := Z0.ext F2); (have g0 := Z1.c0); (have f0 := Z1.f 0); (have g1 := Z1.c1); (have f1 := Z1.f 1); (have g2 := Z1.c2); (have f2 := Z1.f 2); (have g3 := Z1.c3); (have f3 := Z1.f 3); (have g4 := Z1.c4); (have f4 := Z1.f 4); (have g5 := Z1.c5); (have f5 := Z1.f 5)) | ((go_at_call 82); (refine (addD_any _ _ _ l l' P Q (a1.ext (Ext.refl W0).drew) (b1.ext (Ext.refl W0).drew) r1 r3 hp (T.ext (Ext.refl W0).drew)).mono ?_); (rintro _ u1 ⟨v1, rfl, m1, e1⟩); (have F1 : Ext W0 u1 := (Ext.refl W0).drew.trans e1)))
  go_wp2
  obtain ⟨k0, k1, k2, k3, k4, k5, hD⟩ := Z1.done m1 m2 (E0.trans F2) (by omega)
  exact bodyPost_ret (by simp [results, Tryz.results73, go_sem, k0, k1, k2, k3, k4, k5]) rfl hD
set_option maxRecDepth 4000 in
set_option maxHeartbeats 1000000 in
theorem iflip_any (w : World) (va : Value) (l h : Dyadic) (P Q : Nat) (ha : In w va l h) (r1 : Rg P Q l) (r2 : Rg P Q h) (hp : P + Q ≤ 9600) (T : Tb w) :
    Calls Tryz.prog 77 #[va] w (RetI w (-h) (-l)) := by
  obtain ⟨ba, Aa, na, ca, ea, ba', Aa', na', ca', ea', rfl, a1, a2⟩ := ha
  go_enter Tryz.func77, Tryz.ntmps77
  go_wp2
  generalize hW0 : ((w.alloc (.cells #[.bool ba, .slice Aa na ca, .int .i64 ea, .bool ba', .slice Aa' na' ca', .int .i64 ea'] 33)).alloc (.cells #[.bool false, .slice none 0 0, .int .i64 0, .bool false, .slice none 0 0, .int .i64 0] 33)) = W0
  have Ba : Bx W0 (w.heap.size) (.bool ba) (.slice Aa na ca) (.int .i64 ea) (.bool ba') (.slice Aa' na' ca') (.int .i64 ea') := by rw [← hW0]; exact Bx.at ((Ext.refl _).alloc _) (by simp)
  have Z0 : Zi W0 (w.heap.size + 1) := by rw [← hW0]; exact Zi.at (Ext.refl _) (by simp)
  have E0 : Ext w W0 := by rw [← hW0]; exact (((Ext.refl w).alloc _).alloc _)
  obtain ⟨Ba_0, Ba_1, Ba_2, Ba_3, Ba_4, Ba_5⟩ := id Ba
  have NBa : (w.heap.size : Nat) ≠ w.heap.size + 1 := by omega
  replace a1 := a1.ext E0
  replace a2 := a2.ext E0
  replace T := T.ext E0
  clear hW0
  go_region_held3 (fun w' => (w'.cell? ⟨w.heap.size, 0, none⟩ = some (.bool ba) ∧ w'.cell? ⟨w.heap.size, 1, none⟩ = some (.slice Aa na ca) ∧ w'.cell? ⟨w.heap.size, 2, none⟩ = some (.int .i64 ea) ∧ w'.cell? ⟨w.heap.size, 3, none⟩ = some (.bool ba') ∧ w'.cell? ⟨w.heap.size, 4, none⟩ = some (.slice Aa' na' ca') ∧ w'.cell? ⟨w.heap.size, 5, none⟩ = some (.int .i64 ea'))) (first | (with_reducible exact bx6 (Ba.ext F2)) | (with_reducible exact bx6 (Ba.ext F1)) | (with_reducible exact bx6 (Zi.keep (Ba.ext F2) NBa)) | go_keep) (first | ((have hF2 := F1); (go_at_call 68); (refine (flipD_any _ _ l P Q (a1.ext F1) r1 hp (T.ext F1)).mono ?_); (rintro _ u2 ⟨v2, rfl, m2, e2⟩); (have F2 : Ext W0 u2 := F1.trans e2); (replace m1 := m1.ext e2); (obtain ⟨y1, Y1, p1, q1, x1, rfl⟩ := m1.form); (obtain ⟨y2, Y2, p2, q2, x2, rfl⟩ := m2.form); (have Z1 := Z0.ext F2); (have g0 := Z1.c0); (have f0 := Z1.f 0); (have g1 := Z1.c1); (have f1 := Z1.f 1); (have g2 := Z1.c2); (have f2 := Z1.f 2); (have g3 := Z1.c3); (have f3 := Z1.f 3); (have g4 := Z1.c4); (have f4 := Z1.f 4); (have g5 := Z1.c5); (have f5 := Z1.f 5)) | ((go_at_call 68); (refine (flipD_any _ _ h P Q (a2.ext (Ext.refl W0).drew) r2 hp (T.ext (Ext.refl W0).drew)).mono ?_); (rintro _ u1 ⟨v1, rfl, m1, e1⟩); (have F1 : Ext W0 u1 := (Ext.refl W0).drew.trans e1)))
  go_wp2
  obtain ⟨k0, k1, k2, k3, k4, k5, hD⟩ := Z1.done m1 m2 (E0.trans F2) (by omega)
  exact bodyPost_ret (by simp [results, Tryz.results77, go_sem, k0, k1, k2, k3, k4, k5]) rfl hD
set_option maxRecDepth 4000 in
set_option maxHeartbeats 1000000 in
theorem ishift_any (w : World) (va : Value) (l h : Dyadic) (j : Int) (P Q : Nat) (ha : In w va l h) (r1 : Rg P Q l) (r2 : Rg P Q h) (hp : P + Q ≤ 9600) (hj : -400000 ≤ j ∧ j ≤ 400000) (T : Tb w) :
    Calls Tryz.prog 72 #[va, .int .i64 j] w (RetI w (l * dy 1 j) (h * dy 1 j)) := by
  obtain ⟨ba, Aa, na, ca, ea, ba', Aa', na', ca', ea', rfl, a1, a2⟩ := ha
  go_enter Tryz.func72, Tryz.ntmps72
  go_wp2
  generalize hW0 : ((w.alloc (.cells #[.bool ba, .slice Aa na ca, .int .i64 ea, .bool ba', .slice Aa' na' ca', .int .i64 ea'] 33)).alloc (.cells #[.bool false, .slice none 0 0, .int .i64 0, .bool false, .slice none 0 0, .int .i64 0] 33)) = W0
  have Ba : Bx W0 (w.heap.size) (.bool ba) (.slice Aa na ca) (.int .i64 ea) (.bool ba') (.slice Aa' na' ca') (.int .i64 ea') := by rw [← hW0]; exact Bx.at ((Ext.refl _).alloc _) (by simp)
  have Z0 : Zi W0 (w.heap.size + 1) := by rw [← hW0]; exact Zi.at (Ext.refl _) (by simp)
  have E0 : Ext w W0 := by rw [← hW0]; exact (((Ext.refl w).alloc _).alloc _)
  obtain ⟨Ba_0, Ba_1, Ba_2, Ba_3, Ba_4, Ba_5⟩ := id Ba
  have NBa : (w.heap.size : Nat) ≠ w.heap.size + 1 := by omega
  replace a1 := a1.ext E0
  replace a2 := a2.ext E0
  replace T := T.ext E0
  clear hW0
  go_region_held3 (fun w' => (w'.cell? ⟨w.heap.size, 0, none⟩ = some (.bool ba) ∧ w'.cell? ⟨w.heap.size, 1, none⟩ = some (.slice Aa na ca) ∧ w'.cell? ⟨w.heap.size, 2, none⟩ = some (.int .i64 ea) ∧ w'.cell? ⟨w.heap.size, 3, none⟩ = some (.bool ba') ∧ w'.cell? ⟨w.heap.size, 4, none⟩ = some (.slice Aa' na' ca') ∧ w'.cell? ⟨w.heap.size, 5, none⟩ = some (.int .i64 ea'))) (first | (with_reducible exact bx6 (Ba.ext F2)) | (with_reducible exact bx6 (Ba.ext F1)) | (with_reducible exact bx6 (Zi.keep (Ba.ext F2) NBa)) | go_keep) (first | ((have hF2 := F1); (go_at_call 47); (refine (shiftN_any _ _ h (h * dy 1 j) j P Q rfl (a2.ext F1) r2 hp hj (T.ext F1)).mono ?_); (rintro _ u2 ⟨v2, rfl, m2, e2⟩); (have F2 : Ext W0 u2 := F1.trans e2); (replace m1 := m1.ext e2); (obtain ⟨y1, Y1, p1, q1, x1, rfl⟩ := m1.form); (obtain ⟨y2, Y2, p2, q2, x2, rfl⟩ := m2.form); (have Z1 := Z0.ext F2); (have g0 := Z1.c0); (have f0 := Z1.f 0); (have g1 := Z1.c1); (have f1 := Z1.f 1); (have g2 := Z1.c2); (have f2 := Z1.f 2); (have g3 := Z1.c3); (have f3 := Z1.f 3); (have g4 := Z1.c4); (have f4 := Z1.f 4); (have g5 := Z1.c5); (have f5 := Z1.f 5)) | ((go_at_call 47); (refine (shiftN_any _ _ l (l * dy 1 j) j P Q rfl (a1.ext (Ext.refl W0).drew) r1 hp hj (T.ext (Ext.refl W0).drew)).mono ?_); (rintro _ u1 ⟨v1, rfl, m1, e1⟩); (have F1 : Ext W0 u1 := (Ext.refl W0).drew.trans e1)))
  go_wp2
  obtain ⟨k0, k1, k2, k3, k4, k5, hD⟩ := Z1.done m1 m2 (E0.trans F2) (by omega)
  exact bodyPost_ret (by simp [results, Tryz.results72, go_sem, k0, k1, k2, k3, k4, k5]) rfl hD
theorem shift_none (x : Dyadic) : x * dy 1 0 = x := by rw [dy_one]; grind
set_option maxRecDepth 4000 in
set_option maxHeartbeats 1000000 in
theorem ipoint_any (w : World) (va : Value) (x : Dyadic) (P Q : Nat) (ha : Dn w va x) (r1 : Rg P Q x) (hp : P + Q ≤ 9600) (T : Tb w) :
    Calls Tryz.prog 69 #[va] w (RetI w x x) := by
  obtain ⟨ba, Aa, na, ca, ea, rfl⟩ := ha.form
  go_enter Tryz.func69, Tryz.ntmps69
  go_wp2
  generalize hW0 : ((w.alloc (.cells #[.bool ba, .slice Aa na ca, .int .i64 ea] 26)).alloc (.cells #[.bool false, .slice none 0 0, .int .i64 0, .bool false, .slice none 0 0, .int .i64 0] 33)) = W0
  have Ba : Box W0 (w.heap.size) (.bool ba) (.slice Aa na ca) (.int .i64 ea) := by rw [← hW0]; exact Box.at ((Ext.refl _).alloc _) (by simp)
  have Z0 : Zi W0 (w.heap.size + 1) := by rw [← hW0]; exact Zi.at (Ext.refl _) (by simp)
  have E0 : Ext w W0 := by rw [← hW0]; exact (((Ext.refl w).alloc _).alloc _)
  obtain ⟨Ba_0, Ba_1, Ba_2⟩ := id Ba
  have NBa : (w.heap.size : Nat) ≠ w.heap.size + 1 := by omega
  replace ha := ha.ext E0
  replace T := T.ext E0
  clear hW0
  go_region_held3 (fun w' => (w'.cell? ⟨w.heap.size, 0, none⟩ = some (.bool ba) ∧ w'.cell? ⟨w.heap.size, 1, none⟩ = some (.slice Aa na ca) ∧ w'.cell? ⟨w.heap.size, 2, none⟩ = some (.int .i64 ea))) (first | (with_reducible exact box3 (Ba.ext F2)) | (with_reducible exact box3 (Ba.ext F1)) | (with_reducible exact box3 (keep63 (Ba.ext F2) NBa)) | go_keep) (first | ((have hF2 := F1); (go_at_call 47); (refine (shiftN_any _ _ x x 0 P Q (shift_none x) (ha.ext F1) r1 hp (by omega) (T.ext F1)).mono ?_); (rintro _ u2 ⟨v2, rfl, m2, e2⟩); (have F2 : Ext W0 u2 := F1.trans e2); (replace m1 := m1.ext e2); (obtain ⟨y1, Y1, p1, q1, x1, rfl⟩ := m1.form); (obtain ⟨y2, Y2, p2, q2, x2, rfl⟩ := m2.form); (have Z1 := Z0.ext F2); (have g0 := Z1.c0); (have f0 := Z1.f 0); (have g1 := Z1.c1); (have f1 := Z1.f 1); (have g2 := Z1.c2); (have f2 := Z1.f 2); (have g3 := Z1.c3); (have f3 := Z1.f 3); (have g4 := Z1.c4); (have f4 := Z1.f 4); (have g5 := Z1.c5); (have f5 := Z1.f 5)) | ((go_at_call 47); (refine (shiftN_any _ _ x x 0 P Q (shift_none x) (ha.ext (Ext.refl W0).drew) r1 hp (by omega) (T.ext (Ext.refl W0).drew)).mono ?_); (rintro _ u1 ⟨v1, rfl, m1, e1⟩); (have F1 : Ext W0 u1 := (Ext.refl W0).drew.trans e1)))
  go_wp2
  obtain ⟨k0, k1, k2, k3, k4, k5, hD⟩ := Z1.done m1 m2 (E0.trans F2) (by omega)
  exact bodyPost_ret (by simp [results, Tryz.results69, go_sem, k0, k1, k2, k3, k4, k5]) rfl hD
set_option maxRecDepth 4000 in
set_option maxHeartbeats 1000000 in
theorem iwide_any (w : World) (va : Value) (l h : Dyadic) (P Q : Nat) (ha : In w va l h) (r1 : Rg P Q l) (r2 : Rg P Q h) (hp : P + Q ≤ 2400) (T : Tb w) :
    Calls Tryz.prog 46 #[va] w (RetD w (h + -l)) := by
  obtain ⟨ba, Aa, na, ca, ea, ba', Aa', na', ca', ea', rfl, a1, a2⟩ := ha
  go_enter Tryz.func46, Tryz.ntmps46
  go_wp2
  generalize hW0 : ((w.alloc (.cells #[.bool ba, .slice Aa na ca, .int .i64 ea, .bool ba', .slice Aa' na' ca', .int .i64 ea'] 33)).alloc (.cells #[.bool false, .slice none 0 0, .int .i64 0] 26)) = W0
  have Ba : Bx W0 (w.heap.size) (.bool ba) (.slice Aa na ca) (.int .i64 ea) (.bool ba') (.slice Aa' na' ca') (.int .i64 ea') := by rw [← hW0]; exact Bx.at ((Ext.refl _).alloc _) (by simp)
  have Z0 : Zd W0 (w.heap.size + 1) := by rw [← hW0]; exact Zd.at (Ext.refl _) (by simp)
  have E0 : Ext w W0 := by rw [← hW0]; exact (((Ext.refl w).alloc _).alloc _)
  obtain ⟨Ba_0, Ba_1, Ba_2, Ba_3, Ba_4, Ba_5⟩ := id Ba
  have NBa : (w.heap.size : Nat) ≠ w.heap.size + 1 := by omega
  replace a1 := a1.ext E0
  replace a2 := a2.ext E0
  replace T := T.ext E0
  clear hW0
  go_region_held3 (fun w' => (w'.cell? ⟨w.heap.size, 0, none⟩ = some (.bool ba) ∧ w'.cell? ⟨w.heap.size, 1, none⟩ = some (.slice Aa na ca) ∧ w'.cell? ⟨w.heap.size, 2, none⟩ = some (.int .i64 ea) ∧ w'.cell? ⟨w.heap.size, 3, none⟩ = some (.bool ba') ∧ w'.cell? ⟨w.heap.size, 4, none⟩ = some (.slice Aa' na' ca') ∧ w'.cell? ⟨w.heap.size, 5, none⟩ = some (.int .i64 ea'))) (first | (with_reducible exact bx6 (Ba.ext F2)) | (with_reducible exact bx6 (Ba.ext F1)) | (with_reducible exact bx6 (keep36 (Ba.ext F2) NBa)) | go_keep) (first | ((have hF2 := F1); (go_at_call 82); (refine (addD_any _ _ _ h (-l) P Q (a2.ext F1) m1 r2 r1.neg hp (T.ext F1)).mono ?_); (rintro _ u2 ⟨v2, rfl, m2, e2⟩); (have F2 : Ext W0 u2 := F1.trans e2); (replace m1 := m1.ext e2); (obtain ⟨y2, Y2, p2, q2, x2, rfl⟩ := m2.form); (have Z1 := Z0.ext F2); (have g0 := Z1.c0); (have f0 := Z1.f 0); (have g1 := Z1.c1); (have f1 := Z1.f 1); (have g2 := Z1.c2); (have f2 := Z1.f 2)) | ((go_at_call 68); (refine (flipD_any _ _ l P Q (a1.ext (Ext.refl W0).drew) r1 (by omega) (T.ext (Ext.refl W0).drew)).mono ?_); (rintro _ u1 ⟨v1, rfl, m1, e1⟩); (have F1 : Ext W0 u1 := (Ext.refl W0).drew.trans e1)))
  go_wp2
  obtain ⟨k0, k1, k2, hD⟩ := Z1.done m2 (E0.trans F2) (by omega)
  exact bodyPost_ret (by simp [results, Tryz.results46, go_sem, k0, k1, k2]) rfl hD

end Go.Proofs.YtomdbmjfehoodaaGreatDoor

/- Walks of package ivl: Has, Inside, Right, Cut. -/
namespace Go.Proofs.YtomdbmjfehoodaaGreatDoor
open Go.RowKit
theorem cmp_le (x y : Dyadic) : cmpD x y ≤ 0 ↔ x ≤ y := by
  unfold cmpD
  split
  · rename_i h; exact ⟨fun _ => by grind, fun _ => by omega⟩
  · split
    · rename_i h; exact ⟨fun _ => by grind, fun _ => by omega⟩
    · exact ⟨fun h => by omega, fun h => by grind⟩
theorem cmp_lt (x y : Dyadic) : cmpD x y < 0 ↔ x < y := by
  unfold cmpD
  split
  · rename_i h; exact ⟨fun _ => h, fun _ => by omega⟩
  · split
    · rename_i h; exact ⟨fun _ => by omega, fun _ => by grind⟩
    · exact ⟨fun h => by omega, fun h => by grind⟩
def hasB (l h x : Dyadic) : Bool := decide (l ≤ x) && decide (x ≤ h)
open Classical in
/-- The greatest number of at most k bits that is at most x, and its like. -/
noncomputable def clo (k : Nat) (x : Dyadic) : Dyadic := if h : ∃ c, Clo k x c then h.choose else 0
open Classical in
noncomputable def chi (k : Nat) (x : Dyadic) : Dyadic := if h : ∃ c, Chi k x c then h.choose else 0
open Classical in
noncomputable def rlo (k : Nat) (x : Dyadic) : Dyadic := if h : ∃ c, Rlo k x c then h.choose else 0
open Classical in
noncomputable def rhi (k : Nat) (x : Dyadic) : Dyadic := if h : ∃ c, Rhi k x c then h.choose else 0
theorem Clo.is {k : Nat} {x c : Dyadic} (h : Clo k x c) : clo k x = c := by
  have hx : ∃ c, Clo k x c := ⟨c, h⟩
  unfold clo; rw [dif_pos hx]
  have g := hx.choose_spec
  have := h.mono g (Std.le_refl x); have := g.mono h (Std.le_refl x); grind
theorem Chi.is {k : Nat} {x c : Dyadic} (h : Chi k x c) : chi k x = c := by
  have hx : ∃ c, Chi k x c := ⟨c, h⟩
  unfold chi; rw [dif_pos hx]
  have g := hx.choose_spec
  have := h.mono g (Std.le_refl x); have := g.mono h (Std.le_refl x); grind
theorem Rlo.is {k : Nat} {x c : Dyadic} (h : Rlo k x c) : rlo k x = c := by
  have hx : ∃ c, Rlo k x c := ⟨c, h⟩
  unfold rlo; rw [dif_pos hx]; exact (h.uniq hx.choose_spec).symm
theorem Rhi.is {k : Nat} {x c : Dyadic} (h : Rhi k x c) : rhi k x = c := by
  have hx : ∃ c, Rhi k x c := ⟨c, h⟩
  unfold rhi; rw [dif_pos hx]; exact (h.uniq hx.choose_spec).symm
theorem dn_canon {w : World} {v : Value} {d : Dyadic} (h : Dn w v d) : ∃ z e, d = dy z e ∧ Canon z e := by
  obtain ⟨M, z, e, _, _, hc, hd⟩ := h
  exact ⟨z, e, hd, hc⟩
theorem clo_is {k : Nat} {z e : Int} (hc : Canon z e) (hk : 1 ≤ k) : clo k (dy z e) = cutD z e k false := (cut_spec' hc hk).1.is
theorem chi_is {k : Nat} {z e : Int} (hc : Canon z e) (hk : 1 ≤ k) : chi k (dy z e) = cutD z e k true := (cut_spec' hc hk).2.is
theorem canon_of (x : Dyadic) : ∃ z e, x = dy z e ∧ Canon z e := by
  cases x with
  | zero => exact ⟨0, 0, (dy_zero 0).symm, ⟨.inl ⟨rfl, rfl⟩⟩⟩
  | ofOdd n k hn => exact ⟨n, -k, by rw [dy_odd hn, Int.neg_neg], ⟨.inr hn⟩⟩
theorem clo_spec {k : Nat} (x : Dyadic) (hk : 1 ≤ k) : Clo k x (clo k x) := by
  obtain ⟨z, e, rfl, hc⟩ := canon_of x
  rw [clo_is hc hk]; exact (cut_spec' hc hk).1
theorem chi_spec {k : Nat} (x : Dyadic) (hk : 1 ≤ k) : Chi k x (chi k x) := by
  obtain ⟨z, e, rfl, hc⟩ := canon_of x
  rw [chi_is hc hk]; exact (cut_spec' hc hk).2
theorem cut_rg {P Q k : Nat} {z e : Int} {up : Bool} (hc : Canon z e) (r : Rg P Q (dy z e)) (hk : 1 ≤ k) : Rg P (Q + 1) (cutD z e k up) := by
  by_cases hb : bl z.natAbs ≤ k
  · rw [cut_same hb]; exact r.mono (by omega) (by omega)
  · obtain ⟨h1, h2, h3⟩ := r.canon hc
    obtain ⟨X, hX, hX1, hX2⟩ := r.out
    rw [dy_down z e P (by omega)] at hX
    have hX3 := dy_inj hX
    obtain ⟨s, hs⟩ : ∃ s, (e + P).toNat = s := ⟨_, rfl⟩
    rw [hs] at hX3
    unfold cutD
    rw [if_neg hb]
    obtain ⟨j, hj⟩ : ∃ j, bl z.natAbs - k = j := ⟨_, rfl⟩
    rw [hj]
    obtain ⟨u, hu⟩ : ∃ u : Nat, (if up = decide (z < 0) then 0 else 1) = u := ⟨_, rfl⟩
    have hu1 : u ≤ 1 := by rw [← hu]; split <;> omega
    rw [hu]
    have hz0 : z.natAbs ≠ 0 := by intro h0; apply hb; rw [h0, bl_zero]; omega
    have hp : 2 ^ j ≤ z.natAbs := Nat.le_trans (Nat.pow_le_pow_right (by omega) (show j ≤ bl z.natAbs - 1 by omega)) (bl_le hz0)
    have hq : (z.natAbs / 2 ^ j + u) * 2 ^ j ≤ 2 * z.natAbs := by
      have := Nat.div_mul_le_self z.natAbs (2 ^ j)
      have h4 : u * 2 ^ j ≤ 1 * 2 ^ j := Nat.mul_le_mul_right _ hu1
      rw [Nat.add_mul]; omega
    generalize z.natAbs / 2 ^ j + u = q at hq
    refine ⟨sg (decide (z < 0)) q * 2 ^ (j + s), ?_, ?_⟩
    · rw [dy_down _ _ P (by omega)]
      congr 2
      congr 1
      omega
    · have h5 : (q * 2 ^ (j + s) : Nat) ≤ 2 * (z.natAbs * 2 ^ s) := by
        rw [Nat.pow_add, ← Nat.mul_assoc, ← Nat.mul_assoc]
        exact Nat.mul_le_mul_right _ hq
      have h6 : (z.natAbs * 2 ^ s : Nat) = X.natAbs := by rw [← hX3, Int.natAbs_mul, Int.natAbs_pow]; rfl
      have e1 : (2 : Int) ^ (P + (Q + 1)) = 2 * 2 ^ (P + Q) := by rw [← Nat.add_assoc, Int.pow_succ, Int.mul_comm]
      have e2 : ((q * 2 ^ (j + s) : Nat) : Int) = (q : Int) * 2 ^ (j + s) := by rw [Int.natCast_mul, Int.natCast_pow]; rfl
      rw [h6] at h5
      rw [e1]
      unfold sg
      split
      · rw [Int.neg_mul, ← e2]; omega
      · rw [← e2]; omega
theorem clo_rg {P Q k : Nat} {x : Dyadic} (r : Rg P Q x) (hk : 1 ≤ k) : Rg P (Q + 1) (clo k x) := by
  obtain ⟨z, e, rfl, hc⟩ := canon_of x
  rw [clo_is hc hk]; exact cut_rg hc r hk
theorem chi_rg {P Q k : Nat} {x : Dyadic} (r : Rg P Q x) (hk : 1 ≤ k) : Rg P (Q + 1) (chi k x) := by
  obtain ⟨z, e, rfl, hc⟩ := canon_of x
  rw [chi_is hc hk]; exact cut_rg hc r hk
end Go.Proofs.YtomdbmjfehoodaaGreatDoor

