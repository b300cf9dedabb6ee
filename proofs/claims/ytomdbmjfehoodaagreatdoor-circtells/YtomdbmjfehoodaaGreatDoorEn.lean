/- Plain mathematics: enclosures of real numbers by dyadic numbers, and how wide they are. No program is named here. -/
import Derived.Test.YtomdbmjfehoodaaGreatDoorMP
import Derived.Test.YtomdbmjfehoodaaGreatDoorMY
set_option maxRecDepth 8000
namespace Go.Proofs.YtomdbmjfehoodaaGreatDoor
set_option linter.unusedVariables false
/-- x lies between lo and hi. -/
structure En (lo hi : Dyadic) (x : RR) : Prop where
  l : RR.of lo ≤ x
  h : x ≤ RR.of hi
theorem En.le {lo hi : Dyadic} {x : RR} (h : En lo hi x) : lo ≤ hi := RR.of_le.1 (Std.le_trans h.l h.h)
theorem En.point (d : Dyadic) : En d d (RR.of d) := ⟨Std.le_refl _, Std.le_refl _⟩
theorem En.mono {lo hi lo' hi' : Dyadic} {x : RR} (h : En lo hi x) (h1 : lo' ≤ lo) (h2 : hi ≤ hi') : En lo' hi' x := by
  have a := RR.of_le.2 h1; have b := RR.of_le.2 h2
  exact ⟨by have := h.l; grind, by have := h.h; grind⟩
theorem En.add {a b c d : Dyadic} {x y : RR} (h : En a b x) (g : En c d y) : En (a + c) (b + d) (x + y) := by
  have h1 := h.l; have h2 := h.h; have g1 := g.l; have g2 := g.h
  constructor
  · rw [RR.of_add]; grind
  · rw [RR.of_add]; grind
theorem En.neg {a b : Dyadic} {x : RR} (h : En a b x) : En (-b) (-a) (-x) := by
  have h1 := h.l; have h2 := h.h
  constructor
  · rw [RR.of_neg]; grind
  · rw [RR.of_neg]; grind
theorem En.times {a b p : Dyadic} {x : RR} (h : En a b x) (hp : 0 ≤ p) : En (a * p) (b * p) (x * RR.of p) := by
  have h1 := h.l; have h2 := h.h
  have p0 : (0 : RR) ≤ RR.of p := by rw [← RR.of_zero]; exact RR.of_le.2 hp
  have a1 := RR.mul_nn (show 0 ≤ x - RR.of a by grind) p0
  have a2 := RR.mul_nn (show 0 ≤ RR.of b - x by grind) p0
  constructor
  · rw [RR.of_mul]; grind
  · rw [RR.of_mul]; grind
theorem RR.line {a b x : RR} (y : RR) (h1 : a ≤ x) (h2 : x ≤ b) : (a * y ≤ x * y ∧ x * y ≤ b * y) ∨ (b * y ≤ x * y ∧ x * y ≤ a * y) := by
  rcases Std.le_total (a := 0) (b := y) with k | k
  · have p1 := RR.mul_nn (show 0 ≤ x - a by grind) k
    have p2 := RR.mul_nn (show 0 ≤ b - x by grind) k
    left; constructor <;> grind
  · have p1 := RR.mul_nn (show 0 ≤ x - a by grind) (show 0 ≤ -y by grind)
    have p2 := RR.mul_nn (show 0 ≤ b - x by grind) (show 0 ≤ -y by grind)
    right; constructor <;> grind
theorem En.mul {a b c d : Dyadic} {x y : RR} (h : En a b x) (g : En c d y) : En (mlo a b c d) (mhi a b c d) (x * y) := by
  have k1 := RR.line y h.l h.h
  have k2 := RR.line (RR.of a) g.l g.h
  have k3 := RR.line (RR.of b) g.l g.h
  have k4 := min4_le (a * c) (a * d) (b * c) (b * d)
  have k5 := le_max4 (a * c) (a * d) (b * c) (b * d)
  have m1 := RR.of_le.2 k4.1; have m2 := RR.of_le.2 k4.2.1; have m3 := RR.of_le.2 k4.2.2.1; have m4 := RR.of_le.2 k4.2.2.2
  have n1 := RR.of_le.2 k5.1; have n2 := RR.of_le.2 k5.2.1; have n3 := RR.of_le.2 k5.2.2.1; have n4 := RR.of_le.2 k5.2.2.2
  rw [RR.of_mul] at m1 m2 m3 m4 n1 n2 n3 n4
  have c1 : y * RR.of a = RR.of a * y := by grind
  have c2 : y * RR.of b = RR.of b * y := by grind
  have c3 : RR.of c * RR.of a = RR.of a * RR.of c := by grind
  have c4 : RR.of d * RR.of a = RR.of a * RR.of d := by grind
  have c5 : RR.of c * RR.of b = RR.of b * RR.of c := by grind
  have c6 : RR.of d * RR.of b = RR.of b * RR.of d := by grind
  rw [c1, c3, c4] at k2
  rw [c2, c5, c6] at k3
  have e1 : mlo a b c d = min4 (a * c) (a * d) (b * c) (b * d) := rfl
  have e2 : mhi a b c d = max4 (a * c) (a * d) (b * c) (b * d) := rfl
  rw [e1, e2]
  suffices fin : RR.of (min4 (a * c) (a * d) (b * c) (b * d)) ≤ x * y ∧ x * y ≤ RR.of (max4 (a * c) (a * d) (b * c) (b * d)) from ⟨fin.1, fin.2⟩
  generalize RR.of (min4 (a * c) (a * d) (b * c) (b * d)) = lo at *
  generalize RR.of (max4 (a * c) (a * d) (b * c) (b * d)) = hi at *
  clear h g k4 k5 e1 e2 c1 c2 c3 c4 c5 c6
  generalize RR.of a * RR.of c = ac at *
  generalize RR.of a * RR.of d = ad at *
  generalize RR.of b * RR.of c = bc at *
  generalize RR.of b * RR.of d = bd at *
  generalize RR.of a * y = ay at *
  generalize RR.of b * y = bY at *
  generalize x * y = xy at *
  have l1 : lo ≤ ay ∧ ay ≤ hi := by rcases k2 with ⟨p, q⟩ | ⟨p, q⟩ <;> constructor <;> grind
  have l2 : lo ≤ bY ∧ bY ≤ hi := by rcases k3 with ⟨p, q⟩ | ⟨p, q⟩ <;> constructor <;> grind
  obtain ⟨r1, r2⟩ := l1
  obtain ⟨r3, r4⟩ := l2
  rcases k1 with ⟨p, q⟩ | ⟨p, q⟩ <;> constructor <;> grind
theorem En.cut {a b c d : Dyadic} {x : RR} {k : Nat} (h : En a b x) (g1 : Clo k a c) (g2 : Chi k b d) : En c d x := h.mono g1.le g2.ge
theorem En.root {a b c d : Dyadic} {x : RR} {k : Nat} (h : En a b x) (h0 : 0 ≤ a) (g1 : Rlo k a c) (g2 : Rhi k b d) : En c d x.root := by
  have a0 : (0 : RR) ≤ RR.of a := by rw [← RR.of_zero]; exact RR.of_le.2 h0
  have x0 : 0 ≤ x := Std.le_trans a0 h.l
  have s := RR.root_sq x0
  have n := RR.root_nn x
  have d0 : (0 : RR) ≤ RR.of d := by rw [← RR.of_zero]; exact RR.of_le.2 g2.nn
  constructor
  · refine RR.sq_le n ?_
    rw [s, ← RR.of_mul]
    exact Std.le_trans (RR.of_le.2 g1.le) h.l
  · refine RR.sq_le d0 ?_
    rw [s, ← RR.of_mul]
    exact Std.le_trans h.h (RR.of_le.2 g2.ge)
/-- A product's width. -/
theorem mul_width {a b c d A C u v : Dyadic} (ha : a ≤ b) (hc : c ≤ d) (a1 : -A ≤ a) (b1 : b ≤ A) (c1 : -C ≤ c) (d1 : d ≤ C) (hu : b - a ≤ u) (hv : d - c ≤ v) : mhi a b c d - mlo a b c d ≤ A * v + C * u := by
  have j1 := min4_or (a * c) (a * d) (b * c) (b * d)
  have j2 := max4_or (a * c) (a * d) (b * c) (b * d)
  have e1 : mlo a b c d = min4 (a * c) (a * d) (b * c) (b * d) := rfl
  have e2 : mhi a b c d = max4 (a * c) (a * d) (b * c) (b * d) := rfl
  rw [← e1] at j1
  rw [← e2] at j2
  have key : ∀ p p' q q' : Dyadic, -A ≤ p → p ≤ A → -C ≤ q' → q' ≤ C → -u ≤ p - p' → p - p' ≤ u → -v ≤ q - q' → q - q' ≤ v → p * q - p' * q' ≤ A * v + C * u := fun p p' q q' h1 h2 h3 h4 h5 h6 h7 h8 => by
    have m1 := mul_under (x := q - q') (d := v) h1 h2 h7 h8
    have m2 := mul_under (x := p - p') (d := u) h3 h4 h5 h6
    grind
  have u0 : 0 ≤ u := by grind
  have v0 : 0 ≤ v := by grind
  rcases j1 with g | g | g | g <;> rcases j2 with k | k | k | k <;> rw [g, k] <;> exact key _ _ _ _ (by grind) (by grind) (by grind) (by grind) (by grind) (by grind) (by grind) (by grind)
theorem floor_there (x : Dyadic) (j : Nat) : ∃ m : Int, dy m (-(j : Int)) ≤ x ∧ x < dy (m + 1) (-(j : Int)) := by
  obtain ⟨z, e, rfl⟩ := dy_any x
  rcases Int.lt_or_le e (-(j : Int)) with g | g
  · obtain ⟨t, ht⟩ := Int.eq_ofNat_of_zero_le (show 0 ≤ -(j : Int) - e by omega)
    have e1 : ∀ m : Int, dy m (-(j : Int)) = dy (m * 2 ^ t) e := fun m => by rw [dy_up]; congr 1; omega
    have h1 := Int.ediv_mul_le z (Int.ne_of_gt (pow2_pos t))
    have h2 := Int.lt_ediv_add_one_mul_self z (pow2_pos t)
    exact ⟨z / 2 ^ t, by rw [e1]; exact dy_le_of h1, by rw [e1]; exact dy_lt.2 h2⟩
  · obtain ⟨t, ht⟩ := Int.eq_ofNat_of_zero_le (show 0 ≤ e + (j : Int) by omega)
    have e1 : dy z e = dy (z * 2 ^ t) (-(j : Int)) := by rw [dy_up]; congr 1; omega
    exact ⟨z * 2 ^ t, by rw [e1]; grind, by rw [e1]; exact dy_lt.2 (by omega)⟩
theorem dy_whole (k : Nat) (c : Nat) : dy ((c * 2 ^ k : Nat) : Int) (-(k : Int)) = dy c 0 := by
  rw [show ((c * 2 ^ k : Nat) : Int) = (c : Int) * 2 ^ k by rw [Int.natCast_mul, Int.natCast_pow]; rfl, dy_up]; congr 1; omega
theorem few_of {m : Int} {k : Nat} (h1 : dy m (-(k : Int)) ≤ dy 2 0) (h2 : -dy 2 0 < dy (m + 1) (-(k : Int))) : Few (k + 1) (dy m (-(k : Int))) := by
  have e := dy_whole k 2
  have e1 : dy ((2 : Nat) : Int) 0 = dy 2 0 := rfl
  rw [e1] at e
  rw [← e] at h1 h2
  rw [dy_neg, dy_lt] at h2
  have h3 : m ≤ ((2 * 2 ^ k : Nat) : Int) := by
    rcases Int.lt_or_le ((2 * 2 ^ k : Nat) : Int) m with g | g
    · have := (dy_lt (e := -(k : Int))).2 g; grind
    · exact g
  exact ⟨m, _, rfl, by rw [Nat.pow_succ, Nat.mul_comm]; omega⟩
/-- What a cut downwards takes off. -/
theorem Clo.width {k : Nat} {x c : Dyadic} (h : Clo (k + 1) x c) (h1 : -dy 2 0 ≤ x) (h2 : x ≤ dy 2 0) : x < c + eps k := by
  obtain ⟨m, m1, m2⟩ := floor_there x k
  have := h.most _ (few_of (by grind) (by grind)) m1
  have e : dy (m + 1) (-(k : Int)) = dy m (-(k : Int)) + eps k := by unfold eps; rw [dy_add]
  grind
theorem Few.opp {k : Nat} {d : Dyadic} (h : Few k d) : Few k (-d) := by
  obtain ⟨Z, E, rfl, hZ⟩ := h.out
  exact ⟨-Z, E, dy_neg Z E, by omega⟩
theorem Chi.width {k : Nat} {x c : Dyadic} (h : Chi (k + 1) x c) (h1 : -dy 2 0 ≤ x) (h2 : x ≤ dy 2 0) : c < x + eps k := by
  obtain ⟨m, m1, m2⟩ := floor_there (-x) k
  have := h.least _ (few_of (m := m) (k := k) (by grind) (by grind)).opp (by grind)
  have e : dy (m + 1) (-(k : Int)) = dy m (-(k : Int)) + eps k := by unfold eps; rw [dy_add]
  grind
/-- The root downwards, as so many parts. -/
theorem root_floor {d : Dyadic} (hd : 0 ≤ d) (h1 : d ≤ 1) (n : Nat) : ∃ s : Dyadic, 0 ≤ s ∧ Few (n + 1) s ∧ Few (n + 1) (s + eps n) ∧ s * s ≤ d ∧ d < (s + eps n) * (s + eps n) := by
  have hs : ∀ r : Nat, dy ((r + 1 : Nat) : Int) (-(n : Int)) = dy (r : Int) (-(n : Int)) + eps n := fun r => by
    unfold eps; rw [dy_add]; rfl
  have hnn : ∀ r : Nat, 0 ≤ dy (r : Int) (-(n : Int)) := fun r => by
    have := dy_le_of (x := 0) (y := (r : Int)) (e := -(n : Int)) (by omega)
    rwa [dy_zero] at this
  have e1 := dy_whole n 1
  rw [Nat.one_mul] at e1
  have e2 : dy ((1 : Nat) : Int) 0 = 1 := rfl
  have ep := eps_pos n
  have htop : ¬ dy ((2 ^ n + 1 : Nat) : Int) (-(n : Int)) * dy ((2 ^ n + 1 : Nat) : Int) (-(n : Int)) ≤ d := by
    rw [hs, e1, e2]
    have := dnn (show 0 ≤ eps n by grind) (show 0 ≤ eps n by grind)
    grind
  have hbd : ∀ r : Nat, dy (r : Int) (-(n : Int)) * dy (r : Int) (-(n : Int)) ≤ d → r ≤ 2 ^ n := fun r hr => by
    rcases Nat.lt_or_ge (2 ^ n) r with g | g
    · exfalso
      have a := dy_le_of (x := ((2 ^ n + 1 : Nat) : Int)) (y := (r : Int)) (e := -(n : Int)) (by omega)
      have b := hnn (2 ^ n + 1)
      have c := dnn (show 0 ≤ dy (r : Int) (-(n : Int)) - dy ((2 ^ n + 1 : Nat) : Int) (-(n : Int)) by grind) (show 0 ≤ dy (r : Int) (-(n : Int)) + dy ((2 ^ n + 1 : Nat) : Int) (-(n : Int)) by grind)
      grind
    · exact g
  have hz : dy ((0 : Nat) : Int) (-(n : Int)) = 0 := dy_zero _
  obtain ⟨r, k1, k2⟩ := last_of (p := fun r => dy (r : Int) (-(n : Int)) * dy (r : Int) (-(n : Int)) ≤ d) (by rw [hz]; grind) _ htop
  have hr := hbd r k1
  have hp := Nat.two_pow_pos n
  refine ⟨_, hnn r, ⟨r, _, rfl, by rw [Nat.pow_succ]; omega⟩, ?_, k1, ?_⟩
  · rw [← hs]; exact ⟨_, _, rfl, by rw [Nat.pow_succ]; omega⟩
  · rw [hs] at k2; grind
theorem Rlo.width {k : Nat} {x r : Dyadic} (h : Rlo (k + 1) x r) (h0 : 0 ≤ x) (h1 : x ≤ 1) : x < (r + eps k) * (r + eps k) := by
  obtain ⟨s, s0, f1, f2, s1, s2⟩ := root_floor h0 h1 k
  have := h.most s f1 s0 s1
  have ep := eps_pos k
  have c := dnn (show 0 ≤ r - s by grind) (show 0 ≤ (r + eps k) + (s + eps k) by grind)
  grind
theorem Rhi.width {k : Nat} {x t : Dyadic} (h : Rhi (k + 1) x t) (h0 : 0 ≤ x) (h1 : x ≤ 1) : ∃ s, 0 ≤ s ∧ s * s ≤ x ∧ t ≤ s + eps k := by
  obtain ⟨s, s0, f1, f2, s1, s2⟩ := root_floor h0 h1 k
  have ep := eps_pos k
  exact ⟨s, s0, s1, h.least (s + eps k) f2 (by grind) (by grind)⟩
/-- The width of a root's enclosure. -/
theorem root_width {a b c d δ : Dyadic} {x : RR} {k j : Nat} (h : En a b x) (h0 : 0 ≤ a) (h1 : b ≤ 1) (g1 : Rlo (k + 1) a c) (g2 : Rhi (k + 1) b d) (hw : b - a ≤ δ) (hj : RR.of (eps j) ≤ x.root) : d - c ≤ δ * big j + (eps k + eps k) := by
  have ab := h.le
  have w1 := g1.width h0 (by grind)
  obtain ⟨s, s0, s1, s2⟩ := g2.width (by grind) h1
  have ep := eps_pos k
  have c0 := g1.nn
  -- everything between roots
  have of0 := RR.of_zero
  have A0 : (0 : RR) ≤ RR.of a := by rw [← of0]; exact RR.of_le.2 h0
  have B0 : (0 : RR) ≤ RR.of b := by rw [← of0]; exact RR.of_le.2 (by grind)
  have p2 := RR.root_sq A0
  have q2 := RR.root_sq B0
  have pn := RR.root_nn (RR.of a)
  have qn := RR.root_nn (RR.of b)
  have x0 : 0 ≤ x := Std.le_trans A0 h.l
  have xr := RR.root_sq x0
  have q1 : x.root ≤ (RR.of b).root := RR.sq_le qn (by rw [xr, q2]; exact h.h)
  have p1 : (RR.of a).root ≤ RR.of (c + eps k) := by
    refine RR.sq_le (by rw [← of0]; exact RR.of_le.2 (by grind)) ?_
    rw [p2, ← RR.of_mul]; exact RR.of_le.2 (by grind)
  have q3 : RR.of s ≤ (RR.of b).root := by
    refine RR.sq_le qn ?_
    rw [q2, ← RR.of_mul]; exact RR.of_le.2 s1
  have ab2 : RR.of b - RR.of a ≤ RR.of δ := by
    have := RR.of_le.2 hw
    have e : b - a = b + -a := by grind
    rw [e, RR.of_add, RR.of_neg] at this
    grind
  have pq : (RR.of a).root ≤ (RR.of b).root := RR.sq_le qn (by rw [p2, q2]; exact RR.of_le.2 ab)
  have jn : (0 : RR) ≤ RR.of (eps j) := by rw [← of0]; exact RR.of_le.2 (by have := eps_pos j; grind)
  have bj : RR.of (eps j) * RR.of (big j) = 1 := by rw [← RR.of_mul, show eps j * big j = big j * eps j by grind, big_eps, RR.of_one]
  have bn : (0 : RR) ≤ RR.of (big j) := by rw [← of0]; exact RR.of_le.2 (by have := big_pos j; grind)
  generalize (RR.of a).root = p at *
  generalize (RR.of b).root = q at *
  have m1 := RR.mul_nn (show 0 ≤ q - p by grind) (show 0 ≤ q + p - RR.of (eps j) by grind)
  have m2 : (q - p) * RR.of (eps j) ≤ RR.of δ := by grind
  have m3 := RR.mul_nn (show 0 ≤ RR.of δ - (q - p) * RR.of (eps j) by grind) bn
  have m4 : q - p ≤ RR.of δ * RR.of (big j) := by
    have : (q - p) * RR.of (eps j) * RR.of (big j) = (q - p) * (RR.of (eps j) * RR.of (big j)) := by grind
    rw [bj] at this
    grind
  have t1 := RR.of_le.2 s2
  rw [RR.of_add] at t1 p1
  have goal : RR.of d ≤ RR.of (δ * big j + (eps k + eps k) + c) := by
    rw [RR.of_add, RR.of_add, RR.of_add, RR.of_mul]; grind
  have := RR.of_le.1 goal
  grind
end Go.Proofs.YtomdbmjfehoodaaGreatDoor
