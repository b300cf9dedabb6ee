/- Plain mathematics: cosines by halves, as the document takes them, and how wide their enclosures are. No program is named here. -/
import Derived.Test.YtomdbmjfehoodaaGreatDoorCw
import Derived.Test.YtomdbmjfehoodaaGreatDoorMQ
set_option maxRecDepth 8000
namespace Go.Proofs.YtomdbmjfehoodaaGreatDoor
set_option linter.unusedVariables false
/-- A whole number, as a dyadic one. -/
def dn0 (m : Nat) : Dyadic := dy (m : Int) 0
theorem dn0_add (a b : Nat) : dn0 (a + b) = dn0 a + dn0 b := by unfold dn0; rw [dy_add, Int.natCast_add]
theorem dn0_mul (a b : Nat) : dn0 (a * b) = dn0 a * dn0 b := by unfold dn0; rw [dy_mul, Int.natCast_mul]; rfl
theorem dn0_le {a b : Nat} (h : a ≤ b) : dn0 a ≤ dn0 b := dy_le_of (by omega)
theorem dn0_zero : dn0 0 = 0 := dy_zero 0
theorem dn0_one : dn0 1 = 1 := rfl
theorem dn0_nn (a : Nat) : 0 ≤ dn0 a := by rw [← dn0_zero]; exact dn0_le (Nat.zero_le _)
theorem dn0_big (j : Nat) : dn0 (2 ^ j) = big j := by
  unfold dn0 big
  rw [show ((2 ^ j : Nat) : Int) = 1 * 2 ^ j by rw [Int.natCast_pow, Int.one_mul]; rfl, dy_up]; congr 1; omega
theorem eps_big {a b : Nat} (h : b ≤ a) : eps a * big b = eps (a - b) := by
  unfold eps big; rw [dy_mul]; congr 1; omega
/-- d is at most so many parts. -/
structure Ud (k m : Nat) (d : Dyadic) : Prop where
  out : d ≤ eps (k - 2) * dn0 m
theorem Ud.mono {k m m' : Nat} {d d' : Dyadic} (h : Ud k m d) (hm : m ≤ m') (hd : d' ≤ d) : Ud k m' d' := by
  have h1 := h.out
  have h2 := dn0_le hm
  have h3 := mulr' (a := -dn0 m') (x := -dn0 m) (y := -eps (k - 2)) (by grind) (by have := eps_pos (k - 2); grind)
  exact ⟨by grind⟩
theorem Ud.add {k m m' : Nat} {d d' : Dyadic} (h : Ud k m d) (g : Ud k m' d') : Ud k (m + m') (d + d') := by
  have h1 := h.out; have h2 := g.out
  exact ⟨by rw [dn0_add]; grind⟩
theorem Ud.zero (k m : Nat) : Ud k m 0 := ⟨mul_nn (by have := eps_pos (k - 2); grind) (dn0_nn m)⟩
theorem Ud.one (k : Nat) : Ud k 1 (eps (k - 2)) := ⟨by rw [dn0_one]; grind⟩
theorem Ud.times {k m : Nat} {d : Dyadic} (h : Ud k m d) (j : Nat) : Ud k (m * 2 ^ j) (d * big j) := by
  have h1 := mulr (y := big j) h.out (by have := big_pos j; grind)
  exact ⟨by rw [dn0_mul, dn0_big]; grind⟩
theorem Ud.half {k m : Nat} {d : Dyadic} (h : Ud k (m + m) d) : Ud k m (d * dy 1 (-1)) := by
  have h1 := half_le h.out
  have e : eps (k - 2) * dn0 (m + m) * dy 1 (-1) = eps (k - 2) * dn0 m := by
    have := half_two (eps (k - 2) * dn0 m)
    rw [dn0_add]; grind
  exact ⟨by rw [← e]; exact h1⟩
theorem Ud.fin {k m j : Nat} {d : Dyadic} (h : Ud k m d) (hm : m ≤ 2 ^ j) (hj : j ≤ k - 2) : d ≤ eps (k - 2 - j) := by
  have := (h.mono hm (Std.le_refl _)).out
  rwa [dn0_big, eps_big hj] at this
/-- The halves: cosine and sine of one part of a power of two. -/
structure Hf where
  c1 : Dyadic
  c2 : Dyadic
  s1 : Dyadic
  s2 : Dyadic
noncomputable def hs (k : Nat) : Nat → Hf
  | 0 => ⟨rlo k (dy 1 (-1)), rhi k (dy 1 (-1)), rlo k (dy 1 (-1)), rhi k (dy 1 (-1))⟩
  | j + 1 => ⟨rlo k ((1 + (hs k j).c1) * dy 1 (-1)), rhi k ((1 + (hs k j).c2) * dy 1 (-1)), rlo k ((1 + -(hs k j).c2) * dy 1 (-1)), rhi k ((1 + -(hs k j).c1) * dy 1 (-1))⟩
structure Hk (k j : Nat) (h : Hf) : Prop where
  ec : En h.c1 h.c2 (hv (j + 1)).1
  es : En h.s1 h.s2 (hv (j + 1)).2
  c0 : 0 ≤ h.c1
  cu : h.c2 ≤ 1
  s0 : 0 ≤ h.s1
  su : h.s2 ≤ 1
  wc : Ud k (j + 1) (h.c2 - h.c1)
  ws : Ud k (j * 2 ^ j + 1) (h.s2 - h.s1)
  r1 : Rg (k + k + 4) 1 h.c1
  r2 : Rg (k + k + 4) 1 h.c2
  r3 : Rg (k + k + 4) 1 h.s1
  r4 : Rg (k + k + 4) 1 h.s2
theorem rooted {x : RR} {k P : Nat} {a b : Dyadic} (h : En a b x) (h0 : 0 ≤ a) (h1 : b ≤ 1) (r1 : Rg P 1 a) (r2 : Rg P 1 b) (hk : 2 ≤ k) (hP : P ≤ k + k + 6) :
    En (rlo k a) (rhi k b) x.root ∧ 0 ≤ rlo k a ∧ rhi k b ≤ 1 ∧ Rg (k + k + 4) 1 (rlo k a) ∧ Rg (k + k + 4) 1 (rhi k b) ∧
    ∀ m j, Ud k m (b - a) → RR.of (eps j) ≤ x.root → Ud k (m * 2 ^ j + 1) (rhi k b - rlo k a) := by
  have ab := h.le
  have g1 := (root_there a k P 1 h0 r1 (by omega)).1
  have g2 := (root_there b k P 1 (by grind) r2 (by omega)).2.1
  refine ⟨h.root h0 g1 g2, g1.nn, g2.le1 h1, (g1.rg r1 h0 (by grind) (p := k + 3) (by omega)).mono (by omega) (by omega), (g2.rg r2 (by grind) h1 (p := k + 3) (by omega)).mono (by omega) (by omega), fun m j hw hj => ?_⟩
  obtain ⟨k', rfl⟩ : ∃ k', k = k' + 2 := ⟨k - 2, by omega⟩
  have wd := root_width (k := k' + 1) (δ := b - a) h h0 h1 g1 g2 (Std.le_refl _) hj
  have e := eps_half k'
  have t := (hw.times j).add (Ud.one (k' + 2))
  rw [show k' + 2 - 2 = k' by omega] at t
  exact t.mono (Nat.le_refl _) (by grind)
theorem half_eps1 : dy 1 (-1) = eps 1 := rfl
theorem hv_zero : hv 0 = (0, 1) := rfl
theorem hv_succ (j : Nat) : (hv (j + 1)).1 = (hf * (1 + (hv j).1)).root ∧ (hv (j + 1)).2 = (hf * (1 + -(hv j).1)).root := by
  obtain ⟨a, b⟩ := hv_sq j
  obtain ⟨_, c, d⟩ := hv_spec (j + 1)
  have n1 := RR.sq_nn (hv (j + 1)).1
  have n2 := RR.sq_nn (hv (j + 1)).2
  rw [a] at n1
  rw [b] at n2
  exact ⟨RR.sq_uniq c (RR.root_nn _) (by rw [a, RR.root_sq n1]), RR.sq_uniq d (RR.root_nn _) (by rw [b, RR.root_sq n2])⟩
theorem eps1_cos (j : Nat) : RR.of (eps 1) ≤ (hv (j + 1)).1 := hv_cos_lo j
theorem half_rg {P : Nat} {x : Dyadic} (r : Rg P 1 x) : Rg (P + 1) 1 ((1 + x) * dy 1 (-1)) := by
  have := rg_half r
  rwa [show x + 1 = 1 + x by grind] at this
theorem half_en {a b : Dyadic} {x : RR} (h : En a b x) : En ((1 + a) * dy 1 (-1)) ((1 + b) * dy 1 (-1)) (hf * (1 + x)) := by
  have := ((En.point 1).add h).times (p := dy 1 (-1)) (by have := eps_pos 1; rw [half_eps1]; grind)
  have e : (RR.of 1 + x) * RR.of (dy 1 (-1)) = hf * (1 + x) := by
    show (RR.of 1 + x) * hf = _
    rw [RR.of_one]; grind
  rwa [e] at this
theorem half_one {b : Dyadic} (h : b ≤ 1) : (1 + b) * dy 1 (-1) ≤ 1 := by
  have := half_le (show 1 + b ≤ 1 + 1 by grind)
  have t2 := half_two (1 + 1)
  have t3 := half_two 1
  grind
theorem hs_zero {k : Nat} (hk : 2 ≤ k) : Hk k 0 (hs k 0) := by
  have hx := hv_succ 0
  rw [hv_zero] at hx
  have e0 : (1 : Dyadic) * dy 1 (-1) = dy 1 (-1) := by rw [show (1 : Dyadic) = dy 1 0 from rfl, dy_mul]; rfl
  have en : En (dy 1 (-1)) (dy 1 (-1)) hf := En.point _
  have e1 : hf * (1 + (0 : RR)) = hf := by grind
  have e2 : hf * (1 + -(0 : RR)) = hf := by grind
  obtain ⟨x1, x2⟩ := hx
  have x1' : (hv (0 + 1)).1 = hf.root := by rw [x1]; show (hf * (1 + (0 : RR))).root = _; rw [e1]
  have x2' : (hv (0 + 1)).2 = hf.root := by rw [x2]; show (hf * (1 + -(0 : RR))).root = _; rw [e2]
  have ep := eps_pos 1
  have p1 : (0 : Dyadic) ≤ dy 1 (-1) := by rw [half_eps1]; grind
  have p2 : dy 1 (-1) ≤ (1 : Dyadic) := by have := eps_mono (show 0 ≤ 1 by omega); rw [eps_zero] at this; rw [half_eps1]; exact this
  have rg : Rg 1 1 (dy 1 (-1)) := rg_unit (n := 1) (z := 1) (by show -1 ≤ dy 1 (-1); grind) p2
  obtain ⟨a, b, c, d, e, f⟩ := rooted en p1 p2 rg rg hk (by omega)
  have hj : RR.of (eps 1) ≤ hf.root := by rw [← x1']; exact eps1_cos 0
  have w := f 0 1 ((Ud.zero k 0).mono (Nat.le_refl _) (by grind)) hj
  rw [← x1'] at a
  have a2 := a
  rw [x1', ← x2'] at a2
  exact ⟨a, a2, b, c, b, c, w, w, d, e, d, e⟩
theorem hs_step {k j : Nat} {h : Hf} (hk : 2 ≤ k) (g : Hk k j h) : Hk k (j + 1) ⟨rlo k ((1 + h.c1) * dy 1 (-1)), rhi k ((1 + h.c2) * dy 1 (-1)), rlo k ((1 + -h.c2) * dy 1 (-1)), rhi k ((1 + -h.c1) * dy 1 (-1))⟩ := by
  obtain ⟨x1, x2⟩ := hv_succ (j + 1)
  have le := g.ec.le
  have c0 := g.c0
  have cu := g.cu
  obtain ⟨a, b, c, d, e, f⟩ := rooted (k := k) (P := k + k + 4 + 1) (half_en g.ec) (half_nn (by grind)) (half_one cu) (half_rg g.r1) (half_rg g.r2) hk (by omega)
  obtain ⟨a', b', c', d', e', f'⟩ := rooted (k := k) (P := k + k + 4 + 1) (half_en g.ec.neg) (half_nn (by grind)) (half_one (by grind)) (half_rg g.r2.neg) (half_rg g.r1.neg) hk (by omega)
  rw [← x1] at a f
  rw [← x2] at a' f'
  have t1 := half_two (h.c2 - h.c1)
  have w2 : Ud k ((j + 1) * 2 ^ (j + 1) + 1) (rhi k ((1 + -h.c1) * dy 1 (-1)) - rlo k ((1 + -h.c2) * dy 1 (-1))) := by
    have hu := (g.wc.times (j + 1))
    have hj : RR.of (eps (j + 2)) ≤ (hv (j + 1 + 1)).2 := hv_sin_lo (j + 2)
    have ab := a'.le
    -- by hand: half of the width, times twice as much
    have w0 : Ud k (j + 1) (((1 + -h.c1) * dy 1 (-1) - (1 + -h.c2) * dy 1 (-1)) * big 1) := by
      have e1 : big 1 = 1 + 1 := by rw [big_double 0, big_zero]
      have : ((1 + -h.c1) * dy 1 (-1) - (1 + -h.c2) * dy 1 (-1)) * big 1 = (h.c2 - h.c1) * dy 1 (-1) + (h.c2 - h.c1) * dy 1 (-1) := by rw [e1]; grind
      rw [this, t1]
      exact g.wc
    obtain ⟨k', rfl⟩ : ∃ k', k = k' + 2 := ⟨k - 2, by omega⟩
    have g1 := (root_there _ (k' + 2) (k' + 2 + (k' + 2) + 4 + 1) 1 (half_nn (show 0 ≤ 1 + -h.c2 by grind)) (half_rg g.r2.neg) (by omega)).1
    have g2 := (root_there _ (k' + 2) (k' + 2 + (k' + 2) + 4 + 1) 1 (half_nn (show 0 ≤ 1 + -h.c1 by grind)) (half_rg g.r1.neg) (by omega)).2.1
    rw [x2] at hj
    have wd := root_width (k := k' + 1) (half_en g.ec.neg) (half_nn (by grind)) (half_one (by grind)) g1 g2 (Std.le_refl _) hj
    have e2 := eps_half k'
    have e3 : big (j + 2) = big 1 * big (j + 1) := by rw [← dn0_big, ← dn0_big, ← dn0_big, ← dn0_mul, Nat.pow_succ 2 (j + 1)]; congr 1; omega
    have t := (w0.times (j + 1)).add (Ud.one (k' + 2))
    rw [show k' + 2 - 2 = k' by omega] at t
    refine t.mono (Nat.le_refl _) ?_
    rw [e3] at wd
    grind
  have w1 : Ud k (j + 1 + 1) (rhi k ((1 + h.c2) * dy 1 (-1)) - rlo k ((1 + h.c1) * dy 1 (-1))) := by
    have hj : RR.of (eps 1) ≤ (hv (j + 1 + 1)).1 := eps1_cos (j + 1)
    have w0 : Ud k (j + 1) (((1 + h.c2) * dy 1 (-1) - (1 + h.c1) * dy 1 (-1)) * big 1) := by
      have e1 : big 1 = 1 + 1 := by rw [big_double 0, big_zero]
      have : ((1 + h.c2) * dy 1 (-1) - (1 + h.c1) * dy 1 (-1)) * big 1 = (h.c2 - h.c1) * dy 1 (-1) + (h.c2 - h.c1) * dy 1 (-1) := by rw [e1]; grind
      rw [this, t1]
      exact g.wc
    obtain ⟨k', rfl⟩ : ∃ k', k = k' + 2 := ⟨k - 2, by omega⟩
    have g1 := (root_there _ (k' + 2) (k' + 2 + (k' + 2) + 4 + 1) 1 (half_nn (show 0 ≤ 1 + h.c1 by grind)) (half_rg g.r1) (by omega)).1
    have g2 := (root_there _ (k' + 2) (k' + 2 + (k' + 2) + 4 + 1) 1 (half_nn (show 0 ≤ 1 + h.c2 by grind)) (half_rg g.r2) (by omega)).2.1
    rw [x1] at hj
    have wd := root_width (k := k' + 1) (half_en g.ec) (half_nn (by grind)) (half_one (by grind)) g1 g2 (Std.le_refl _) hj
    have e2 := eps_half k'
    have t := w0.add (Ud.one (k' + 2))
    rw [show k' + 2 - 2 = k' by omega] at t
    exact t.mono (Nat.le_refl _) (by grind)
  exact ⟨a, a', b, c, b', c', w1, w2, d, e, d', e'⟩
theorem hs_all {k : Nat} (hk : 2 ≤ k) : ∀ j, Hk k j (hs k j)
  | 0 => hs_zero hk
  | j + 1 => hs_step hk (hs_all hk j)
/-- What the rounds make. -/
structure Xy where
  x1 : Dyadic
  x2 : Dyadic
  y1 : Dyadic
  y2 : Dyadic
noncomputable def rstep (k : Nat) (h : Hf) (r : Xy) : Xy :=
  ⟨clo k (mlo r.x1 r.x2 h.c1 h.c2 + -mhi r.y1 r.y2 h.s1 h.s2), chi k (mhi r.x1 r.x2 h.c1 h.c2 + -mlo r.y1 r.y2 h.s1 h.s2),
   clo k (mlo r.y1 r.y2 h.c1 h.c2 + mlo r.x1 r.x2 h.s1 h.s2), chi k (mhi r.y1 r.y2 h.c1 h.c2 + mhi r.x1 r.x2 h.s1 h.s2)⟩
noncomputable def rxy (k : Nat) (K : Int) (Q : Nat) : Nat → Xy
  | 0 => ⟨1, 1, 0, 0⟩
  | i + 1 => if K / 2 ^ (Q - (i + 3)) % 2 = 1 then rstep k (hs k i) (rxy k K Q i) else rxy k K Q i
structure Rk (k P m : Nat) (p : RR × RR) (r : Xy) : Prop where
  ex : En r.x1 r.x2 p.1
  ey : En r.y1 r.y2 p.2
  wx : Ud k m (r.x2 - r.x1)
  wy : Ud k m (r.y2 - r.y1)
  r1 : Rg P 1 r.x1
  r2 : Rg P 1 r.x2
  r3 : Rg P 1 r.y1
  r4 : Rg P 1 r.y2
theorem rg_less {P Q : Nat} {d : Dyadic} (r : Rg P Q d) (h1 : -dy 1 1 < d) (h2 : d < dy 1 1) : Rg P 1 d := by
  obtain ⟨X, rfl, _, _⟩ := r.out
  have e : dy 1 1 = dy (2 ^ (P + 1)) (-(P : Int)) := by
    rw [show (2 : Int) ^ (P + 1) = 1 * 2 ^ (P + 1) by rw [Int.one_mul], dy_up]; congr 1; omega
  rw [e] at h1 h2
  rw [dy_neg, dy_lt] at h1
  rw [dy_lt] at h2
  exact ⟨X, rfl, by omega, h2⟩
theorem two_dy : dy 2 0 = 1 + 1 := rfl
theorem dy11 : dy 1 1 = 1 + 1 := by
  have := dy_up 1 0 1
  rw [show (1 : Int) * 2 ^ 1 = 2 from rfl, show (0 : Int) + ((1 : Nat) : Int) = 1 from rfl] at this
  rw [← this]; rfl
/-- Near to what lies between -1 and 1. -/
theorem En.near {a b : Dyadic} {x : RR} (h : En a b x) (h1 : -1 ≤ x) (h2 : x ≤ 1) (hw : b - a < 1) : -(1 + 1) < a ∧ b < 1 + 1 := by
  have l := h.l; have u := h.h
  have a1 : a ≤ 1 := RR.of_le.1 (by rw [RR.of_one]; grind)
  have b1 : -1 ≤ b := RR.of_le.1 (by rw [RR.of_neg, RR.of_one]; grind)
  exact ⟨by grind, by grind⟩
theorem min4_rg {P Q : Nat} {a b c d : Dyadic} (h1 : Rg P Q a) (h2 : Rg P Q b) (h3 : Rg P Q c) (h4 : Rg P Q d) : Rg P Q (min4 a b c d) ∧ Rg P Q (max4 a b c d) := by
  constructor
  · rcases min4_or a b c d with e | e | e | e <;> rw [e] <;> assumption
  · rcases max4_or a b c d with e | e | e | e <;> rw [e] <;> assumption
theorem mul4_rg {P Q P' Q' : Nat} {a b c d : Dyadic} (h1 : Rg P Q a) (h2 : Rg P Q b) (h3 : Rg P' Q' c) (h4 : Rg P' Q' d) : Rg (P + P') (Q + Q') (mlo a b c d) ∧ Rg (P + P') (Q + Q') (mhi a b c d) :=
  min4_rg (h1.mul h3) (h1.mul h4) (h2.mul h3) (h2.mul h4)
/-- One turn by a half, cut. -/
theorem turned_width {k m H : Nat} {a b c d e f g l : Dyadic} (hk : 2 ≤ k) (wx : Ud k m (b - a)) (wy : Ud k m (f - e)) (wc : Ud k H (d - c)) (ws : Ud k H (l - g)) (hH : 1 ≤ H)
    (ab : a ≤ b) (cd : c ≤ d) (ef : e ≤ f) (gl : g ≤ l) (a1 : -(1 + 1) ≤ a) (b1 : b ≤ 1 + 1) (e1 : -(1 + 1) ≤ e) (f1 : f ≤ 1 + 1) (c1 : -1 ≤ c) (d1 : d ≤ 1) (g1 : -1 ≤ g) (l1 : l ≤ 1) :
    Ud k (m + m + 4 * H) ((mhi a b c d - mlo a b c d) + (mhi e f g l - mlo e f g l)) := by
  have p := mul_width (A := 1 + 1) (C := 1) ab cd a1 b1 c1 d1 (Std.le_refl (b - a)) (Std.le_refl (d - c))
  have q := mul_width (A := 1 + 1) (C := 1) ef gl e1 f1 g1 l1 (Std.le_refl (f - e)) (Std.le_refl (l - g))
  have t := (wx.add wy).add ((wc.add wc).add (ws.add ws))
  exact t.mono (by omega) (by grind)
theorem cut_width {k m : Nat} {A B : Dyadic} (hk : 2 ≤ k) (w : Ud k m (B - A)) (a1 : -(1 + 1) ≤ A) (a2 : A ≤ 1 + 1) (b1 : -(1 + 1) ≤ B) (b2 : B ≤ 1 + 1) : Ud k (m + 1) (chi k B - clo k A) := by
  obtain ⟨k', rfl⟩ : ∃ k', k = k' + 2 := ⟨k - 2, by omega⟩
  have u := (clo_spec (k := k' + 1 + 1) A (by omega)).width (by rw [two_dy]; exact a1) (by rw [two_dy]; exact a2)
  have v := (chi_spec (k := k' + 1 + 1) B (by omega)).width (by rw [two_dy]; exact b1) (by rw [two_dy]; exact b2)
  have e := eps_half k'
  have t := w.add (Ud.one (k' + 2))
  rw [show k' + 2 - 2 = k' by omega] at t
  exact t.mono (Nat.le_refl _) (by grind)
theorem rstep_ok {k P m H L i : Nat} {p : RR × RR} {r : Xy} {h : Hf} (hk : 2 ≤ k) (hr : Rk k P m p r) (hh : Hk k i h) (up : Unit p) (w1 : i + 1 ≤ H) (w2 : i * 2 ^ i + 1 ≤ H) (hL : m + m + 5 * H ≤ 2 ^ L) (hLk : L + 3 ≤ k) :
    Rk k (P + (k + k + 4)) (m + m + 5 * H) (cm p (hv (i + 1))) (rstep k h r) := by
  have u1 := unit_le up
  have u2 : -1 ≤ p.2 ∧ p.2 ≤ 1 := unit_le (c := p.2) (s := p.1) (by unfold Unit at up; grind)
  have uh := (hv_spec (i + 1)).1
  have uc : Unit (cm p (hv (i + 1))) := up.cm uh
  have v1 := unit_le uc
  have v2 : -1 ≤ (cm p (hv (i + 1))).2 ∧ (cm p (hv (i + 1))).2 ≤ 1 := unit_le (c := (cm p (hv (i + 1))).2) (s := (cm p (hv (i + 1))).1) (by unfold Unit at uc; grind)
  have small : ∀ d m', Ud k m' d → m' ≤ m + m + 5 * H → d < 1 := fun d m' hd hm => by
    have := hd.fin (j := L) (by omega) (by omega)
    have e1 := eps_mono (show 1 ≤ k - 2 - L by omega)
    have e2 := eps_half 0
    rw [eps_zero] at e2
    have e3 := eps_pos 1
    grind
  have nx := hr.ex.near u1.1 u1.2 (small _ _ hr.wx (by omega))
  have ny := hr.ey.near u2.1 u2.2 (small _ _ hr.wy (by omega))
  have xl := hr.ex.le
  have yl := hr.ey.le
  have cl := hh.ec.le
  have sl := hh.es.le
  have c0 := hh.c0; have cu := hh.cu; have s0 := hh.s0; have su := hh.su
  have wc := hh.wc.mono w1 (Std.le_refl _)
  have ws := hh.ws.mono w2 (Std.le_refl _)
  have hH : 1 ≤ H := by omega
  -- the cosine
  have ea : En (mlo r.x1 r.x2 h.c1 h.c2 + -mhi r.y1 r.y2 h.s1 h.s2) (mhi r.x1 r.x2 h.c1 h.c2 + -mlo r.y1 r.y2 h.s1 h.s2) (cm p (hv (i + 1))).1 := by
    have := (hr.ex.mul hh.ec).add (hr.ey.mul hh.es).neg
    have e : p.1 * (hv (i + 1)).1 + -(p.2 * (hv (i + 1)).2) = (cm p (hv (i + 1))).1 := by
      show _ = p.1 * (hv (i + 1)).1 - p.2 * (hv (i + 1)).2
      grind
    rwa [e] at this
  have eb : En (mlo r.y1 r.y2 h.c1 h.c2 + mlo r.x1 r.x2 h.s1 h.s2) (mhi r.y1 r.y2 h.c1 h.c2 + mhi r.x1 r.x2 h.s1 h.s2) (cm p (hv (i + 1))).2 := by
    have := (hr.ey.mul hh.ec).add (hr.ex.mul hh.es)
    have e : p.2 * (hv (i + 1)).1 + p.1 * (hv (i + 1)).2 = (cm p (hv (i + 1))).2 := by
      show _ = p.1 * (hv (i + 1)).2 + p.2 * (hv (i + 1)).1
      grind
    rwa [e] at this
  have wa := (turned_width hk hr.wx hr.wy wc ws hH xl cl yl sl (by grind) (by grind) (by grind) (by grind) (by grind) cu (by grind) su)
  have wb := (turned_width hk hr.wy hr.wx wc ws hH yl cl xl sl (by grind) (by grind) (by grind) (by grind) (by grind) cu (by grind) su)
  have na := ea.near v1.1 v1.2 (small _ _ (wa.mono (Nat.le_refl _) (by grind)) (by omega))
  have nb := eb.near v2.1 v2.2 (small _ _ (wb.mono (Nat.le_refl _) (by grind)) (by omega))
  have la := ea.le
  have lb := eb.le
  have ca := cut_width hk (wa.mono (Nat.le_refl _) (show mhi r.x1 r.x2 h.c1 h.c2 + -mlo r.y1 r.y2 h.s1 h.s2 - (mlo r.x1 r.x2 h.c1 h.c2 + -mhi r.y1 r.y2 h.s1 h.s2) ≤ _ by grind)) (by grind) (by grind) (by grind) (by grind)
  have cb := cut_width hk (wb.mono (Nat.le_refl _) (show mhi r.y1 r.y2 h.c1 h.c2 + mhi r.x1 r.x2 h.s1 h.s2 - (mlo r.y1 r.y2 h.c1 h.c2 + mlo r.x1 r.x2 h.s1 h.s2) ≤ _ by grind)) (by grind) (by grind) (by grind) (by grind)
  have fa := ea.cut (clo_spec (k := k) _ (by omega)) (chi_spec (k := k) _ (by omega))
  have fb := eb.cut (clo_spec (k := k) _ (by omega)) (chi_spec (k := k) _ (by omega))
  have ma := fa.near v1.1 v1.2 (small _ _ ca (by omega))
  have mb := fb.near v2.1 v2.2 (small _ _ cb (by omega))
  have fal := fa.le
  have fbl := fb.le
  obtain ⟨xc1, xc2⟩ := mul4_rg hr.r1 hr.r2 hh.r1 hh.r2
  obtain ⟨ys1, ys2⟩ := mul4_rg hr.r3 hr.r4 hh.r3 hh.r4
  obtain ⟨yc1, yc2⟩ := mul4_rg hr.r3 hr.r4 hh.r1 hh.r2
  obtain ⟨xs1, xs2⟩ := mul4_rg hr.r1 hr.r2 hh.r3 hh.r4
  have g1 := clo_rg (k := k) (xc1.add ys2.neg) (by omega)
  have g2 := chi_rg (k := k) (xc2.add ys1.neg) (by omega)
  have g3 := clo_rg (k := k) (yc1.add xs1) (by omega)
  have g4 := chi_rg (k := k) (yc2.add xs2) (by omega)
  have d11 := dy11
  exact ⟨fa, fb, ca.mono (by omega) (Std.le_refl _), cb.mono (by omega) (Std.le_refl _), rg_less g1 (by rw [d11]; exact ma.1) (by rw [d11]; exact Std.lt_of_le_of_lt fal ma.2), rg_less g2 (by rw [d11]; exact Std.lt_of_lt_of_le ma.1 fal) (by rw [d11]; exact ma.2),
    rg_less g3 (by rw [d11]; exact mb.1) (by rw [d11]; exact Std.lt_of_le_of_lt fbl mb.2), rg_less g4 (by rw [d11]; exact Std.lt_of_lt_of_le mb.1 fbl) (by rw [d11]; exact mb.2)⟩
/-- An angle's beginning, one bit more. -/
theorem cv_double (m : Int) {q : Nat} (hq : q + 1 ≤ 40) : cv (tv (m * 2) (q + 1)) = cv (tv m q) := by
  congr 1
  unfold tv
  rw [show 40 - q = 40 - (q + 1) + 1 by omega, Int.pow_succ, Int.mul_assoc, Int.mul_comm 2 (2 ^ (40 - (q + 1)))]
theorem cv_onemore (m : Int) {q : Nat} (h1 : 1 ≤ q) (hq : q + 1 ≤ 40) : cv (tv (m * 2 + 1) (q + 1)) = cm (cv (tv m q)) (hv (q - 1)) := by
  have e1 : hv (q - 1) = cv ((2 ^ (40 - (q + 1)) : Nat) : Int) := by
    rw [cv_nat, ev_half _ (by omega)]; congr 1; omega
  rw [e1, ← cv_add]
  apply cv_mod
  unfold tv
  rw [show 40 - q = 40 - (q + 1) + 1 by omega, Int.pow_succ, ← Int.mul_assoc, Int.add_mul, Int.one_mul]
  have e2 : ((2 ^ (40 - (q + 1)) : Nat) : Int) = 2 ^ (40 - (q + 1)) := by rw [Int.natCast_pow]; rfl
  rw [e2]
  generalize (2 : Int) ^ (40 - (q + 1)) = X
  rw [show m * 2 * X = m * X * 2 by rw [Int.mul_assoc, Int.mul_comm 2 X, ← Int.mul_assoc]]
  generalize m * X = Y
  omega
theorem bits_next (K : Int) {a : Nat} : K / 2 ^ a = K / 2 ^ (a + 1) * 2 + K / 2 ^ a % 2 := by
  have e : K / 2 ^ (a + 1) = K / 2 ^ a / 2 := by rw [Int.pow_succ, Int.ediv_ediv_of_nonneg (Int.le_of_lt (p2_pos a))]
  rw [e]
  omega
theorem rxy_ok {k Q : Nat} {K : Int} (hk : k ≤ 200) (h0 : 0 ≤ K) (h1 : K < 2 ^ (Q - 2)) (hQ : Q ≤ 14) (hkQ : 2 * Q + 5 ≤ k) : ∀ i, i + 2 ≤ Q → Rk k (i * (k + k + 4)) (5 * 2 ^ (Q + 1) * (2 ^ i - 1)) (cv (tv (K / 2 ^ (Q - (i + 2))) (i + 2))) (rxy k K Q i)
  | 0, hi => by
    have e : K / 2 ^ (Q - 2) = 0 := Int.ediv_eq_zero_of_lt h0 h1
    have z : cv (tv (K / 2 ^ (Q - (0 + 2))) (0 + 2)) = (1, 0) := by
      rw [show Q - (0 + 2) = Q - 2 by omega, e, show tv 0 (0 + 2) = 0 from rfl, cv_zero]
    rw [z]
    have hz := Ud.zero k (5 * 2 ^ (Q + 1) * (2 ^ 0 - 1))
    have e1 := En.point 1
    have e0 := En.point 0
    rw [RR.of_one] at e1
    rw [RR.of_zero] at e0
    exact ⟨e1, e0, hz.mono (Nat.le_refl _) (by show (1 : Dyadic) - 1 ≤ 0; grind), hz.mono (Nat.le_refl _) (by show (0 : Dyadic) - 0 ≤ 0; grind), rg_one _, rg_one _, rg_zero1 _ _, rg_zero1 _ _⟩
  | i + 1, hi => by
    have ih := rxy_ok hk h0 h1 hQ hkQ i (by omega)
    have ep : (2 : Nat) ^ (i + 1) = 2 * 2 ^ i := by rw [Nat.pow_succ]; omega
    have p1 := Nat.two_pow_pos i
    have hb := bits_next K (a := Q - (i + 1 + 2))
    rw [show Q - (i + 1 + 2) + 1 = Q - (i + 2) by omega] at hb
    have hm : 5 * 2 ^ (Q + 1) * (2 ^ (i + 1) - 1) = 5 * 2 ^ (Q + 1) * (2 ^ i - 1) + 5 * 2 ^ (Q + 1) * (2 ^ i - 1) + 5 * 2 ^ (Q + 1) := by
      rw [ep, ← Nat.mul_add, ← Nat.mul_succ]; congr 1; omega
    unfold rxy
    by_cases hbit : K / 2 ^ (Q - (i + 3)) % 2 = 1
    · rw [if_pos hbit]
      rw [show Q - (i + 1 + 2) = Q - (i + 3) by omega] at hb ⊢
      rw [hbit] at hb
      rw [hb, show i + 1 + 2 = i + 2 + 1 by omega, cv_onemore _ (by omega) (by omega), show i + 2 - 1 = i + 1 by omega, hm]
      have hS : i * 2 ^ i + 1 ≤ 2 ^ (Q + 1) := by
        have a := Nat.mul_le_mul (show i + 1 ≤ 16 by omega) (Nat.pow_le_pow_right (show 0 < 2 by omega) (show i ≤ Q - 3 by omega))
        have b : 16 * 2 ^ (Q - 3) = 2 ^ (Q + 1) := by rw [show (16 : Nat) = 2 ^ 4 from rfl, ← Nat.pow_add]; congr 1; omega
        rw [b, Nat.add_mul] at a
        omega
      have hC : i + 1 ≤ 2 ^ (Q + 1) := by
        have := Nat.pow_le_pow_right (show 0 < 2 by omega) (show 4 ≤ Q + 1 by omega)
        omega
      have hL : 5 * 2 ^ (Q + 1) * (2 ^ i - 1) + 5 * 2 ^ (Q + 1) * (2 ^ i - 1) + 5 * 2 ^ (Q + 1) ≤ 2 ^ (2 * Q + 2) := by
        rw [← hm]
        have a : 5 * (2 ^ (i + 1) - 1) ≤ 8 * 2 ^ (Q - 2) := by
          have := Nat.pow_le_pow_right (show 0 < 2 by omega) (show i + 1 ≤ Q - 2 by omega)
          omega
        have b : 8 * 2 ^ (Q - 2) = 2 ^ (Q + 1) := by rw [show (8 : Nat) = 2 ^ 3 from rfl, ← Nat.pow_add]; congr 1; omega
        rw [b] at a
        have c := Nat.mul_le_mul_left (2 ^ (Q + 1)) a
        rw [← Nat.pow_add, show Q + 1 + (Q + 1) = 2 * Q + 2 by omega] at c
        rw [show 5 * 2 ^ (Q + 1) * (2 ^ (i + 1) - 1) = 2 ^ (Q + 1) * (5 * (2 ^ (i + 1) - 1)) by rw [Nat.mul_comm 5, Nat.mul_assoc]]
        exact c
      have := rstep_ok (k := k) (by omega) ih (hs_all (by omega) i) (cv_unit _) hC hS hL (by omega)
      rw [show (i + 1) * (k + k + 4) = i * (k + k + 4) + (k + k + 4) by rw [Nat.add_mul, Nat.one_mul]]
      exact this
    · rw [if_neg hbit]
      rw [show Q - (i + 1 + 2) = Q - (i + 3) by omega] at hb ⊢
      rw [show K / 2 ^ (Q - (i + 3)) % 2 = 0 by omega, Int.add_zero] at hb
      rw [hb, show i + 1 + 2 = i + 2 + 1 by omega, cv_double _ (by omega)]
      have hle : 5 * 2 ^ (Q + 1) * (2 ^ i - 1) ≤ 5 * 2 ^ (Q + 1) * (2 ^ (i + 1) - 1) := by rw [hm]; omega
      have hP : i * (k + k + 4) ≤ (i + 1) * (k + k + 4) := Nat.mul_le_mul_right _ (by omega)
      exact ⟨ih.ex, ih.ey, ih.wx.mono hle (Std.le_refl _), ih.wy.mono hle (Std.le_refl _), ih.r1.mono hP (by omega), ih.r2.mono hP (by omega), ih.r3.mono hP (by omega), ih.r4.mono hP (by omega)⟩
end Go.Proofs.YtomdbmjfehoodaaGreatDoor
