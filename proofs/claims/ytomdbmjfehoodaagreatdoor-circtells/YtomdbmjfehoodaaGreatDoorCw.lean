/- Plain mathematics: a cosine by halves, as the program takes it. No program is named here. -/
import Derived.Test.YtomdbmjfehoodaaGreatDoorCh
import Derived.Test.YtomdbmjfehoodaaGreatDoorMP
set_option maxRecDepth 8000
namespace Go.Proofs.YtomdbmjfehoodaaGreatDoor
set_option linter.unusedVariables false
theorem few_one (k : Nat) : Few k 1 := ⟨1, 0, rfl, by have := Nat.two_pow_pos k; show 1 ≤ _; omega⟩
theorem few_eps (k p : Nat) : Few k (eps p) := ⟨1, _, rfl, by have := Nat.two_pow_pos k; show 1 ≤ _; omega⟩
/-- A number of few bits that is not near to 0 is a multiple of no small part. -/
theorem few_parts {k p : Nat} {r : Dyadic} (f : Few k r) (h : eps p ≤ r) : ∃ m : Int, r = dy m (-((p + k : Nat) : Int)) := by
  obtain ⟨Z, E, rfl, hZ⟩ := f.out
  rcases Int.lt_or_le E (-((p + k : Nat) : Int)) with g | g
  · exfalso
    obtain ⟨t, ht⟩ : ∃ t : Nat, -((p + k : Nat) : Int) = E + (t + 1 : Nat) := ⟨(-((p + k : Nat) : Int) - E - 1).toNat, by omega⟩
    have e1 : eps p = dy (2 ^ k * 2 ^ (t + 1)) E := by
      unfold eps
      rw [dy_up, show (2 : Int) ^ k = 1 * 2 ^ k by rw [Int.one_mul], dy_up]; congr 1; omega
    rw [e1, dy_le] at h
    have e2 : ((2 ^ k : Nat) : Int) = 2 ^ k := by rw [Int.natCast_pow]; rfl
    have p1 := pow2_pos k
    have p2 := pow2_pos t
    have : (2 : Int) ^ k * 1 < 2 ^ k * 2 ^ (t + 1) := Int.mul_lt_mul_of_pos_left (by rw [Int.pow_succ]; omega) p1
    omega
  · obtain ⟨t, ht⟩ := Int.eq_ofNat_of_zero_le (show 0 ≤ E + ((p + k : Nat) : Int) by omega)
    exact ⟨Z * 2 ^ t, by rw [dy_up]; congr 1; omega⟩
theorem few_rg {k p : Nat} {r : Dyadic} (f : Few k r) (h : eps p ≤ r) (h1 : r ≤ 1) : Rg (p + k) 1 r := by
  obtain ⟨m, rfl⟩ := few_parts f h
  exact rg_unit (by have := eps_pos p; grind) h1
theorem rg_low {P Q : Nat} {x : Dyadic} (r : Rg P Q x) (h : 0 < x) : eps P ≤ x := by
  obtain ⟨X, rfl, _⟩ := r.out
  rw [← dy_zero (-(P : Int)), dy_lt] at h
  exact dy_le_of (by omega)
theorem eps_sq (p : Nat) : eps p * eps p = eps (p + p) := eps_mul p p
theorem rg_zero1 (P Q : Nat) : Rg P Q 0 := ⟨0, (dy_zero _).symm, by have := pow2_pos (P + Q); omega, pow2_pos _⟩
theorem Rlo.at0 {k : Nat} {r : Dyadic} (h : Rlo k 0 r) : r = 0 := h.uniq (Rlo.zero k)
theorem Rhi.at0 {k : Nat} {r : Dyadic} (h : Rhi k 0 r) : r = 0 := h.uniq (Rhi.zero k)
theorem Rlo.at1 {k : Nat} {r : Dyadic} (h : Rlo k 1 r) : r = 1 := h.uniq ⟨few_one k, by grind, by grind, fun d _ d0 hd => le_of_sq (by grind) (by grind)⟩
theorem Rhi.at1 {k : Nat} {r : Dyadic} (h : Rhi k 1 r) : r = 1 := h.uniq ⟨few_one k, by grind, by grind, fun d _ d0 hd => le_of_sq d0 (by grind)⟩
theorem Rlo.le1 {k : Nat} {x r : Dyadic} (h : Rlo k x r) (hx : x ≤ 1) : r ≤ 1 := le_of_sq (by grind) (by have := h.le; grind)
theorem Rhi.le1 {k : Nat} {x r : Dyadic} (h : Rhi k x r) (hx : x ≤ 1) : r ≤ 1 := h.least 1 (few_one k) (by grind) (by grind)
theorem Rlo.low {k p : Nat} {x r : Dyadic} (h : Rlo k x r) (hx : eps (p + p) ≤ x) : eps p ≤ r := h.most _ (few_eps k p) (by have := eps_pos p; grind) (by rw [eps_sq]; exact hx)
theorem Rhi.low {k p : Nat} {x r : Dyadic} (h : Rhi k x r) (hx : eps (p + p) ≤ x) : eps p ≤ r := le_of_sq h.nn (by rw [eps_sq]; have := h.ge; grind)
theorem Rlo.rg {k p P Q : Nat} {x r : Dyadic} (h : Rlo k x r) (g : Rg P Q x) (h0 : 0 ≤ x) (h1 : x ≤ 1) (hp : P ≤ p + p) : Rg (p + k) 1 r := by
  rcases (show x = 0 ∨ 0 < x by grind) with e | e
  · rw [e] at h; rw [h.at0]; exact rg_zero1 _ _
  · exact few_rg h.few (h.low (by have := rg_low g e; have := eps_mono hp; grind)) (h.le1 h1)
theorem Rhi.rg {k p P Q : Nat} {x r : Dyadic} (h : Rhi k x r) (g : Rg P Q x) (h0 : 0 ≤ x) (h1 : x ≤ 1) (hp : P ≤ p + p) : Rg (p + k) 1 r := by
  rcases (show x = 0 ∨ 0 < x by grind) with e | e
  · rw [e] at h; rw [h.at0]; exact rg_zero1 _ _
  · exact few_rg h.few (h.low (by have := rg_low g e; have := eps_mono hp; grind)) (h.le1 h1)
theorem rg_one (P : Nat) : Rg P 1 1 := by
  have e := dy_unit P
  have e3 : ((2 ^ P : Nat) : Int) = 2 ^ P := by rw [Int.natCast_pow]; rfl
  have := pow2_pos P
  exact ⟨((2 ^ P : Nat) : Int), e.symm, by rw [Int.pow_succ]; omega, by rw [Int.pow_succ]; omega⟩
/-- Half of what is 1 and more. -/
theorem rg_half {P : Nat} {x : Dyadic} (r : Rg P 1 x) : Rg (P + 1) 1 ((x + 1) * dy 1 (-1)) := by
  have e1 := rg_one P
  obtain ⟨X, h, h1, h2⟩ := (r.add e1).out
  rw [h, dy_mul, Int.mul_one]
  exact ⟨X, by congr 1; omega, by rw [show P + 1 + 1 = P + (1 + 1) by omega]; exact h1, by rw [show P + 1 + 1 = P + (1 + 1) by omega]; exact h2⟩
theorem half_eps : dy 1 (-1) = eps 1 := rfl
theorem half_two (x : Dyadic) : x * dy 1 (-1) + x * dy 1 (-1) = x := by
  have := eps_half 0
  rw [eps_zero] at this
  rw [half_eps]
  grind
theorem half_nn {x : Dyadic} (h : 0 ≤ x) : 0 ≤ x * dy 1 (-1) := mul_nn h (by rw [half_eps]; have := eps_pos 1; grind)
theorem half_le {x y : Dyadic} (h : x ≤ y) : x * dy 1 (-1) ≤ y * dy 1 (-1) := mulr h (by rw [half_eps]; have := eps_pos 1; grind)
theorem half_of (x : Dyadic) : RR.of (x * dy 1 (-1)) = hf * RR.of x := by
  rw [RR.of_mul]
  show RR.of x * hf = hf * RR.of x
  grind
/-- The cosine of K parts of 2^q, by roots of k bits. -/
structure Cs (k q : Nat) (lo hi : Dyadic) (x : RR) : Prop where
  en : En lo hi x
  l : -1 ≤ lo
  h : hi ≤ 1
  w0 : q ≤ 2 → lo = hi
  w : hi - lo ≤ eps (k - 2) * big (13 * (q - 2))
  r1 : Rg (k + k + 4) 1 lo
  r2 : Rg (k + k + 4) 1 hi
theorem eb_nn (a b : Nat) : 0 ≤ eps a * big b := mul_nn (by have := eps_pos a; grind) (by have := big_pos b; grind)
theorem Cs.start (k : Nat) (K : Int) : Cs k 0 1 1 (cv (tv K 0)).1 := by
  have e : tv K 0 = 0 := by
    unfold tv
    have : (2 : Int) ^ (40 - 0) = 1099511627776 := p2_40
    rw [this]; omega
  rw [e, cv_zero]
  refine ⟨?_, by grind, by grind, fun _ => rfl, ?_, rg_one _, rg_one _⟩
  · show En 1 1 1
    exact ⟨by rw [RR.of_one]; grind, by rw [RR.of_one]; grind⟩
  · have := eb_nn (k - 2) (13 * (0 - 2)); grind
theorem Cs.neg {k q : Nat} {lo hi : Dyadic} {x : RR} (h : Cs k q lo hi x) : Cs k q (-hi) (-lo) (-x) :=
  ⟨h.en.neg, by have := h.h; grind, by have := h.l; grind, fun g => by rw [h.w0 g], by have := h.w; grind, h.r2.neg, h.r1.neg⟩
/-- What a root is taken of. -/
theorem Cs.into {k q : Nat} {lo hi : Dyadic} {x : RR} (h : Cs k q lo hi x) : 0 ≤ (lo + 1) * dy 1 (-1) ∧ (lo + 1) * dy 1 (-1) ≤ (hi + 1) * dy 1 (-1) ∧ (hi + 1) * dy 1 (-1) ≤ 1 ∧ Rg (k + k + 5) 1 ((lo + 1) * dy 1 (-1)) ∧ Rg (k + k + 5) 1 ((hi + 1) * dy 1 (-1)) ∧ En ((lo + 1) * dy 1 (-1)) ((hi + 1) * dy 1 (-1)) (hf * (1 + x)) := by
  have h1 := h.l; have h2 := h.h; have h3 := h.en.le
  have t := half_two (hi + 1)
  have hfp := hf_pos
  refine ⟨half_nn (by grind), half_le (by grind), ?_, rg_half h.r1, rg_half h.r2, ?_⟩
  · have := half_le (show hi + 1 ≤ 1 + 1 by grind)
    have t2 := half_two (1 + 1)
    have t3 := half_two 1
    grind
  · constructor
    · rw [half_of, RR.of_add, RR.of_one]
      have := RR.mul_nn (show 0 ≤ hf by grind) (show 0 ≤ x - RR.of lo by have := h.en.l; grind)
      grind
    · rw [half_of, RR.of_add, RR.of_one]
      have := RR.mul_nn (show 0 ≤ hf by grind) (show 0 ≤ RR.of hi - x by have := h.en.h; grind)
      grind
theorem en_point {lo : Dyadic} {x : RR} (h : En lo lo x) : RR.of lo = x := by have := h.l; have := h.h; grind
theorem of_inj {a b : Dyadic} (h : RR.of a = RR.of b) : a = b := by
  have := RR.of_le (a := a) (b := b); have := RR.of_le (a := b) (b := a); grind
theorem Cs.step {k q : Nat} {lo hi c d : Dyadic} {K : Int} (ho : K % 2 = 1) (h : Cs k q lo hi (cv (tv K q)).1) (hk : 2 ≤ k) (hq : q + 1 ≤ 14) (g1 : Rlo k ((lo + 1) * dy 1 (-1)) c) (g2 : Rhi k ((hi + 1) * dy 1 (-1)) d) :
    Cs k (q + 1) c d (hf * (1 + (cv (tv K q)).1)).root := by
  obtain ⟨i0, i1, i2, i3, i4, i5⟩ := h.into
  refine ⟨i5.root i0 g1 g2, by have := g1.nn; grind, g2.le1 i2, fun hq2 => ?_, ?_, (g1.rg i3 i0 (by grind) (p := k + 3) (by omega)).mono (by omega) (by omega), (g2.rg i4 (by grind) i2 (p := k + 3) (by omega)).mono (by omega) (by omega)⟩
  · have w0 := h.w0 (by omega)
    have en := h.en
    rw [← w0] at g2 en
    have hx := en_point en
    rcases (show q = 0 ∨ q = 1 by omega) with rfl | rfl
    · have e : tv K 0 = 0 := by
        unfold tv
        have : (2 : Int) ^ (40 - 0) = 1099511627776 := p2_40
        rw [this]; omega
      rw [e, cv_zero] at hx
      have hlo : lo = 1 := of_inj (by rw [hx, RR.of_one])
      have e1 : (lo + 1) * dy 1 (-1) = 1 := by have := half_two 1; rw [hlo]; grind
      rw [e1] at g1 g2
      rw [g1.at1, g2.at1]
    · have e : tv K 1 = 549755813888 := by
        have e1 : tv K 1 = K * 549755813888 % 1099511627776 := rfl
        omega
      rw [e, cv_q2] at hx
      have hlo : lo = -1 := of_inj (by rw [hx, RR.of_neg, RR.of_one])
      have e1 : (lo + 1) * dy 1 (-1) = 0 := by rw [hlo]; grind
      rw [e1] at g1 g2
      rw [g1.at0, g2.at0]
  · rcases (show q ≤ 1 ∨ 2 ≤ q by omega) with hq2 | hq2
    · -- exact
      have w0 := h.w0 (by omega)
      have en := h.en
      rw [← w0] at g2 en
      have hx := en_point en
      have hcd : c = d := by
        rcases (show q = 0 ∨ q = 1 by omega) with rfl | rfl
        · have e : tv K 0 = 0 := by
            unfold tv
            have : (2 : Int) ^ (40 - 0) = 1099511627776 := p2_40
            rw [this]; omega
          rw [e, cv_zero] at hx
          have hlo : lo = 1 := of_inj (by rw [hx, RR.of_one])
          have e1 : (lo + 1) * dy 1 (-1) = 1 := by have := half_two 1; rw [hlo]; grind
          rw [e1] at g1 g2
          rw [g1.at1, g2.at1]
        · have e : tv K 1 = 549755813888 := by
            have e1 : tv K 1 = K * 549755813888 % 1099511627776 := rfl
            omega
          rw [e, cv_q2] at hx
          have hlo : lo = -1 := of_inj (by rw [hx, RR.of_neg, RR.of_one])
          have e1 : (lo + 1) * dy 1 (-1) = 0 := by rw [hlo]; grind
          rw [e1] at g1 g2
          rw [g1.at0, g2.at0]
      have := eb_nn (k - 2) (13 * (q + 1 - 2))
      grind
    · obtain ⟨j, rfl⟩ : ∃ j, q = j + 2 := ⟨q - 2, by omega⟩
      obtain ⟨k', rfl⟩ : ∃ k', k = k' + 2 := ⟨k - 2, by omega⟩
      have hw := h.w
      rw [show k' + 2 - 2 = k' by omega, show j + 2 - 2 = j by omega] at hw
      rw [show k' + 2 - 2 = k' by omega, show j + 2 + 1 - 2 = j + 1 by omega]
      have sl := (sin_lo ho (j + 1) (by omega)).2 (by omega)
      rw [show j + 1 + 2 = j + 2 + 1 by omega, cos_half (by omega)] at sl
      have nn := RR.sq_nn (cv (tv K (j + 2 + 1))).1
      rw [cos_half (by omega)] at nn
      have hj : RR.of (eps (j + 1)) ≤ (hf * (1 + (cv (tv K (j + 2))).1)).root := RR.sq_le (RR.root_nn _) (by rw [RR.root_sq nn]; exact sl)
      have wd := root_width (k := k' + 1) (δ := (hi - lo) * dy 1 (-1)) i5 i0 i2 g1 g2 (by grind) hj
      have t1 := half_two (hi - lo)
      have t0 := half_nn (show 0 ≤ hi - lo by have := h.en.le; grind)
      have m1 := mulr (a := (hi - lo) * dy 1 (-1)) (x := hi - lo) (y := big (j + 1)) (by grind) (by have := big_pos (j + 1); grind)
      have m2 := mulr (y := big (j + 1)) hw (by have := big_pos (j + 1); grind)
      have e1 : eps k' * big (13 * j) * big (j + 1) = eps k' * big (13 * j + (j + 1)) := by
        rw [Dyadic.mul_assoc]; congr 1
        unfold big; rw [dy_mul]; congr 1
      have e2 := eps_half k'
      have b1 := big_mono (show 13 * j + (j + 1) ≤ 13 * (j + 1) - 1 by omega)
      have b2 := big_double (13 * (j + 1) - 1)
      rw [show 13 * (j + 1) - 1 + 1 = 13 * (j + 1) by omega] at b2
      have b3 := big_mono (show 0 ≤ 13 * (j + 1) - 1 by omega)
      rw [big_zero] at b3
      have ep := eps_pos k'
      have m3 := mulr' (a := -big (13 * (j + 1) - 1)) (x := -big (13 * j + (j + 1))) (y := -eps k') (by grind) (by grind)
      have m4 := mulr' (a := -big (13 * (j + 1) - 1)) (x := -1) (y := -eps k') (by grind) (by grind)
      rw [b2]
      rw [e1] at m2
      grind
/-- What the ends tell. -/
theorem Cs.told {k q n : Nat} {lo hi : Dyadic} {x : RR} (h : Cs k q lo hi x) (hf : Far x) (hn : n ≤ 110) (hq : q ≤ 14) (hk : n + 194 ≤ k) : -flo n (-hi) + -flo n lo ≤ eps n := by
  have hw := h.w
  have e : eps (k - 2) * big (13 * (q - 2)) ≤ eps (n + 36) := by
    have b := big_mono (show 13 * (q - 2) ≤ 156 by omega)
    have m := mulr' (a := -big 156) (x := -big (13 * (q - 2))) (y := -eps (k - 2)) (by grind) (by have := eps_pos (k - 2); grind)
    have e1 : eps (k - 2) * big 156 = eps (k - 2 - 156) := by
      unfold eps big; rw [dy_mul]; congr 1; omega
    have e2 := eps_mono (show n + 36 ≤ k - 2 - 156 by omega)
    grind
  obtain ⟨m, f1, f2, f3⟩ := (flo_spec n lo).out
  obtain ⟨m', c1, c2, c3⟩ := (flo_spec n (-hi)).out
  rw [f1] at f2
  rw [c1] at c2
  have d1 : -dy m' (-(n : Int)) = dy (-m') (-(n : Int)) := dy_neg _ _
  have d2 : -dy (m' + 1) (-(n : Int)) = dy (-m' - 1) (-(n : Int)) := by rw [dy_neg]; congr 1; omega
  have hh := eps_half (n + 35)
  have hp := eps_pos (n + 36)
  rw [show n + 35 + 1 = n + 36 by omega] at hh
  have := tgt_narrow (n := n) (m := m) (m' := -m') hf hn h.en.l h.en.h (by grind) f2 f3 (by grind) (by grind)
  rw [f1, c1, d1, dy_neg, dy_add]
  unfold eps
  exact dy_le_of (by omega)
/-- The ends, once they are near enough, are what is to be told. -/
theorem told_far {n : Nat} {lo hi : Dyadic} {x : RR} (h : En lo hi x) (hf : Far x) (hn : n ≤ 110) (hw : -flo n (-hi) + -flo n lo ≤ eps n) : Tgt n x (flo n lo) (-flo n (-hi)) := by
  obtain ⟨m, f1, f2, f3⟩ := (flo_spec n lo).out
  obtain ⟨m', c1, c2, c3⟩ := (flo_spec n (-hi)).out
  rw [f1, c1] at hw
  rw [f1] at f2
  rw [c1] at c2
  rw [f1, c1, dy_neg]
  rw [dy_neg, dy_neg, dy_add] at hw
  unfold eps at hw
  rw [dy_le] at hw
  have d1 : -dy m' (-(n : Int)) = dy (-m') (-(n : Int)) := dy_neg _ _
  refine tgt_of_far hf hn (Std.le_trans (RR.of_le.2 f2) h.l) (Std.le_trans h.h (RR.of_le.2 (by grind))) (by omega)
theorem told_point {n : Nat} {z : Int} {x : RR} (h : En (dy z 0) (dy z 0) x) : Tgt n x (flo n (dy z 0)) (-flo n (-dy z 0)) ∧ -flo n (-dy z 0) + -flo n (dy z 0) ≤ eps n := by
  have e1 : flo n (dy z 0) = dy z 0 := (flo_same (by omega)).is
  have e2 : flo n (-dy z 0) = -dy z 0 := by rw [dy_neg]; exact (flo_same (by omega)).is
  rw [e1, e2]
  have := tgt_point n z x (en_point h).symm
  have e3 : - -dy z 0 = dy z 0 := by grind
  rw [e3]
  exact ⟨this, by have := eps_pos n; grind⟩
theorem quarters {v k : Int} {q : Nat} (h : Fm v k q) (hq : q ≤ 2) : v = 0 ∨ v = 274877906944 ∨ v = 549755813888 ∨ v = 824633720832 := by
  rcases h.out with ⟨h1, _, _⟩ | ⟨o1, o2, o3, o4, o5⟩
  · exact .inl h1
  · rcases (show q = 0 ∨ q = 1 ∨ q = 2 by omega) with rfl | rfl | rfl
    · have : (2 : Int) ^ 0 = 1 := rfl
      omega
    · have e1 : (2 : Int) ^ 1 = 2 := rfl
      have e2 : (2 : Int) ^ (40 - 1) = 549755813888 := by decide
      rw [e2] at o5; omega
    · have e1 : (2 : Int) ^ 2 = 4 := rfl
      have e2 : (2 : Int) ^ (40 - 2) = 274877906944 := by decide
      rw [e2] at o5; omega
theorem quarter_num {v k : Int} {q : Nat} (h : Fm v k q) (hq : q ≤ 2) : ∃ z y : Int, (cv v).1 = RR.of (dy z 0) ∧ (cv v).2 = RR.of (dy y 0) ∧ z * z + y * y = 1 := by
  have o1 : RR.of (dy 1 0) = 1 := RR.of_one
  have o0 : RR.of (dy 0 0) = 0 := RR.of_zero
  have o2 : RR.of (dy (-1) 0) = -1 := by rw [← dy_neg, RR.of_neg, o1]
  rcases quarters h hq with rfl | rfl | rfl | rfl
  · exact ⟨1, 0, by rw [cv_zero, o1], by rw [cv_zero, o0], rfl⟩
  · exact ⟨0, 1, by rw [cv_quarter, o0], by rw [cv_quarter, o1], rfl⟩
  · exact ⟨-1, 0, by rw [cv_q2, o2], by rw [cv_q2, o0], rfl⟩
  · exact ⟨0, -1, by rw [cv_q3, o0], by rw [cv_q3, o2], rfl⟩
/-- All of it: the enclosure tells, or more bits are wanted. -/
theorem Cs.tells {b n q : Nat} {k : Int} {v : Int} {lo hi : Dyadic} (h : Cs b q lo hi (cv v).1) (f : Fm v k q) (hq : q ≤ 14) (hn : n ≤ 110) :
    (-flo n (-hi) + -flo n lo ≤ eps n → flo n lo = tlo n (cv v).1 ∧ -flo n (-hi) = thi n (cv v).1) ∧ (n + 194 ≤ b → -flo n (-hi) + -flo n lo ≤ eps n) := by
  rcases (show q ≤ 2 ∨ 3 ≤ q by omega) with q2 | q3
  · obtain ⟨z, y, e1, _, _⟩ := quarter_num f q2
    have w0 := h.w0 q2
    have en := h.en
    rw [← w0] at en ⊢
    have hx := en_point en
    rw [e1] at hx
    have hlo := of_inj hx
    rw [hlo] at en ⊢
    obtain ⟨t1, t2⟩ := told_point (n := n) en
    exact ⟨fun _ => ⟨t1.is.1.symm, t1.is.2.symm⟩, fun _ => t2⟩
  · have far := (far_cv f q3 hq).1
    refine ⟨fun hw => ?_, fun hb => h.told far hn hq hb⟩
    have t := told_far h.en far hn hw
    exact ⟨t.is.1.symm, t.is.2.symm⟩
theorem flo_rg {n P : Nat} {d : Dyadic} (h1 : -1 ≤ d) (h2 : d ≤ 1) : Rg n 2 (flo n d) := by
  obtain ⟨m, f1, f2, f3⟩ := (flo_spec n d).out
  rw [f1] at f2 ⊢
  have e := dy_unit n
  have a : dy m (-(n : Int)) ≤ dy ((2 ^ n : Nat) : Int) (-(n : Int)) := by rw [e]; grind
  have b : dy (-((2 ^ n : Nat) : Int)) (-(n : Int)) < dy (m + 1) (-(n : Int)) := by rw [← dy_neg, e]; grind
  rw [dy_le] at a
  rw [dy_lt] at b
  have e3 : ((2 ^ n : Nat) : Int) = 2 ^ n := by rw [Int.natCast_pow]; rfl
  have := pow2_pos n
  exact ⟨m, rfl, by rw [Int.pow_succ, Int.pow_succ]; omega, by rw [Int.pow_succ, Int.pow_succ]; omega⟩
end Go.Proofs.YtomdbmjfehoodaaGreatDoor
