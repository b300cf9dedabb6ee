/- Plain mathematics: signs and sizes of cosines and sines; what is told of a number. No program is named here. -/
import Derived.Test.YtomdbmjfehoodaaGreatDoorEn
import Derived.Test.YtomdbmjfehoodaaGreatDoorMY
set_option maxRecDepth 8000
namespace Go.Proofs.YtomdbmjfehoodaaGreatDoor
set_option linter.unusedVariables false
/-- In the first quarter both parts are at least 0. -/
theorem quad : ∀ j, j ≤ 38 → ∀ m, m ≤ 2 ^ j → 0 ≤ (ev (m * 2 ^ (38 - j))).1 ∧ 0 ≤ (ev (m * 2 ^ (38 - j))).2
  | 0, _, m, hm => by
    have h1 : m = 0 ∨ m = 1 := by have : (2 : Nat) ^ 0 = 1 := rfl; omega
    rcases h1 with rfl | rfl
    · rw [Nat.zero_mul]
      exact ⟨by show (0 : RR) ≤ 1; grind, by show (0 : RR) ≤ 0; grind⟩
    · rw [Nat.one_mul, show 38 - 0 = 38 from rfl, ev_quarter]
      exact ⟨by show (0 : RR) ≤ 0; grind, by show (0 : RR) ≤ 1; grind⟩
  | j + 1, hj, m, hm => by
    have e0 : 2 ^ (38 - j) = 2 * 2 ^ (38 - (j + 1)) := by rw [show 38 - j = 38 - (j + 1) + 1 by omega, Nat.pow_succ]; omega
    have ep : 2 ^ (j + 1) = 2 * 2 ^ j := by rw [Nat.pow_succ]; omega
    rcases (show m % 2 = 0 ∨ m % 2 = 1 by omega) with hp | hp
    · have := quad j (by omega) (m / 2) (by omega)
      rw [e0, show m / 2 * (2 * 2 ^ (38 - (j + 1))) = m * 2 ^ (38 - (j + 1)) by rw [← Nat.mul_assoc]; congr 1; omega] at this
      exact this
    · have a := quad j (by omega) (m / 2) (by omega)
      have b := quad j (by omega) (m / 2 + 1) (by omega)
      have hh : ev (2 ^ (38 - (j + 1))) = hv (j + 1) := by rw [ev_half _ (by omega)]; congr 1; omega
      have ea : m * 2 ^ (38 - (j + 1)) = m / 2 * 2 ^ (38 - j) + 2 ^ (38 - (j + 1)) := by
        rw [e0, ← Nat.mul_assoc, show m / 2 * 2 = m - 1 by omega]
        conv => lhs; rw [show m = m - 1 + 1 by omega, Nat.add_mul, Nat.one_mul]
      have eb : (m / 2 + 1) * 2 ^ (38 - j) = m * 2 ^ (38 - (j + 1)) + 2 ^ (38 - (j + 1)) := by rw [ea, Nat.add_mul, Nat.one_mul, e0]; omega
      rw [eb, ev_add, hh] at b
      have z1 : ev (m * 2 ^ (38 - (j + 1))) = cm (ev (m / 2 * 2 ^ (38 - j))) (hv (j + 1)) := by rw [ea, ev_add, hh]
      generalize hz : ev (m * 2 ^ (38 - (j + 1))) = z at *
      generalize ev (m / 2 * 2 ^ (38 - j)) = p at *
      have u := (hv_spec (j + 1)).1
      have lo := hv_cos_lo j
      have hp0 := hf_pos
      generalize hv (j + 1) = q at *
      have z2 : z.1 = p.1 * q.1 - p.2 * q.2 := by rw [z1]; rfl
      have z3 : z.2 = p.1 * q.2 + p.2 * q.1 := by rw [z1]; rfl
      have b1 : 0 ≤ z.1 * q.1 - z.2 * q.2 := b.1
      have b2 : 0 ≤ z.1 * q.2 + z.2 * q.1 := b.2
      have a1 := a.1
      have a2 := a.2
      clear a b z1 hz hh ea eb
      generalize z.1 = x at *
      generalize z.2 = y at *
      generalize p.1 = s at *
      generalize p.2 = t at *
      generalize q.1 = c at *
      generalize q.2 = d at *
      have k1 : s = x * c + y * d := by grind
      have k2 : t = y * c - x * d := by grind
      have c0 : 0 < c := by grind
      have hneg : ∀ v : RR, 0 ≤ v * c + v * c → 0 ≤ v := fun v hv => by
        apply Classical.byContradiction
        intro hn
        have := RR.mul_lt (show v < 0 by grind) c0
        grind
      exact ⟨hneg x (by grind), hneg y (by grind)⟩
theorem first_quarter {v : Int} (h0 : 0 ≤ v) (h1 : v ≤ 274877906944) : 0 ≤ (cv v).1 ∧ 0 ≤ (cv v).2 := by
  have := quad 38 (by omega) v.toNat (by have : (2 : Nat) ^ 38 = 274877906944 := by decide
                                         omega)
  rw [show 2 ^ (38 - 38) = 1 from rfl, Nat.mul_one, ← cv_nat, show ((v.toNat : Nat) : Int) = v by omega] at this
  exact this
theorem cos_sign {v : Int} (h0 : 0 ≤ v) (h1 : v < 1099511627776) : (plCos (eighth v) = true → (cv v).1 ≤ 0) ∧ (plCos (eighth v) = false → 0 ≤ (cv v).1) := by
  obtain ⟨_, _, r0, r1⟩ := rest_range h0 h1
  obtain ⟨q0, q1⟩ := first_quarter r0 (by omega)
  have e := cv_place h0 h1
  generalize plCos (eighth v) = b at *
  generalize plSwap (eighth v) = s at *
  generalize plSin (eighth v) = d at *
  rw [e]
  unfold placed
  cases b <;> cases s <;> constructor <;> intro h <;> simp at h ⊢ <;> grind
theorem tv_two {K : Int} {q : Nat} (hq : q + 1 ≤ 40) : cv (tv K q) = cm (cv (tv K (q + 1))) (cv (tv K (q + 1))) := by
  rw [← cv_add]
  apply cv_mod
  unfold tv
  rw [show 40 - q = 40 - (q + 1) + 1 by omega, Int.pow_succ, ← Int.mul_assoc]
  generalize K * 2 ^ (40 - (q + 1)) = X
  omega
theorem RR.four (x y : RR) (h : x * x + y * y = 1) : (x * y + y * x) * (x * y + y * x) ≤ (x + x) * (x + x) ∧ (x * y + y * x) * (x * y + y * x) ≤ (y + y) * (y + y) := by
  have h1 := RR.sq_nn x
  have h2 := RR.sq_nn y
  have e : (x * y + y * x) * (x * y + y * x) = ((x + x) * (x + x)) * (y * y) := by grind
  have e2 : (x * y + y * x) * (x * y + y * x) = ((y + y) * (y + y)) * (x * x) := by grind
  have p1 := RR.mul_nn (show 0 ≤ (x + x) * (x + x) from RR.sq_nn _) (show 0 ≤ 1 - y * y by grind)
  have p2 := RR.mul_nn (show 0 ≤ (y + y) * (y + y) from RR.sq_nn _) (show 0 ≤ 1 - x * x by grind)
  constructor
  · rw [e]; grind
  · rw [e2]; grind
/-- Of an odd number of parts neither is near to 0. -/
theorem sin_lo {K : Int} (ho : K % 2 = 1) : ∀ j, j + 2 ≤ 40 → RR.of (eps j) * RR.of (eps j) ≤ (cv (tv K (j + 2))).2 * (cv (tv K (j + 2))).2 ∧ (1 ≤ j → RR.of (eps j) * RR.of (eps j) ≤ (cv (tv K (j + 2))).1 * (cv (tv K (j + 2))).1)
  | 0, _ => by
    refine ⟨?_, fun h => by omega⟩
    have e : tv K (0 + 2) = 274877906944 ∨ tv K (0 + 2) = 824633720832 := by
      have e1 : tv K (0 + 2) = K * 274877906944 % 1099511627776 := rfl
      omega
    rw [eps_zero, RR.of_one]
    rcases e with e | e
    · rw [e, cv_quarter]; show (1 : RR) * 1 ≤ 1 * 1; grind
    · rw [e, cv_q3]; show (1 : RR) * 1 ≤ -1 * -1; grind
  | j + 1, hj => by
    have ih := (sin_lo ho j (by omega)).1
    have u := cv_unit (tv K (j + 1 + 2))
    rw [show tv K (j + 2) = tv K (j + 2) from rfl, tv_two (show j + 2 + 1 ≤ 40 by omega), show j + 2 + 1 = j + 1 + 2 by omega] at ih
    unfold Unit at u
    generalize cv (tv K (j + 1 + 2)) = p at *
    have ih2 : RR.of (eps j) * RR.of (eps j) ≤ (p.1 * p.2 + p.2 * p.1) * (p.1 * p.2 + p.2 * p.1) := ih
    obtain ⟨f1, f2⟩ := RR.four p.1 p.2 u
    have he : RR.of (eps j) = RR.of (eps (j + 1)) + RR.of (eps (j + 1)) := by rw [← RR.of_add, eps_half]
    rw [he] at ih2
    exact ⟨by grind, fun _ => by grind⟩
theorem of_eps_nn (k : Nat) : (0 : RR) ≤ RR.of (eps k) := by rw [← RR.of_zero]; exact RR.of_le.2 (by have := eps_pos k; grind)
theorem hf_mul (x : RR) : hf * x + hf * x = x := by rw [show hf * x + hf * x = (hf + hf) * x by grind, hf_two]; grind
/-- The half angle's cosine is a root, but for its sign. -/
theorem cos_half {K : Int} {q : Nat} (hq : q + 1 ≤ 40) : (cv (tv K (q + 1))).1 * (cv (tv K (q + 1))).1 = hf * (1 + (cv (tv K q)).1) := by
  have u := cv_unit (tv K (q + 1))
  rw [tv_two hq]
  unfold Unit at u
  generalize cv (tv K (q + 1)) = p at *
  have e : (cm p p).1 = p.1 * p.1 - p.2 * p.2 := rfl
  rw [e]
  have := hf_mul (1 + (p.1 * p.1 - p.2 * p.2))
  grind
theorem cos_root {K : Int} {q : Nat} (hq : q + 1 ≤ 40) : (plCos (eighth (tv K (q + 1))) = true → -(cv (tv K (q + 1))).1 = (hf * (1 + (cv (tv K q)).1)).root) ∧ (plCos (eighth (tv K (q + 1))) = false → (cv (tv K (q + 1))).1 = (hf * (1 + (cv (tv K q)).1)).root) := by
  have h := cos_half (K := K) hq
  have r := tv_range K (q + 1)
  obtain ⟨s1, s2⟩ := cos_sign r.1 r.2
  have nn := RR.sq_nn (cv (tv K (q + 1))).1
  rw [h] at nn
  have a := RR.root_sq nn
  have b := RR.root_nn (hf * (1 + (cv (tv K q)).1))
  refine ⟨fun e => RR.sq_uniq (by have := s1 e; grind) b (by rw [a, ← h]; grind), fun e => RR.sq_uniq (s2 e) b (by rw [a, h])⟩
/-- What is to be told is there. -/
theorem tgt_there (n : Nat) {x : RR} (h1 : -1 ≤ x) (h2 : x ≤ 1) : ∃ lo hi, Tgt n x lo hi := by
  have e1 : dy ((2 ^ n : Nat) : Int) (-(n : Int)) = 1 := by
    have := dy_whole n 1
    rw [Nat.one_mul] at this
    rw [this]; rfl
  have e2 : dy (((0 : Nat) : Int) - ((2 ^ n : Nat) : Int)) (-(n : Int)) = -1 := by rw [show ((0 : Nat) : Int) - ((2 ^ n : Nat) : Int) = -((2 ^ n : Nat) : Int) by omega, ← dy_neg, e1]
  have e3 : ¬ RR.of (dy (((2 * 2 ^ n + 1 : Nat) : Int) - ((2 ^ n : Nat) : Int)) (-(n : Int))) ≤ x := by
    have e4 : dy (((2 * 2 ^ n + 1 : Nat) : Int) - ((2 ^ n : Nat) : Int)) (-(n : Int)) = 1 + eps n := by
      rw [show ((2 * 2 ^ n + 1 : Nat) : Int) - ((2 ^ n : Nat) : Int) = ((2 ^ n : Nat) : Int) + 1 by omega, ← dy_add, e1]; rfl
    rw [e4]
    intro h
    have : (1 : RR) < RR.of (1 + eps n) := by rw [← RR.of_one]; exact RR.of_lt.2 (by have := eps_pos n; grind)
    grind
  have z1 : RR.of (-1) = -1 := by rw [RR.of_neg, RR.of_one]
  obtain ⟨r, k1, k2⟩ := last_of (p := fun r => RR.of (dy ((r : Int) - ((2 ^ n : Nat) : Int)) (-(n : Int))) ≤ x) (by rw [e2, z1]; exact h1) _ e3
  generalize hm : (r : Int) - ((2 ^ n : Nat) : Int) = m at *
  have hm1 : ((r + 1 : Nat) : Int) - ((2 ^ n : Nat) : Int) = m + 1 := by omega
  rw [hm1] at k2
  by_cases hx : RR.of (dy m (-(n : Int))) = x
  · exact ⟨_, _, m, m, rfl, rfl, k1, by grind, .inl rfl⟩
  · exact ⟨_, _, m, m + 1, rfl, rfl, k1, by grind, .inr ⟨rfl, by grind, by grind⟩⟩
open Classical in
/-- The ends that are to be told. -/
noncomputable def tlo (n : Nat) (x : RR) : Dyadic := if h : ∃ lo hi, Tgt n x lo hi then h.choose else 0
open Classical in
noncomputable def thi (n : Nat) (x : RR) : Dyadic := if h : ∃ lo hi, Tgt n x lo hi then h.choose_spec.choose else 0
theorem Tgt.is {n : Nat} {x : RR} {lo hi : Dyadic} (h : Tgt n x lo hi) : tlo n x = lo ∧ thi n x = hi := by
  have hx : ∃ lo hi, Tgt n x lo hi := ⟨_, _, h⟩
  unfold tlo thi
  rw [dif_pos hx, dif_pos hx]
  exact hx.choose_spec.choose_spec.uniq h
theorem tgt_at (n : Nat) {x : RR} (h1 : -1 ≤ x) (h2 : x ≤ 1) : Tgt n x (tlo n x) (thi n x) := by
  obtain ⟨lo, hi, h⟩ := tgt_there n h1 h2
  rw [h.is.1, h.is.2]; exact h
theorem Tgt.en {n : Nat} {x : RR} {lo hi : Dyadic} (h : Tgt n x lo hi) : En lo hi x := by
  obtain ⟨m, m', rfl, rfl, a, b, _⟩ := h.out
  exact ⟨a, b⟩
theorem Tgt.most {n : Nat} {x : RR} {lo hi : Dyadic} (h : Tgt n x lo hi) {z : Int} (g : RR.of (dy z (-(n : Int))) ≤ x) : dy z (-(n : Int)) ≤ lo := by
  obtain ⟨m, m', rfl, rfl, a, b, c⟩ := h.out
  rcases c with rfl | ⟨rfl, c1, c2⟩
  · exact RR.of_le.1 (by grind)
  · have := of_dy_lt (show RR.of (dy z (-(n : Int))) < RR.of (dy (m + 1) (-(n : Int))) by grind)
    exact dy_le_of (by omega)
theorem Tgt.least {n : Nat} {x : RR} {lo hi : Dyadic} (h : Tgt n x lo hi) {z : Int} (g : x ≤ RR.of (dy z (-(n : Int)))) : hi ≤ dy z (-(n : Int)) := by
  obtain ⟨m, m', rfl, rfl, a, b, c⟩ := h.out
  rcases c with rfl | ⟨rfl, c1, c2⟩
  · exact RR.of_le.1 (by grind)
  · have := of_dy_lt (show RR.of (dy m (-(n : Int))) < RR.of (dy z (-(n : Int))) by grind)
    exact dy_le_of (by omega)
theorem dy_unit (n : Nat) : dy ((2 ^ n : Nat) : Int) (-(n : Int)) = 1 := by
  have := dy_whole n 1
  rw [Nat.one_mul] at this
  rw [this]; rfl
theorem Tgt.unit {n : Nat} {x : RR} {lo hi : Dyadic} (h : Tgt n x lo hi) (h1 : -1 ≤ x) (h2 : x ≤ 1) : -1 ≤ lo ∧ lo ≤ hi ∧ hi ≤ 1 := by
  have e := dy_unit n
  have e2 : dy (-((2 ^ n : Nat) : Int)) (-(n : Int)) = -1 := by rw [← dy_neg, e]
  have a := h.most (z := -((2 ^ n : Nat) : Int)) (by rw [e2, RR.of_neg, RR.of_one]; exact h1)
  have b := h.least (z := ((2 ^ n : Nat) : Int)) (by rw [e, RR.of_one]; exact h2)
  rw [e2] at a
  rw [e] at b
  exact ⟨a, h.en.le, b⟩
theorem rg_unit {n : Nat} {z : Int} (h1 : -1 ≤ dy z (-(n : Int))) (h2 : dy z (-(n : Int)) ≤ 1) : Rg n 1 (dy z (-(n : Int))) := by
  have e := dy_unit n
  rw [← e] at h1 h2
  rw [dy_neg, dy_le] at h1
  rw [dy_le] at h2
  have := pow2_pos n
  have e3 : ((2 ^ n : Nat) : Int) = 2 ^ n := by rw [Int.natCast_pow]; rfl
  exact ⟨z, rfl, by rw [Int.pow_succ]; omega, by rw [Int.pow_succ]; omega⟩
theorem Tgt.rg {n : Nat} {x : RR} {lo hi : Dyadic} (h : Tgt n x lo hi) (h1 : -1 ≤ x) (h2 : x ≤ 1) : Rg n 1 lo ∧ Rg n 1 hi := by
  obtain ⟨u1, u2, u3⟩ := h.unit h1 h2
  obtain ⟨m, m', rfl, rfl, _⟩ := h.out
  exact ⟨rg_unit u1 (by grind), rg_unit (by grind) u3⟩
/-- With more bits. -/
theorem Tgt.more {n m : Nat} {x : RR} {a b c d : Dyadic} (h : Tgt n x a b) (g : Tgt m x c d) (hm : n ≤ m) : a ≤ c ∧ d ≤ b := by
  obtain ⟨j, rfl⟩ := Nat.exists_eq_add_of_le hm
  have hu : ∀ z : Int, dy z (-(n : Int)) = dy (z * 2 ^ j) (-((n + j : Nat) : Int)) := fun z => by rw [dy_up]; congr 1; omega
  have e := h.en
  obtain ⟨p, p', rfl, rfl, _⟩ := h.out
  rw [hu, hu] at e ⊢
  exact ⟨g.most e.l, g.least e.h⟩
theorem tgt_point (n : Nat) (z : Int) (x : RR) (hx : x = RR.of (dy z 0)) : Tgt n x (dy z 0) (dy z 0) := by
  have e : dy z 0 = dy (z * 2 ^ n) (-(n : Int)) := by rw [dy_up]; congr 1; omega
  rw [hx]
  exact ⟨z * 2 ^ n, z * 2 ^ n, e, e, by grind, by grind, .inl rfl⟩
theorem Tgt.apart {n : Nat} {x : RR} {lo hi : Dyadic} (h : Tgt n x lo hi) (hf : Far x) (hn : n ≤ 110) : hi = lo + eps n := by
  obtain ⟨m, m', rfl, rfl, a, b, c⟩ := h.out
  rcases c with rfl | ⟨rfl, _, _⟩
  · exfalso
    have pos : (0 : RR) < RR.of (eps (n + 35)) := by rw [← RR.of_zero]; exact RR.of_lt.2 (eps_pos _)
    rcases hf.out n m hn with g | g <;> grind
  · unfold eps; rw [dy_add]
theorem cv_range (v : Int) : (-1 ≤ (cv v).1 ∧ (cv v).1 ≤ 1) ∧ -1 ≤ (cv v).2 ∧ (cv v).2 ≤ 1 := by
  have u := cv_unit v
  unfold Unit at u
  exact ⟨unit_le u, unit_le (c := (cv v).2) (s := (cv v).1) (by grind)⟩
/-- What is greatest of the multiples of a part that are at most d. -/
structure Flo (n : Nat) (d f : Dyadic) : Prop where
  out : ∃ m : Int, f = dy m (-(n : Int)) ∧ f ≤ d ∧ d < dy (m + 1) (-(n : Int))
theorem Flo.uniq {n : Nat} {d f g : Dyadic} (h : Flo n d f) (k : Flo n d g) : f = g := by
  obtain ⟨a, rfl, h1, h2⟩ := h.out
  obtain ⟨b, rfl, k1, k2⟩ := k.out
  have := (dy_lt (e := -(n : Int))).1 (show dy a (-(n : Int)) < dy (b + 1) (-(n : Int)) by grind)
  have := (dy_lt (e := -(n : Int))).1 (show dy b (-(n : Int)) < dy (a + 1) (-(n : Int)) by grind)
  have : a = b := by omega
  rw [this]
theorem flo_there (n : Nat) (d : Dyadic) : ∃ f, Flo n d f := by
  obtain ⟨m, h1, h2⟩ := floor_there d n
  exact ⟨_, m, rfl, h1, h2⟩
noncomputable def flo (n : Nat) (d : Dyadic) : Dyadic := (flo_there n d).choose
theorem flo_spec (n : Nat) (d : Dyadic) : Flo n d (flo n d) := (flo_there n d).choose_spec
theorem Flo.is {n : Nat} {d f : Dyadic} (h : Flo n d f) : flo n d = f := (flo_spec n d).uniq h
/-- A number without more bits. -/
theorem flo_same {n : Nat} {z e : Int} (h : -(n : Int) ≤ e) : Flo n (dy z e) (dy z e) := by
  obtain ⟨t, ht⟩ := Int.eq_ofNat_of_zero_le (show 0 ≤ e + (n : Int) by omega)
  have e1 : dy z e = dy (z * 2 ^ t) (-(n : Int)) := by rw [dy_up]; congr 1; omega
  exact ⟨z * 2 ^ t, e1, Std.le_refl _, by rw [e1, dy_lt]; omega⟩
/-- What is left out below. -/
theorem flo_down {n k : Nat} {z e : Int} (h : -e - (n : Int) = (k : Int)) : Flo n (dy z e) (dy (z / 2 ^ k) (-(n : Int))) := by
  have e1 : ∀ m : Int, dy m (-(n : Int)) = dy (m * 2 ^ k) e := fun m => by rw [dy_up]; congr 1; omega
  have h1 := Int.ediv_mul_le z (Int.ne_of_gt (pow2_pos k))
  have h2 := Int.lt_ediv_add_one_mul_self z (pow2_pos k)
  exact ⟨z / 2 ^ k, rfl, by rw [e1]; exact dy_le_of h1, by rw [e1]; exact dy_lt.2 h2⟩
/-- As the program takes it: below 0 the number of parts is one more, since something is left out. -/
theorem flo_parts {n k : Nat} {z e : Int} (hc : Canon z e) (h : -e - (n : Int) = (k : Int)) (hk : 0 < k) : Flo n (dy z e) (dy (sg (decide (z < 0)) (if z < 0 then z.natAbs / 2 ^ k + 1 else z.natAbs / 2 ^ k)) (-(n : Int))) := by
  have key : sg (decide (z < 0)) (if z < 0 then z.natAbs / 2 ^ k + 1 else z.natAbs / 2 ^ k) = z / 2 ^ k := by
    have e2 : ((2 ^ k : Nat) : Int) = 2 ^ k := by rw [Int.natCast_pow]; rfl
    have hp := Nat.two_pow_pos k
    by_cases hz : z < 0
    · rw [if_pos hz, decide_eq_true hz]
      obtain ⟨p, hp2⟩ : ∃ p : Nat, z = -(p : Int) := ⟨z.natAbs, by omega⟩
      subst hp2
      have ho : p % 2 = 1 := by rcases hc.out with ⟨h1, _⟩ | h1 <;> omega
      rw [show (-(p : Int)).natAbs = p by omega]
      have hd := Nat.div_add_mod p (2 ^ k)
      have hr := Nat.mod_lt p hp
      have hm : p % 2 ^ k ≠ 0 := by
        intro h0
        obtain ⟨i, rfl⟩ : ∃ i, k = i + 1 := ⟨k - 1, by omega⟩
        rw [Nat.pow_succ] at hd h0
        rw [h0, Nat.add_zero, show 2 ^ i * 2 * (p / (2 ^ i * 2)) = 2 * (2 ^ i * (p / (2 ^ i * 2))) by rw [Nat.mul_comm (2 ^ i) 2, Nat.mul_assoc]] at hd
        omega
      have e3 : (2 : Int) ^ k * ((p / 2 ^ k : Nat) : Int) = ((2 ^ k * (p / 2 ^ k) : Nat) : Int) := by rw [Int.natCast_mul, e2]
      have : -(p : Int) / 2 ^ k = -((p / 2 ^ k + 1 : Nat) : Int) := by
        rw [← e2]
        refine (Int.ediv_eq_iff_of_pos (by omega)).2 ⟨?_, ?_⟩
        · rw [show -((p / 2 ^ k + 1 : Nat) : Int) * ((2 ^ k : Nat) : Int) = -(2 ^ k * ((p / 2 ^ k : Nat) : Int)) - ((2 ^ k : Nat) : Int) by rw [e2]; grind, e3]
          omega
        · rw [show -((p / 2 ^ k + 1 : Nat) : Int) * ((2 ^ k : Nat) : Int) = -(2 ^ k * ((p / 2 ^ k : Nat) : Int)) - ((2 ^ k : Nat) : Int) by rw [e2]; grind, e3]
          omega
      rw [this]
      simp [sg]
    · rw [if_neg hz, decide_eq_false hz]
      obtain ⟨p, rfl⟩ := Int.eq_ofNat_of_zero_le (show 0 ≤ z by omega)
      rw [← e2]
      simp [sg]
  rw [key]
  exact flo_down h
end Go.Proofs.YtomdbmjfehoodaaGreatDoor
