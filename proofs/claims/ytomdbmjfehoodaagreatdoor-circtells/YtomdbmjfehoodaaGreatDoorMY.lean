/- Cosines as real numbers. -/
import Derived.Test.YtomdbmjfehoodaaGreatDoorMX
import Derived.Test.YtomdbmjfehoodaaGreatDoorMT
set_option maxRecDepth 8000
/- Plain mathematics: cosines and sines of parts of a turn, as real numbers. No program is named here. -/
namespace Go.Proofs.YtomdbmjfehoodaaGreatDoor
set_option linter.unusedVariables false
/-- A half. -/
def hf : RR := RR.of (eps 1)
theorem hf_two : hf + hf = 1 := by
  unfold hf; rw [← RR.of_add, eps_half 0, eps_zero, RR.of_one]
/-- Cosine and sine of one part of 2^(j + 2): each by the one ahead. -/
noncomputable def hv : Nat → RR × RR
  | 0 => (0, 1)
  | j + 1 => ((hf * (1 + (hv j).1)).root, (hf * (1 + -(hv j).1)).root)
theorem unit_le {c s : RR} (h : c * c + s * s = 1) : -1 ≤ c ∧ c ≤ 1 := by
  have := RR.sq_nn s
  constructor
  · have := RR.sq_le (a := -c) (b := 1) (by grind) (by grind); grind
  · exact RR.sq_le (by grind) (by grind)
theorem hf_pos : 0 < hf := by have := hf_two; grind
theorem hv_spec (j : Nat) : (hv j).1 * (hv j).1 + (hv j).2 * (hv j).2 = 1 ∧ 0 ≤ (hv j).1 ∧ 0 ≤ (hv j).2 := by
  induction j with
  | zero => exact ⟨by show (0 : RR) * 0 + 1 * 1 = 1; grind, by show (0 : RR) ≤ 0; grind, by show (0 : RR) ≤ 1; grind⟩
  | succ j ih =>
    obtain ⟨h1, h2⟩ := unit_le ih.1
    have p := hf_pos
    have a := RR.root_sq (RR.mul_nn (show 0 ≤ hf by grind) (show 0 ≤ 1 + (hv j).1 by grind))
    have b := RR.root_sq (RR.mul_nn (show 0 ≤ hf by grind) (show 0 ≤ 1 + -(hv j).1 by grind))
    refine ⟨?_, RR.root_nn _, RR.root_nn _⟩
    show (hf * (1 + (hv j).1)).root * (hf * (1 + (hv j).1)).root + (hf * (1 + -(hv j).1)).root * (hf * (1 + -(hv j).1)).root = 1
    rw [a, b]
    have := hf_two
    grind
theorem hv_sq (j : Nat) : (hv (j + 1)).1 * (hv (j + 1)).1 = hf * (1 + (hv j).1) ∧ (hv (j + 1)).2 * (hv (j + 1)).2 = hf * (1 + -(hv j).1) := by
  obtain ⟨h1, h2⟩ := unit_le (hv_spec j).1
  have p := hf_pos
  exact ⟨RR.root_sq (RR.mul_nn (show 0 ≤ hf by grind) (show 0 ≤ 1 + (hv j).1 by grind)), RR.root_sq (RR.mul_nn (show 0 ≤ hf by grind) (show 0 ≤ 1 + -(hv j).1 by grind))⟩
/-- Twice the half is the whole. -/
theorem hv_twice (j : Nat) : (hv (j + 1)).1 * (hv (j + 1)).1 - (hv (j + 1)).2 * (hv (j + 1)).2 = (hv j).1 ∧ (hv (j + 1)).1 * (hv (j + 1)).2 + (hv (j + 1)).2 * (hv (j + 1)).1 = (hv j).2 := by
  obtain ⟨a, b⟩ := hv_sq j
  obtain ⟨u, c0, s0⟩ := hv_spec j
  obtain ⟨u', c1, s1⟩ := hv_spec (j + 1)
  have hh := hf_two
  generalize (hv (j + 1)).1 = x at *
  generalize (hv (j + 1)).2 = y at *
  generalize (hv j).1 = c at *
  generalize (hv j).2 = s at *
  refine ⟨by rw [a, b]; grind, RR.sq_uniq ?_ s0 ?_⟩
  · have := RR.mul_nn c1 s1; grind
  · have e : (x * y + y * x) * (x * y + y * x) = (x * x + x * x) * (y * y + y * y) := by grind
    rw [e, a, b, show hf * (1 + c) + hf * (1 + c) = (hf + hf) * (1 + c) by grind, show hf * (1 + -c) + hf * (1 + -c) = (hf + hf) * (1 + -c) by grind, hh]
    grind
/-- Angles together. -/
def cm (a b : RR × RR) : RR × RR := (a.1 * b.1 - a.2 * b.2, a.1 * b.2 + a.2 * b.1)
def conj (a : RR × RR) : RR × RR := (a.1, -a.2)
theorem cm_one (a : RR × RR) : cm a (1, 0) = a := by unfold cm; ext <;> simp <;> grind
theorem one_cm (a : RR × RR) : cm (1, 0) a = a := by unfold cm; ext <;> simp <;> grind
theorem cm_comm (a b : RR × RR) : cm a b = cm b a := by unfold cm; ext <;> simp <;> grind
theorem cm_assoc (a b c : RR × RR) : cm (cm a b) c = cm a (cm b c) := by unfold cm; ext <;> simp <;> grind
theorem conj_cm (a b : RR × RR) : conj (cm a b) = cm (conj a) (conj b) := by unfold cm conj; ext <;> simp <;> grind
def Unit (a : RR × RR) : Prop := a.1 * a.1 + a.2 * a.2 = 1
theorem Unit.cm {a b : RR × RR} (ha : Unit a) (hb : Unit b) : Unit (cm a b) := by
  unfold Unit at *
  show (a.1 * b.1 - a.2 * b.2) * (a.1 * b.1 - a.2 * b.2) + (a.1 * b.2 + a.2 * b.1) * (a.1 * b.2 + a.2 * b.1) = 1
  rw [show (a.1 * b.1 - a.2 * b.2) * (a.1 * b.1 - a.2 * b.2) + (a.1 * b.2 + a.2 * b.1) * (a.1 * b.2 + a.2 * b.1) = (a.1 * a.1 + a.2 * a.2) * (b.1 * b.1 + b.2 * b.2) by grind, ha, hb]
  grind
theorem cm_conj {a : RR × RR} (ha : Unit a) : cm a (conj a) = (1, 0) := by
  unfold Unit at ha
  unfold cm conj; ext <;> simp <;> grind
def pw (a : RR × RR) : Nat → RR × RR
  | 0 => (1, 0)
  | n + 1 => cm (pw a n) a
theorem pw_add (a : RR × RR) (m n : Nat) : pw a (m + n) = cm (pw a m) (pw a n) := by
  induction n with
  | zero => show pw a m = cm (pw a m) (1, 0); rw [cm_one]
  | succ n ih => show cm (pw a (m + n)) a = cm (pw a m) (cm (pw a n) a); rw [ih, cm_assoc]
theorem pw_unit {a : RR × RR} (ha : Unit a) (n : Nat) : Unit (pw a n) := by
  induction n with
  | zero => show (1 : RR) * 1 + 0 * 0 = 1; grind
  | succ n ih => exact ih.cm ha
/-- The angle of n parts of 2^40. -/
noncomputable def ev (n : Nat) : RR × RR := pw (hv 38) n
theorem ev_add (m n : Nat) : ev (m + n) = cm (ev m) (ev n) := pw_add ..
theorem ev_unit (n : Nat) : Unit (ev n) := pw_unit (hv_spec 38).1 n
theorem hv_cm (j : Nat) : cm (hv (j + 1)) (hv (j + 1)) = hv j := by
  obtain ⟨a, b⟩ := hv_twice j
  unfold cm; ext <;> simp <;> assumption
theorem ev_half : ∀ j, j ≤ 38 → ev (2 ^ j) = hv (38 - j)
  | 0, _ => by show cm (1, 0) (hv 38) = hv 38; exact one_cm _
  | j + 1, h => by
    have e : 2 ^ (j + 1) = 2 ^ j + 2 ^ j := by rw [Nat.pow_succ]; omega
    rw [e, ev_add, ev_half j (by omega), show 38 - j = 38 - (j + 1) + 1 by omega, hv_cm]
theorem ev_quarter : ev (2 ^ 38) = (0, 1) := ev_half 38 (Nat.le_refl _)
theorem ev_turn : ev (2 ^ 40) = (1, 0) := by
  have e : (2 : Nat) ^ 40 = 2 ^ 38 + 2 ^ 38 + (2 ^ 38 + 2 ^ 38) := by decide
  rw [e, ev_add, ev_add, ev_quarter]
  unfold cm; ext <;> simp <;> grind
theorem ev_turns (n j : Nat) : ev (n + j * 2 ^ 40) = ev n := by
  induction j with
  | zero => rw [Nat.zero_mul]; rfl
  | succ j ih => rw [Nat.succ_mul, ← Nat.add_assoc, ev_add, ih, ev_turn, cm_one]
/-- The angle of v parts of 2^40, of any sign. -/
noncomputable def cv (v : Int) : RR × RR := ev (v % 1099511627776).toNat
theorem cv_mod {v u : Int} (h : v % 1099511627776 = u % 1099511627776) : cv v = cv u := by unfold cv; rw [h]
theorem cv_nat (n : Nat) : cv (n : Int) = ev n := by
  unfold cv
  have e : ((n : Int) % 1099511627776).toNat = n % 1099511627776 := by omega
  rw [e]
  have := ev_turns (n % 1099511627776) (n / 1099511627776)
  rw [← this]
  congr 1
  have := Nat.mod_add_div n 1099511627776
  rw [show (2 : Nat) ^ 40 = 1099511627776 by decide]
  omega
theorem cv_add (a b : Int) : cv (a + b) = cm (cv a) (cv b) := by
  have h : cv (a + b) = cv (((a % 1099511627776).toNat + (b % 1099511627776).toNat : Nat) : Int) := cv_mod (by omega)
  rw [h, cv_nat, ev_add]
  rfl
theorem cv_zero : cv 0 = (1, 0) := by have := cv_nat 0; exact this
theorem cv_unit (v : Int) : Unit (cv v) := ev_unit _
theorem cv_neg (a : Int) : cv (-a) = conj (cv a) := by
  have h : cm (cv (-a)) (cv a) = (1, 0) := by rw [← cv_add, show -a + a = 0 by omega, cv_zero]
  have : cm (cm (cv (-a)) (cv a)) (conj (cv a)) = conj (cv a) := by rw [h, one_cm]
  rwa [cm_assoc, cm_conj (cv_unit a), cm_one] at this
theorem cv_quarter : cv 274877906944 = (0, 1) := by
  have := cv_nat (2 ^ 38)
  rw [ev_quarter] at this
  rw [← this]
  congr 1
theorem cv_q2 : cv 549755813888 = (-1, 0) := by
  rw [show (549755813888 : Int) = 274877906944 + 274877906944 by omega, cv_add, cv_quarter]
  unfold cm; ext <;> simp <;> grind
theorem cv_q3 : cv 824633720832 = (0, -1) := by
  rw [show (824633720832 : Int) = 549755813888 + 274877906944 by omega, cv_add, cv_quarter, cv_q2]
  unfold cm; ext <;> simp <;> grind
/-- What an eighth tells: swapped, and signs. -/
def placed (sw cn sn : Bool) (p : RR × RR) : RR × RR :=
  let q := if sw then (p.2, p.1) else p
  (if cn then -q.1 else q.1, if sn then -q.2 else q.2)
theorem cv_place {v : Int} (h0 : 0 ≤ v) (h1 : v < 1099511627776) : cv v = placed (plSwap (eighth v)) (plCos (eighth v)) (plSin (eighth v)) (cv (rest v)) := by
  have hr := rest_range h0 h1
  have hj := join_split h0 h1
  generalize he : eighth v = e at *
  generalize rest v = r at *
  have hc : cv v = cv (if e % 2 = 0 then e * 137438953472 + r else (e + 1) * 137438953472 - r) := by
    apply cv_mod
    rw [← hj]
    unfold joinv
    split <;> omega
  rw [hc]
  obtain ⟨h2, h3, _⟩ := hr
  obtain rfl | rfl | rfl | rfl | rfl | rfl | rfl | rfl : e = 0 ∨ e = 1 ∨ e = 2 ∨ e = 3 ∨ e = 4 ∨ e = 5 ∨ e = 6 ∨ e = 7 := by omega
  · rw [if_pos (by decide), show (0 : Int) * 137438953472 + r = r by omega]; rfl
  · rw [if_neg (by decide), show ((1 : Int) + 1) * 137438953472 - r = 274877906944 + -r by omega, cv_add, cv_neg, cv_quarter]
    unfold cm conj placed; ext <;> simp [plSwap, plCos, plSin] <;> grind
  · rw [if_pos (by decide), show (2 : Int) * 137438953472 + r = 274877906944 + r by omega, cv_add, cv_quarter]
    unfold cm placed; ext <;> simp [plSwap, plCos, plSin] <;> grind
  · rw [if_neg (by decide), show ((3 : Int) + 1) * 137438953472 - r = 549755813888 + -r by omega, cv_add, cv_neg, cv_q2]
    unfold cm conj placed; ext <;> simp [plSwap, plCos, plSin] <;> grind
  · rw [if_pos (by decide), show (4 : Int) * 137438953472 + r = 549755813888 + r by omega, cv_add, cv_q2]
    unfold cm placed; ext <;> simp [plSwap, plCos, plSin] <;> grind
  · rw [if_neg (by decide), show ((5 : Int) + 1) * 137438953472 - r = 824633720832 + -r by omega, cv_add, cv_neg, cv_q3]
    unfold cm conj placed; ext <;> simp [plSwap, plCos, plSin] <;> grind
  · rw [if_pos (by decide), show (6 : Int) * 137438953472 + r = 824633720832 + r by omega, cv_add, cv_q3]
    unfold cm placed; ext <;> simp [plSwap, plCos, plSin] <;> grind
  · rw [if_neg (by decide), show ((7 : Int) + 1) * 137438953472 - r = 1099511627776 + -r by omega, cv_mod (show (1099511627776 + -r) % 1099511627776 = (-r) % 1099511627776 by omega), cv_neg]
    unfold conj placed; ext <;> simp [plSwap, plCos, plSin]
end Go.Proofs.YtomdbmjfehoodaaGreatDoor

/- Plain mathematics: no cosine or sine of an angle of at most 2^14 parts, but of whole quarters, comes near to a multiple of a part. No program is named here. -/
namespace Go.Proofs.YtomdbmjfehoodaaGreatDoor
set_option linter.unusedVariables false
/-- z parts of 2^200. -/
def nu (z : Int) : RR := RR.of (dy z (-200))
theorem nu_add (a b : Int) : nu (a + b) = nu a + nu b := by unfold nu; rw [← RR.of_add, dy_add]
theorem nu_le {a b : Int} (h : a ≤ b) : nu a ≤ nu b := RR.of_le.2 (dy_le_of h)
theorem nu_zero : nu 0 = 0 := by unfold nu; rw [dy_zero, RR.of_zero]
theorem nu_nn {a : Int} (h : 0 ≤ a) : 0 ≤ nu a := by rw [← nu_zero]; exact nu_le h
theorem nu_one : nu (2 ^ 200) = 1 := by
  unfold nu
  rw [show (2 : Int) ^ 200 = 1 * 2 ^ 200 by rw [Int.one_mul], dy_up]
  exact RR.of_one
theorem nu_mul (a b : Int) : nu a * nu b = RR.of (dy (a * b) (-400)) := by unfold nu; rw [← RR.of_mul, dy_mul]; rfl
theorem nu_floor (p : Int) : nu (p / 2 ^ 200) ≤ RR.of (dy p (-400)) ∧ RR.of (dy p (-400)) ≤ nu (p / 2 ^ 200 + 1) := by
  have h1 := Int.ediv_mul_le p (show (2 : Int) ^ 200 ≠ 0 by decide)
  have h2 := Int.lt_ediv_add_one_mul_self p (show (0 : Int) < 2 ^ 200 by decide)
  have e : ∀ z : Int, dy z (-200) = dy (z * 2 ^ 200) (-400) := fun z => by rw [dy_up]; congr 1
  unfold nu
  rw [e, e]
  exact ⟨RR.of_le.2 (dy_le_of h1), RR.of_le.2 (dy_le_of (Int.le_of_lt h2))⟩
theorem RR.mul_under {a x A d : RR} (h1 : -A ≤ a) (h2 : a ≤ A) (h3 : -d ≤ x) (h4 : x ≤ d) : -(A * d) ≤ a * x ∧ a * x ≤ A * d := by
  have p1 := RR.mul_nn (show 0 ≤ A - a by grind) (show 0 ≤ d + x by grind)
  have p2 := RR.mul_nn (show 0 ≤ A + a by grind) (show 0 ≤ d - x by grind)
  have p3 := RR.mul_nn (show 0 ≤ A - a by grind) (show 0 ≤ d - x by grind)
  have p4 := RR.mul_nn (show 0 ≤ A + a by grind) (show 0 ≤ d + x by grind)
  constructor <;> grind
/-- x is X parts of 2^200, give or take e. -/
structure App (x : RR) (X e : Nat) : Prop where
  l : x ≤ nu X + nu e
  r : nu X ≤ x + nu e
theorem App.mono {x : RR} {X e e' : Nat} (h : App x X e) (he : e ≤ e') : App x X e' := by
  have := nu_le (show (e : Int) ≤ e' by omega)
  exact ⟨by have := h.l; grind, by have := h.r; grind⟩
theorem part_mul (e : Nat) : RR.of (dy 1 (-11)) * nu e ≤ nu ((e / 2048 + 1 : Nat) : Int) := by
  unfold nu
  rw [← RR.of_mul, dy_mul, Int.one_mul]
  have e1 : dy ((e / 2048 + 1 : Nat) : Int) (-200) = dy (((e / 2048 + 1 : Nat) : Int) * 2 ^ 11) (-11 + -200) := by rw [dy_up]; congr 1
  rw [e1]
  exact RR.of_le.2 (dy_le_of (by have : (2 : Int) ^ 11 = 2048 := by decide
                                 omega))
theorem app_step {x y C S : RR} {X Y e c s h : Nat} (ux : -1 ≤ x ∧ x ≤ 1) (uy : -1 ≤ y ∧ y ≤ 1) (hx : App x X e) (hy : App y Y e) (hC : App C c h) (hS : App S s h) (hc : c ≤ 2 ^ 200) (hs : s ≤ 2 ^ 189) :
    (Y * s ≤ X * c → App (x * C - y * S) ((X * c - Y * s) / 2 ^ 200) (e + e / 2048 + (2 * h + 3))) ∧ App (x * S + y * C) ((X * s + Y * c) / 2 ^ 200) (e + e / 2048 + (2 * h + 3)) := by
  have nc0 := nu_nn (show (0 : Int) ≤ (c : Int) by omega)
  have ns0 := nu_nn (show (0 : Int) ≤ (s : Int) by omega)
  have nc1 : nu c ≤ 1 := by rw [← nu_one]; exact nu_le (by have : ((2 ^ 200 : Nat) : Int) = 2 ^ 200 := by rw [Int.natCast_pow]; rfl
                                                           omega)
  have ns1 : nu s ≤ RR.of (dy 1 (-11)) := by
    have e1 : dy 1 (-11) = dy (1 * 2 ^ 189) (-200) := by rw [dy_up]; congr 1
    unfold nu
    rw [e1]
    exact RR.of_le.2 (dy_le_of (by have : ((2 ^ 189 : Nat) : Int) = 2 ^ 189 := by rw [Int.natCast_pow]; rfl
                                   omega))
  have ne0 := nu_nn (show (0 : Int) ≤ (e : Int) by omega)
  have sm := part_mul e
  have hx1 := hx.l; have hx2 := hx.r; have hy1 := hy.l; have hy2 := hy.r
  have hC1 := hC.l; have hC2 := hC.r; have hS1 := hS.l; have hS2 := hS.r
  have a1 := RR.mul_under (x := C - nu c) (d := nu h) ux.1 ux.2 (by grind) (by grind)
  have a2 := RR.mul_under (a := nu c) (A := 1) (x := x - nu X) (d := nu e) (by grind) nc1 (by grind) (by grind)
  have a3 := RR.mul_under (x := S - nu s) (d := nu h) uy.1 uy.2 (by grind) (by grind)
  have a4 := RR.mul_under (a := nu s) (A := RR.of (dy 1 (-11))) (x := y - nu Y) (d := nu e) (by grind) ns1 (by grind) (by grind)
  have b1 := RR.mul_under (x := S - nu s) (d := nu h) ux.1 ux.2 (by grind) (by grind)
  have b2 := RR.mul_under (a := nu s) (A := RR.of (dy 1 (-11))) (x := x - nu X) (d := nu e) (by grind) ns1 (by grind) (by grind)
  have b3 := RR.mul_under (x := C - nu c) (d := nu h) uy.1 uy.2 (by grind) (by grind)
  have b4 := RR.mul_under (a := nu c) (A := 1) (x := y - nu Y) (d := nu e) (by grind) nc1 (by grind) (by grind)
  have hsum : nu ((e + e / 2048 + (2 * h + 3) : Nat) : Int) = nu e + nu ((e / 2048 + 1 : Nat) : Int) + nu h + nu h + nu 1 + nu 1 := by
    rw [← nu_add, ← nu_add, ← nu_add, ← nu_add, ← nu_add]; congr 1; omega
  have n1 := nu_nn (show (0 : Int) ≤ 1 by omega)
  constructor
  · intro hle
    obtain ⟨f1, f2⟩ := nu_floor ((X * c - Y * s : Nat) : Int)
    have eq : RR.of (dy ((X * c - Y * s : Nat) : Int) (-400)) = nu X * nu c - nu Y * nu s := by
      rw [nu_mul, nu_mul]
      have : dy ((X * c - Y * s : Nat) : Int) (-400) = dy ((X : Int) * c) (-400) + -dy ((Y : Int) * s) (-400) := by
        rw [dy_neg, dy_add]; congr 1; rw [Int.ofNat_sub hle, Int.natCast_mul, Int.natCast_mul]; rfl
      rw [this, RR.of_add, RR.of_neg]; grind
    rw [eq] at f1 f2
    rw [nu_add] at f2
    have ed : (((X * c - Y * s) / 2 ^ 200 : Nat) : Int) = ((X * c - Y * s : Nat) : Int) / 2 ^ 200 := by rw [Int.natCast_ediv, Int.natCast_pow]; rfl
    constructor
    · rw [hsum, ed]; grind
    · rw [hsum, ed]; grind
  · obtain ⟨f1, f2⟩ := nu_floor ((X * s + Y * c : Nat) : Int)
    have eq : RR.of (dy ((X * s + Y * c : Nat) : Int) (-400)) = nu X * nu s + nu Y * nu c := by
      rw [nu_mul, nu_mul, ← RR.of_add, dy_add]; congr 2
    rw [eq] at f1 f2
    rw [nu_add] at f2
    have ed : (((X * s + Y * c) / 2 ^ 200 : Nat) : Int) = ((X * s + Y * c : Nat) : Int) / 2 ^ 200 := by rw [Int.natCast_ediv, Int.natCast_pow]; rfl
    constructor
    · rw [hsum, ed]; grind
    · rw [hsum, ed]; grind
end Go.Proofs.YtomdbmjfehoodaaGreatDoor

/- Plain mathematics: no cosine or sine of an angle of at most 2^14 parts, but of whole quarters, comes near to a multiple of a part: reckoned by the kernel. No program is named here. -/
namespace Go.Proofs.YtomdbmjfehoodaaGreatDoor
set_option linter.unusedVariables false
theorem app_zero : App (hv 0).1 0 4 := by
  have a := nu_nn (show (0 : Int) ≤ 4 by omega)
  have z : nu ((0 : Nat) : Int) = 0 := nu_zero
  have e : (hv 0).1 = 0 := rfl
  exact ⟨by rw [e, z]; show (0 : RR) ≤ 0 + nu 4; grind, by rw [e, z]; show (0 : RR) ≤ 0 + nu 4; grind⟩
/-- How far off a sine may be, in parts of 2^200. -/
def gH : Nat := 1048576
/-- The numbers c' and s' are the next half's, but for a little. -/
def hOk (c c' s' : Nat) : Bool :=
  Nat.ble 4 c' && Nat.ble gH s' && Nat.ble (c + 4) (2 ^ 200) && Nat.ble (2 * ((c' - 4) * (c' - 4)) + 4 * 2 ^ 200) ((2 ^ 200 + c) * 2 ^ 200) && Nat.ble ((2 ^ 200 + c + 4) * 2 ^ 200) (2 * ((c' + 4) * (c' + 4)))
  && Nat.ble (2 * ((s' - gH) * (s' - gH)) + (c + 4) * 2 ^ 200) (2 ^ 200 * 2 ^ 200) && Nat.ble (2 ^ 200 * 2 ^ 200 + 4 * 2 ^ 200) (2 * ((s' + gH) * (s' + gH)) + c * 2 ^ 200)
theorem nu_sq (a : Int) : nu a * nu a = RR.of (dy (a * a) (-400)) := nu_mul a a
theorem of_400 (a : Int) : RR.of (dy (a * 2 ^ 200) (-400)) = nu a := by unfold nu; rw [dy_up]; congr 2
theorem two_of (a : Int) : RR.of (dy a (-400)) + RR.of (dy a (-400)) = RR.of (dy (2 * a) (-400)) := by rw [← RR.of_add, dy_add]; congr 2; omega
set_option maxRecDepth 10000 in
theorem half_step (j c c' s' : Nat) (h : App (hv j).1 c 4) (hk : hOk c c' s' = true) : App (hv (j + 1)).1 c' 4 ∧ App (hv (j + 1)).2 s' gH := by
  unfold hOk at hk
  simp only [Bool.and_eq_true, Nat.ble_eq] at hk
  obtain ⟨⟨⟨⟨⟨⟨k1, k2⟩, k3⟩, k4⟩, k5⟩, k6⟩, k7⟩ := hk
  obtain ⟨a, b⟩ := hv_sq j
  obtain ⟨_, c0, s0⟩ := hv_spec (j + 1)
  have hh := hf_two
  have h1 := h.l; have h2 := h.r
  generalize (hv j).1 = x at *
  generalize (hv (j + 1)).1 = p at *
  generalize (hv (j + 1)).2 = q at *
  have a2 : p * p + p * p = 1 + x := by rw [a, show hf * (1 + x) + hf * (1 + x) = (hf + hf) * (1 + x) by grind, hh]; grind
  have b2 : q * q + q * q = 1 + -x := by rw [b, show hf * (1 + -x) + hf * (1 + -x) = (hf + hf) * (1 + -x) by grind, hh]; grind
  have one := nu_one
  -- squares, in parts of 2^400
  have key : ∀ (z w : Int), 2 * (z * z) ≤ w * 2 ^ 200 → nu z * nu z + nu z * nu z ≤ nu w := fun z w hz => by
    rw [nu_sq, two_of, ← of_400]; exact RR.of_le.2 (dy_le_of hz)
  have key2 : ∀ (z w : Int), w * 2 ^ 200 ≤ 2 * (z * z) → nu w ≤ nu z * nu z + nu z * nu z := fun z w hz => by
    rw [nu_sq, two_of, ← of_400]; exact RR.of_le.2 (dy_le_of hz)
  have cp : ((2 ^ 200 : Nat) : Int) = 2 ^ 200 := by rw [Int.natCast_pow]; rfl
  have e1 : nu ((c' : Int) - 4) * nu ((c' : Int) - 4) + nu ((c' : Int) - 4) * nu ((c' : Int) - 4) ≤ nu (2 ^ 200 + c - 4) := key _ _ (by
    have : ((c' - 4 : Nat) : Int) = (c' : Int) - 4 := by omega
    rw [← this, ← Int.natCast_mul]
    generalize (c' - 4) * (c' - 4) = Z at *
    rw [← cp] at *
    generalize (2 : Nat) ^ 200 = W at *
    have : (((W + c) * W : Nat) : Int) = (W + c : Int) * W := by rw [Int.natCast_mul, Int.natCast_add]
    rw [Int.sub_mul]
    omega)
  have e2 : nu (2 ^ 200 + c + 4) ≤ nu ((c' : Int) + 4) * nu ((c' : Int) + 4) + nu ((c' : Int) + 4) * nu ((c' : Int) + 4) := key2 _ _ (by
    have : ((c' + 4 : Nat) : Int) = (c' : Int) + 4 := by omega
    rw [← this, ← Int.natCast_mul]
    generalize (c' + 4) * (c' + 4) = Z at *
    rw [← cp] at *
    generalize (2 : Nat) ^ 200 = W at *
    have : (((W + c + 4) * W : Nat) : Int) = (W + c + 4 : Int) * W := by rw [Int.natCast_mul, Int.natCast_add, Int.natCast_add]; rfl
    omega)
  have e3 : nu ((s' : Int) - gH) * nu ((s' : Int) - gH) + nu ((s' : Int) - gH) * nu ((s' : Int) - gH) ≤ nu (2 ^ 200 - c - 4) := key _ _ (by
    have : ((s' - gH : Nat) : Int) = (s' : Int) - gH := by omega
    rw [← this, ← Int.natCast_mul]
    generalize (s' - gH) * (s' - gH) = Z at *
    rw [← cp] at *
    generalize (2 : Nat) ^ 200 = W at *
    have : (((c + 4) * W : Nat) : Int) = (c + 4 : Int) * W := by rw [Int.natCast_mul, Int.natCast_add]; rfl
    have e5 : ((W * W : Nat) : Int) = (W : Int) * W := Int.natCast_mul ..
    rw [show ((W : Int) - c - 4) = W - (c + 4) by omega, Int.sub_mul]
    omega)
  have e4 : nu (2 ^ 200 - c + 4) ≤ nu ((s' : Int) + gH) * nu ((s' : Int) + gH) + nu ((s' : Int) + gH) * nu ((s' : Int) + gH) := key2 _ _ (by
    have : ((s' + gH : Nat) : Int) = (s' : Int) + gH := by omega
    rw [← this, ← Int.natCast_mul]
    generalize (s' + gH) * (s' + gH) = Z at *
    rw [← cp] at *
    generalize (2 : Nat) ^ 200 = W at *
    have : ((c * W : Nat) : Int) = (c : Int) * W := Int.natCast_mul ..
    have e5 : ((W * W : Nat) : Int) = (W : Int) * W := Int.natCast_mul ..
    rw [show ((W : Int) - c + 4) = W + 4 - c by omega, Int.sub_mul, Int.add_mul]
    omega)
  have d1 : nu (2 ^ 200 + c - 4) + nu 4 = 1 + nu c := by rw [← nu_add, ← one, ← nu_add]; congr 1; omega
  have d2 : nu (2 ^ 200 + c + 4) = 1 + nu c + nu 4 := by rw [← one, ← nu_add, ← nu_add]
  have d3 : nu (2 ^ 200 - c - 4) + nu c + nu 4 = 1 := by rw [← nu_add, ← nu_add, ← one]; congr 1; omega
  have d4 : nu (2 ^ 200 - c + 4) + nu c = 1 + nu 4 := by rw [← nu_add, ← one, ← nu_add]; congr 1; omega
  have g1 := nu_add ((c' : Int) - 4) 4
  have g2 := nu_add (c' : Int) 4
  have g3 := nu_add ((s' : Int) - gH) gH
  have g4 := nu_add (s' : Int) gH
  rw [show (c' : Int) - 4 + 4 = c' by omega] at g1
  rw [show (s' : Int) - gH + gH = s' by omega] at g3
  have n2 := nu_nn (show (0 : Int) ≤ (c' : Int) + 4 by omega)
  have n4 := nu_nn (show (0 : Int) ≤ (s' : Int) + gH by omega)
  have h1' : x ≤ nu c + nu 4 := h1
  have h2' : nu c ≤ x + nu 4 := h2
  clear key key2 h1 h2 h k1 k2 k3 k4 k5 k6 k7 one cp a b
  have l1 := RR.sq_le (a := nu ((c' : Int) - 4)) c0 (by grind)
  have l2 := RR.sq_le (b := nu ((c' : Int) + 4)) (a := p) n2 (by grind)
  have l3 := RR.sq_le (a := nu ((s' : Int) - gH)) s0 (by grind)
  have l4 := RR.sq_le (b := nu ((s' : Int) + gH)) (a := q) n4 (by grind)
  refine ⟨⟨?_, ?_⟩, ⟨?_, ?_⟩⟩
  · show p ≤ nu c' + nu 4; grind
  · show nu c' ≤ p + nu 4; grind
  · show q ≤ nu s' + nu gH; grind
  · show nu s' ≤ q + nu gH; grind
def gC : Nat := 1606937926093954733271696063341905840506456939383761689912199
def gS : Nat := 616253006698713062552461528229184431414261581555096435356
theorem app_gC : App (hv 12).1 gC gH ∧ App (hv 12).2 gS gH := by
  have h1 := half_step 0 0 1136276788042180458070828951474823657989790988021617205464301 1136276788042180458070828951474823657989790988021617205464301 app_zero (by decide +kernel)
  have h2 := half_step 1 1136276788042180458070828951474823657989790988021617205464301 1484617169104597362508404989727444738672447253984905074947547 614948566375074939259316399958603304265382360334892087266362 h1.1 (by decide +kernel)
  have h3 := half_step 2 1484617169104597362508404989727444738672447253984905074947547 1576061180329172519219201999333412283084218269191704159117745 313498060514453791443758148945936390915354096995997959789881 h2.1 (by decide +kernel)
  have h4 := half_step 3 1576061180329172519219201999333412283084218269191704159117745 1599200198355037860141153301684593256896725087632561785890738 157507471785043115329803184186639435084114358509892849931225 h3.1 (by decide +kernel)
  have h5 := half_step 4 1599200198355037860141153301684593256896725087632561785890738 1605002417009105697844512262135738324009004898295262856153943 78848712620038169891482718952986496093376327719638619188211 h4.1 (by decide +kernel)
  have h6 := half_step 5 1605002417009105697844512262135738324009004898295262856153943 1606454064563701312210477842552474082733953539593544966025967 39436233766321620850567407533678778705108267447265465510924 h5.1 (by decide +kernel)
  have h7 := half_step 6 1606454064563701312210477842552474082733953539593544966025967 1606817044779648905272442903832981193114068649816676815199147 19719601732904100227811241930843797957117830339330313233670 h6.1 (by decide +kernel)
  have h8 := half_step 7 1606817044779648905272442903832981193114068649816676815199147 1606907794104429627536605139640229979598350309889764137986240 9859986477911053344244688090048184540468482310714943871059 h7.1 (by decide +kernel)
  have h9 := half_step 8 1606907794104429627536605139640229979598350309889764137986240 1606930481702554698202234562599409652884559845183440602583032 4930016440551688513489193493961514734519130231458700883840 h8.1 (by decide +kernel)
  have h10 := half_step 9 1606930481702554698202234562599409652884559845183440602583032 1606936153618769166439806935095871753897378188151239216712274 2465011120480482831155567218223589180211776894182726491963 h9.1 (by decide +kernel)
  have h11 := half_step 10 1606936153618769166439806935095871753897378188151239216712274 1606937571598865484823025365969650810153765633259961999421855 1232505922765981185777798722908953699053447369661981350931 h10.1 (by decide +kernel)
  have h12 := half_step 11 1606937571598865484823025365969650810153765633259961999421855 1606937926093954733271696063341905840506456939383761689912199 616253006698713062552461528229184431414261581555096435356 h11.1 (by decide +kernel)
  exact ⟨h12.1.mono (by decide), h12.2⟩
def gOk1 (X e m d : Nat) : Bool := Nat.ble (d + e) (X % m) && Nat.ble (X % m + (d + e)) m
def gOk (X e : Nat) : Bool :=
  gOk1 X e (2 ^ 190) (2 ^ 165) && (gOk1 X e (2 ^ 180) (2 ^ 155) && (gOk1 X e (2 ^ 170) (2 ^ 145) && (gOk1 X e (2 ^ 160) (2 ^ 135) && (gOk1 X e (2 ^ 150) (2 ^ 125) && (gOk1 X e (2 ^ 140) (2 ^ 115)
  && (gOk1 X e (2 ^ 130) (2 ^ 105) && (gOk1 X e (2 ^ 120) (2 ^ 95) && (gOk1 X e (2 ^ 110) (2 ^ 85) && (gOk1 X e (2 ^ 100) (2 ^ 75) && gOk1 X e (2 ^ 90) (2 ^ 65))))))))))
def gRun : Nat → Nat → Nat → Nat → Bool
  | 0, _, _, _ => true
  | n + 1, X, Y, e => (fun X' Y' e' => gOk X' e' && (gOk Y' e' && gRun n X' Y' e')) ((X * gC - Y * gS) / 2 ^ 200) ((X * gS + Y * gC) / 2 ^ 200) (e + e / 2048 + (2 * gH + 3))
set_option maxRecDepth 100000 in
theorem g_run : gRun 2048 (2 ^ 200) 0 0 = true := by decide +kernel
/-- x is far from each multiple of a part, up to 110 bits. -/
structure Far (x : RR) : Prop where
  out : ∀ (n : Nat) (m : Int), n ≤ 110 → RR.of (dy m (-(n : Int))) + RR.of (eps (n + 35)) ≤ x ∨ x + RR.of (eps (n + 35)) ≤ RR.of (dy m (-(n : Int)))
theorem far_at {x : RR} {X e : Nat} (h : App x X e) (i t : Nat) (hi : i + t = 200) (ht : 25 ≤ t) (hk : gOk1 X e (2 ^ t) (2 ^ (t - 25)) = true) (n : Nat) (m : Int) (hn : n ≤ i) (hn2 : i ≤ n + 10) :
    RR.of (dy m (-(n : Int))) + RR.of (eps (n + 35)) ≤ x ∨ x + RR.of (eps (n + 35)) ≤ RR.of (dy m (-(n : Int))) := by
  unfold gOk1 at hk
  simp only [Bool.and_eq_true, Nat.ble_eq] at hk
  obtain ⟨k1, k2⟩ := hk
  have hl := h.l; have hr := h.r
  -- the multiple, in parts of 2^200
  obtain ⟨M, hM⟩ : ∃ M : Int, M = m * 2 ^ (i - n) := ⟨_, rfl⟩
  have e1 : RR.of (dy m (-(n : Int))) = nu (M * 2 ^ t) := by
    unfold nu
    rw [dy_up, hM, dy_up]
    congr 2; omega
  have e2 : RR.of (eps (n + 35)) ≤ nu ((2 ^ (t - 25) : Nat) : Int) := by
    have e3 : nu ((2 ^ (t - 25) : Nat) : Int) = RR.of (eps (i + 25)) := by
      unfold nu eps
      rw [show ((2 ^ (t - 25) : Nat) : Int) = 1 * 2 ^ (t - 25) by rw [Int.natCast_pow, Int.one_mul]; rfl, dy_up]
      congr 2; omega
    rw [e3]; exact RR.of_le.2 (eps_mono (by omega))
  have hp : 0 < (2 : Nat) ^ t := Nat.two_pow_pos t
  have hd := Nat.div_add_mod X (2 ^ t)
  have ct : ((2 ^ t : Nat) : Int) = 2 ^ t := by rw [Int.natCast_pow]; rfl
  rw [← ct] at e1
  generalize (2 : Nat) ^ t = W at *
  generalize (2 : Nat) ^ (t - 25) = D at *
  generalize hq : X / W = q at *
  generalize X % W = r at *
  have hX : (X : Int) = W * q + r := by rw [← hd]; rw [Int.natCast_add, Int.natCast_mul]
  rcases Int.lt_or_le (q : Int) M with g | g
  · right
    have k : X + e + D ≤ M * W := by
      have := Int.mul_le_mul_of_nonneg_right (show (q : Int) + 1 ≤ M by omega) (show (0 : Int) ≤ W by omega)
      rw [Int.add_mul, Int.one_mul, Int.mul_comm] at this
      omega
    have k3 := nu_le k
    rw [nu_add, nu_add] at k3
    rw [e1]; grind
  · left
    have k : M * W + D ≤ (X : Int) - e := by
      have := Int.mul_le_mul_of_nonneg_right g (show (0 : Int) ≤ W by omega)
      rw [Int.mul_comm (q : Int)] at this
      omega
    have k3 := nu_le k
    have k4 := nu_add ((X : Int) - e) e
    rw [show (X : Int) - e + e = X by omega] at k4
    rw [nu_add] at k3
    rw [e1]; grind
theorem far_of {x : RR} {X e : Nat} (h : App x X e) (hk : gOk X e = true) : Far x := by
  unfold gOk at hk
  simp only [Bool.and_eq_true] at hk
  obtain ⟨k1, k2, k3, k4, k5, k6, k7, k8, k9, k10, k11⟩ := hk
  refine ⟨fun n m hn => ?_⟩
  rcases (show n ≤ 10 ∨ (10 < n ∧ n ≤ 20) ∨ (20 < n ∧ n ≤ 30) ∨ (30 < n ∧ n ≤ 40) ∨ (40 < n ∧ n ≤ 50) ∨ (50 < n ∧ n ≤ 60) ∨ (60 < n ∧ n ≤ 70) ∨ (70 < n ∧ n ≤ 80) ∨ (80 < n ∧ n ≤ 90) ∨ (90 < n ∧ n ≤ 100) ∨ (100 < n ∧ n ≤ 110) by omega) with g | g | g | g | g | g | g | g | g | g | g
  · exact far_at h 10 190 (by omega) (by omega) k1 n m (by omega) (by omega)
  · exact far_at h 20 180 (by omega) (by omega) k2 n m (by omega) (by omega)
  · exact far_at h 30 170 (by omega) (by omega) k3 n m (by omega) (by omega)
  · exact far_at h 40 160 (by omega) (by omega) k4 n m (by omega) (by omega)
  · exact far_at h 50 150 (by omega) (by omega) k5 n m (by omega) (by omega)
  · exact far_at h 60 140 (by omega) (by omega) k6 n m (by omega) (by omega)
  · exact far_at h 70 130 (by omega) (by omega) k7 n m (by omega) (by omega)
  · exact far_at h 80 120 (by omega) (by omega) k8 n m (by omega) (by omega)
  · exact far_at h 90 110 (by omega) (by omega) k9 n m (by omega) (by omega)
  · exact far_at h 100 100 (by omega) (by omega) k10 n m (by omega) (by omega)
  · exact far_at h 110 90 (by omega) (by omega) k11 n m (by omega) (by omega)
set_option maxRecDepth 10000 in
theorem far_run (F : Nat → RR × RR) (C : RR × RR) (hF : ∀ k, F (k + 1) = cm (F k) C) (hU : ∀ k, Unit (F k)) (hC : App C.1 gC gH ∧ App C.2 gS gH) (n : Nat) : ∀ (k X Y e : Nat), App (F k).1 X e → App (F k).2 Y e → gRun n X Y e = true → ∀ j, k < j → j ≤ k + n → Far (F j).1 ∧ Far (F j).2 := by
  induction n with
  | zero => intro k X Y e _ _ _ j h1 h2; omega
  | succ n ih =>
    intro k X Y e hX hY hr j h1 h2
    have hr2 : (gOk ((X * gC - Y * gS) / 2 ^ 200) (e + e / 2048 + (2 * gH + 3)) && (gOk ((X * gS + Y * gC) / 2 ^ 200) (e + e / 2048 + (2 * gH + 3)) && gRun n ((X * gC - Y * gS) / 2 ^ 200) ((X * gS + Y * gC) / 2 ^ 200) (e + e / 2048 + (2 * gH + 3)))) = true := hr
    rw [Bool.and_eq_true, Bool.and_eq_true] at hr2
    obtain ⟨o1, o2, o3⟩ := hr2
    have u := hU k
    have ux := unit_le u
    have uy := unit_le (show (F k).2 * (F k).2 + (F k).1 * (F k).1 = 1 by have : _ = _ := u; grind)
    obtain ⟨s1, s2⟩ := app_step ux uy hX hY hC.1 hC.2 (by decide +kernel) (by decide +kernel)
    have hs := hF k
    have hle : Y * gS ≤ X * gC := by
      rcases Nat.lt_or_ge (X * gC) (Y * gS) with g | g
      · exfalso
        have z : (X * gC - Y * gS) / 2 ^ 200 = 0 := by rw [Nat.sub_eq_zero_of_le (Nat.le_of_lt g), Nat.zero_div]
        rw [z] at o1
        unfold gOk gOk1 at o1
        simp only [Bool.and_eq_true, Nat.ble_eq, Nat.zero_mod] at o1
        have := o1.1.1
        have := Nat.two_pow_pos 165
        omega
      · exact g
    have a1 : App (F (k + 1)).1 ((X * gC - Y * gS) / 2 ^ 200) (e + e / 2048 + (2 * gH + 3)) := by rw [hs]; exact s1 hle
    have a2 : App (F (k + 1)).2 ((X * gS + Y * gC) / 2 ^ 200) (e + e / 2048 + (2 * gH + 3)) := by rw [hs]; exact s2
    by_cases hj : j = k + 1
    · subst hj; exact ⟨far_of a1 o1, far_of a2 o2⟩
    · exact ih (k + 1) _ _ _ a1 a2 o3 j (by omega) (by omega)
/-- The cosine and the sine of an angle of at most an eighth, of whole parts of 2^14, but of none. -/
theorem ev_zero : ev (0 * 2 ^ 26) = (1, 0) := by rw [Nat.zero_mul]; rfl
theorem far_rest (j : Nat) (h0 : 0 < j) (h1 : j ≤ 2048) : Far (ev (j * 2 ^ 26)).1 ∧ Far (ev (j * 2 ^ 26)).2 := by
  have z : nu ((0 : Nat) : Int) = 0 := nu_zero
  have o : nu ((2 ^ 200 : Nat) : Int) = 1 := by
    rw [← nu_one, show ((2 ^ 200 : Nat) : Int) = 2 ^ 200 by rw [Int.natCast_pow]; rfl]
  have a1 : App (1 : RR) (2 ^ 200) 0 := ⟨by rw [z, o]; grind, by rw [z, o]; grind⟩
  have a2 : App (0 : RR) 0 0 := ⟨by rw [z]; grind, by rw [z]; grind⟩
  have hF : ∀ k, ev ((k + 1) * 2 ^ 26) = cm (ev (k * 2 ^ 26)) (hv 12) := fun k => by rw [Nat.add_mul, Nat.one_mul, ev_add, ev_half 26 (by omega)]
  have hU : ∀ k, Unit (ev (k * 2 ^ 26)) := fun k => ev_unit _
  have h00 := ev_zero
  obtain ⟨F, hFe⟩ : ∃ F : Nat → RR × RR, ∀ k, F k = ev (k * 2 ^ 26) := ⟨_, fun _ => rfl⟩
  rw [← hFe] at h00 ⊢
  exact far_run F (hv 12) (fun k => by rw [hFe, hFe]; exact hF k) (fun k => by rw [hFe]; exact hU k) app_gC 2048 0 (2 ^ 200) 0 0 (by rw [h00]; exact a1) (by rw [h00]; exact a2) g_run j h0 (by omega)
end Go.Proofs.YtomdbmjfehoodaaGreatDoor

/- Plain mathematics: of an angle of at most 2^14 parts, but of whole quarters, cosine and sine are far from multiples of a part; what is told of a number downwards and upwards. No program is named here. -/
namespace Go.Proofs.YtomdbmjfehoodaaGreatDoor
set_option linter.unusedVariables false
theorem Far.neg {x : RR} (h : Far x) : Far (-x) := ⟨fun n m hn => by
  have e : RR.of (dy (-m) (-(n : Int))) = -RR.of (dy m (-(n : Int))) := by rw [← dy_neg, RR.of_neg]
  rcases h.out n (-m) hn with g | g
  · rw [e] at g; right; grind
  · rw [e] at g; left; grind⟩
theorem far_placed {p : RR × RR} (a b c : Bool) (h : Far p.1 ∧ Far p.2) : Far (placed a b c p).1 ∧ Far (placed a b c p).2 := by
  have h1 := h.1.neg; have h2 := h.2.neg
  obtain ⟨g1, g2⟩ := h
  unfold placed
  cases a <;> cases b <;> cases c <;> exact ⟨by assumption, by assumption⟩
theorem rest_parts {v k : Int} {q : Nat} (h : Fm v k q) (h3 : 3 ≤ q) (hq : q ≤ 14) : ∃ j : Nat, rest v = ((j * 2 ^ 26 : Nat) : Int) ∧ 0 < j ∧ j ≤ 2048 := by
  obtain ⟨r0, r1⟩ := h.range
  obtain ⟨q0, q1, q2, q3⟩ := rest_range r0 r1
  rcases h.out with ⟨_, _, rfl⟩ | ⟨o1, o2, o3, o4, o5⟩
  · omega
  · have e1 : v = k * 2 ^ (14 - q) * 67108864 := by
      rw [o5, Int.mul_assoc]
      congr 1
      rw [show (67108864 : Int) = 2 ^ 26 by decide, ← p2_add]
      congr 1; omega
    have e2 : v = k * 2 ^ (14 - q) * 2 ^ 26 := by rw [e1]; rfl
    have hne : v % 274877906944 ≠ 0 := by
      intro hz
      obtain ⟨d, hd⟩ := Int.dvd_of_emod_eq_zero hz
      have hh : k * 2 ^ (40 - q) = 2 ^ 38 * d := by rw [← o5, hd]; rfl
      obtain ⟨t, ht⟩ : ∃ t : Nat, 38 = (40 - q) + (t + 1) := ⟨q - 3, by omega⟩
      rw [ht, p2_add, Int.mul_comm, Int.mul_assoc] at hh
      have := Int.eq_of_mul_eq_mul_left (Int.ne_of_gt (p2_pos (40 - q))) hh
      rw [Int.pow_succ] at this
      rw [this, Int.mul_comm (2 ^ t), Int.mul_assoc] at o1
      omega
    generalize k * 2 ^ (14 - q) = z at *
    have hr : rest v = v - eighth v * 137438953472 ∨ rest v = (eighth v + 1) * 137438953472 - v := by
      unfold rest; split
      · exact .inl rfl
      · exact .inr rfl
    have hr2 : rest v % 67108864 = 0 := by rcases hr with g | g <;> (rw [g]; omega)
    have hr3 : rest v ≠ 0 := by
      intro hz
      unfold rest at hz
      split at hz
      · rename_i he; omega
      · rename_i he; omega
    refine ⟨(rest v / 67108864).toNat, ?_, by omega, by omega⟩
    rw [Int.natCast_mul, show ((2 ^ 26 : Nat) : Int) = 67108864 by decide]
    omega
theorem far_cv {v k : Int} {q : Nat} (h : Fm v k q) (h3 : 3 ≤ q) (hq : q ≤ 14) : Far (cv v).1 ∧ Far (cv v).2 := by
  obtain ⟨r0, r1⟩ := h.range
  obtain ⟨j, hj, j0, j1⟩ := rest_parts h h3 hq
  rw [cv_place r0 r1, hj, cv_nat]
  exact far_placed _ _ _ (far_rest j j0 j1)
/-- What is to be told: the multiples of two to the -n next to x. -/
structure Tgt (n : Nat) (x : RR) (lo hi : Dyadic) : Prop where
  out : ∃ m m' : Int, lo = dy m (-(n : Int)) ∧ hi = dy m' (-(n : Int)) ∧ RR.of lo ≤ x ∧ x ≤ RR.of hi ∧ (m = m' ∨ (m' = m + 1 ∧ RR.of lo < x ∧ x < RR.of hi))
theorem of_dy_lt {a b e : Int} (h : RR.of (dy a e) < RR.of (dy b e)) : a < b := dy_lt.1 (RR.of_lt.1 h)
theorem of_dy_le {a b e : Int} (h : RR.of (dy a e) ≤ RR.of (dy b e)) : a ≤ b := by
  rcases Int.lt_or_le b a with g | g
  · have := RR.of_lt.2 (dy_lt (e := e).2 g); grind
  · exact g
theorem Tgt.uniq {n : Nat} {x : RR} {lo hi lo' hi' : Dyadic} (h : Tgt n x lo hi) (g : Tgt n x lo' hi') : lo = lo' ∧ hi = hi' := by
  obtain ⟨a, b, rfl, rfl, h1, h2, h3⟩ := h.out
  obtain ⟨c, d, rfl, rfl, g1, g2, g3⟩ := g.out
  have k1 := of_dy_le (Std.le_trans h1 g2)
  have k2 := of_dy_le (Std.le_trans g1 h2)
  rcases h3 with rfl | ⟨rfl, h4, h5⟩
  · rcases g3 with rfl | ⟨rfl, g4, g5⟩
    · have : a = c := by omega
      subst this; exact ⟨rfl, rfl⟩
    · exfalso
      have l1 := of_dy_lt (show RR.of (dy c (-(n : Int))) < RR.of (dy a (-(n : Int))) by grind)
      have l2 := of_dy_lt (show RR.of (dy a (-(n : Int))) < RR.of (dy (c + 1) (-(n : Int))) by grind)
      omega
  · rcases g3 with rfl | ⟨rfl, g4, g5⟩
    · exfalso
      have l1 := of_dy_lt (show RR.of (dy a (-(n : Int))) < RR.of (dy c (-(n : Int))) by grind)
      have l2 := of_dy_lt (show RR.of (dy c (-(n : Int))) < RR.of (dy (a + 1) (-(n : Int))) by grind)
      omega
    · have l1 := of_dy_lt (show RR.of (dy a (-(n : Int))) < RR.of (dy (c + 1) (-(n : Int))) by grind)
      have l2 := of_dy_lt (show RR.of (dy c (-(n : Int))) < RR.of (dy (a + 1) (-(n : Int))) by grind)
      have : a = c := by omega
      subst this; exact ⟨rfl, rfl⟩
theorem Tgt.neg {n : Nat} {x : RR} {lo hi : Dyadic} (h : Tgt n x lo hi) : Tgt n (-x) (-hi) (-lo) := by
  obtain ⟨a, b, rfl, rfl, h1, h2, h3⟩ := h.out
  refine ⟨-b, -a, dy_neg .., dy_neg .., ?_, ?_, ?_⟩
  · rw [RR.of_neg]; grind
  · rw [RR.of_neg]; grind
  · rw [RR.of_neg, RR.of_neg]
    rcases h3 with rfl | ⟨rfl, h4, h5⟩
    · exact .inl rfl
    · exact .inr ⟨by omega, by grind, by grind⟩
/-- A narrow enclosure of a number that is far from multiples tells them. -/
theorem tgt_of_far {n : Nat} {x : RR} (hf : Far x) (hn : n ≤ 110) {m m' : Int} (h1 : RR.of (dy m (-(n : Int))) ≤ x) (h2 : x ≤ RR.of (dy m' (-(n : Int)))) (h3 : m' ≤ m + 1) : Tgt n x (dy m (-(n : Int))) (dy m' (-(n : Int))) := by
  have pos : (0 : RR) < RR.of (eps (n + 35)) := by
    rw [← RR.of_zero]; exact RR.of_lt.2 (eps_pos _)
  have s1 : RR.of (dy m (-(n : Int))) < x := by rcases hf.out n m hn with g | g <;> grind
  have s2 : x < RR.of (dy m' (-(n : Int))) := by rcases hf.out n m' hn with g | g <;> grind
  have := of_dy_lt (show RR.of (dy m (-(n : Int))) < RR.of (dy m' (-(n : Int))) by grind)
  exact ⟨m, m', rfl, rfl, h1, h2, .inr ⟨by omega, s1, s2⟩⟩
/-- The ends of an enclosure that is narrower than the room lie between the same multiples. -/
theorem tgt_narrow {n : Nat} {x : RR} (hf : Far x) (hn : n ≤ 110) {lo hi : Dyadic} {m m' : Int} (h1 : RR.of lo ≤ x) (h2 : x ≤ RR.of hi) (hw : hi < lo + eps (n + 35)) (f1 : dy m (-(n : Int)) ≤ lo) (f2 : lo < dy (m + 1) (-(n : Int))) (c1 : hi ≤ dy m' (-(n : Int))) (c2 : dy (m' - 1) (-(n : Int)) < hi) : m' ≤ m + 1 := by
  have w := RR.of_lt.2 hw
  rw [RR.of_add] at w
  have f2' := RR.of_lt.2 f2
  have c2' := RR.of_lt.2 c2
  rcases Int.lt_or_le (m + 1) m' with g | g
  · exfalso
    have k : RR.of (dy (m + 1) (-(n : Int))) ≤ RR.of (dy (m' - 1) (-(n : Int))) := RR.of_le.2 (dy_le_of (by omega))
    rcases hf.out n (m + 1) hn with q | q <;> grind
  · exact g
end Go.Proofs.YtomdbmjfehoodaaGreatDoor

/- Plain mathematics: how small the halves' cosines and sines may be. No program is named here. -/
namespace Go.Proofs.YtomdbmjfehoodaaGreatDoor
set_option linter.unusedVariables false
theorem hv_sin_lo (j : Nat) : RR.of (eps j) ≤ (hv j).2 := by
  induction j with
  | zero => rw [eps_zero, RR.of_one]; show (1 : RR) ≤ 1; grind
  | succ j ih =>
    obtain ⟨_, h2⟩ := hv_twice j
    obtain ⟨u, c0, s0⟩ := hv_spec (j + 1)
    have c1 := (unit_le u).2
    have e : RR.of (eps (j + 1)) + RR.of (eps (j + 1)) = RR.of (eps j) := by rw [← RR.of_add, eps_half]
    generalize (hv (j + 1)).1 = x at *
    generalize (hv (j + 1)).2 = y at *
    have := RR.mul_nn (show 0 ≤ 1 - x by grind) s0
    grind
theorem hv_cos_lo (j : Nat) : hf ≤ (hv (j + 1)).1 := by
  obtain ⟨a, _⟩ := hv_sq j
  obtain ⟨u, c0, s0⟩ := hv_spec j
  obtain ⟨_, c1, _⟩ := hv_spec (j + 1)
  have h2 := hf_two
  have h3 := hf_pos
  refine RR.sq_le c1 ?_
  rw [a]
  have := RR.mul_nn (show 0 ≤ hf by grind) (show 0 ≤ 1 - hf by grind)
  have := RR.mul_nn (show 0 ≤ hf by grind) c0
  grind
end Go.Proofs.YtomdbmjfehoodaaGreatDoor

