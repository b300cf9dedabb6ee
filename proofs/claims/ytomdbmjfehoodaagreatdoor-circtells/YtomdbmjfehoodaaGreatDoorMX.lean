/- Real numbers. -/
import Derived.Test.YtomdbmjfehoodaaGreatDoorMD
set_option maxRecDepth 8000
/- Plain mathematics: real numbers, as dyadic numbers that settle. No program is named here. -/
namespace Go.Proofs.YtomdbmjfehoodaaGreatDoor
set_option linter.unusedVariables false
/-- Two to the -k. -/
def eps (k : Nat) : Dyadic := dy 1 (-(k : Int))
theorem eps_zero : eps 0 = 1 := rfl
theorem eps_pos (k : Nat) : 0 < eps k := by
  have := (dy_lt (x := 0) (y := 1) (e := -(k : Int))).2 (by omega)
  rwa [dy_zero] at this
theorem eps_half (k : Nat) : eps (k + 1) + eps (k + 1) = eps k := by
  unfold eps
  rw [dy_add, show (1 : Int) + 1 = 1 * 2 ^ 1 by decide, dy_up]
  congr 1; omega
theorem eps_mul (j k : Nat) : eps j * eps k = eps (j + k) := by
  unfold eps; rw [dy_mul]; congr 1; omega
theorem eps_step (k : Nat) : eps (k + 1) ≤ eps k := by
  have := eps_half k; have := eps_pos (k + 1); grind
theorem eps_mono {j k : Nat} (h : j ≤ k) : eps k ≤ eps j := by
  induction h with
  | refl => grind
  | step h ih => have := eps_step; grind
/-- A great number. -/
def big (k : Nat) : Dyadic := dy 1 k
theorem big_eps (k : Nat) : big k * eps k = 1 := by
  unfold big eps; rw [dy_mul, show (k : Int) + -k = 0 by omega]; rfl
theorem big_pos (k : Nat) : 0 < big k := by
  have := (dy_lt (x := 0) (y := 1) (e := (k : Int))).2 (by omega)
  rwa [dy_zero] at this
theorem big_double (k : Nat) : big (k + 1) = big k + big k := by
  unfold big
  rw [dy_add, show (1 : Int) + 1 = 1 * 2 ^ 1 by decide, dy_up]
  congr 1
theorem big_mono {j k : Nat} (h : j ≤ k) : big j ≤ big k := by
  induction h with
  | refl => grind
  | step h ih => rw [big_double]; have := big_pos; grind
theorem big_zero : big 0 = 1 := rfl
theorem dy_le_of {x y e : Int} (h : x ≤ y) : dy x e ≤ dy y e := by
  rcases Int.lt_or_eq_of_le h with h | rfl
  · have := (dy_lt (e := e)).2 h; grind
  · grind
theorem dy_any (d : Dyadic) : ∃ z e, d = dy z e := by
  cases d with
  | zero => exact ⟨0, 0, rfl⟩
  | ofOdd n k hn => exact ⟨n, -k, by rw [dy_odd hn, Int.neg_neg]⟩
theorem under_big (d : Dyadic) : ∃ k, d ≤ big k := by
  obtain ⟨z, e, rfl⟩ := dy_any d
  refine ⟨z.toNat + e.toNat, ?_⟩
  have h1 : z < 2 ^ z.toNat := by
    have := @Nat.lt_two_pow_self z.toNat
    have e2 : ((2 ^ z.toNat : Nat) : Int) = 2 ^ z.toNat := by rw [Int.natCast_pow]; rfl
    omega
  have h2 : dy z e ≤ dy (2 ^ z.toNat) e := dy_le_of (by omega)
  have h3 : dy (2 ^ z.toNat) e = dy 1 (e + (z.toNat : Int)) := by rw [← dy_up, Int.one_mul]
  have h4 : ∀ f : Int, f ≤ (z.toNat + e.toNat : Nat) → dy 1 f ≤ big (z.toNat + e.toNat) := fun f hf => by
    obtain ⟨j, hj⟩ := Int.eq_ofNat_of_zero_le (show 0 ≤ ((z.toNat + e.toNat : Nat) : Int) - f by omega)
    unfold big
    rw [show ((z.toNat + e.toNat : Nat) : Int) = f + (j : Nat) by omega, ← dy_up]
    exact dy_le_of (by have := pow2_pos j; omega)
  have := h4 (e + (z.toNat : Int)) (by omega)
  grind
theorem over_eps {d : Dyadic} (h : 0 < d) : ∃ k, eps k ≤ d := by
  obtain ⟨z, e, rfl⟩ := dy_any d
  have hz : 0 < z := by
    rw [← dy_zero e] at h; exact dy_lt.1 h
  refine ⟨(-e).toNat, ?_⟩
  have h2 : dy 1 e ≤ dy z e := dy_le_of (by omega)
  have h3 : eps (-e).toNat ≤ dy 1 e := by
    unfold eps
    obtain ⟨j, hj⟩ := Int.eq_ofNat_of_zero_le (show 0 ≤ e - (-((-e).toNat : Int)) by omega)
    rw [show e = -((-e).toNat : Int) + (j : Nat) by omega, ← dy_up]
    have e5 : -((-(-((-e).toNat : Int) + (j : Nat))).toNat : Int) = -((-e).toNat : Int) := by omega
    rw [e5]
    exact dy_le_of (by have := pow2_pos j; omega)
  grind
theorem dnn {a b : Dyadic} (ha : 0 ≤ a) (hb : 0 ≤ b) : 0 ≤ a * b := by
  rcases (show a = 0 ∨ 0 < a by grind) with h | h
  · rw [h]; grind
  · rcases (show b = 0 ∨ 0 < b by grind) with k | k
    · rw [k]; grind
    · have : 0 < a * b := by
        have := Dyadic.instOrderedRing.mul_lt_mul_of_pos_left k h
        grind
      grind
/-- A product of what is below A and what is below d. -/
theorem mul_under {a x A d : Dyadic} (h1 : -A ≤ a) (h2 : a ≤ A) (h3 : -d ≤ x) (h4 : x ≤ d) : -(A * d) ≤ a * x ∧ a * x ≤ A * d := by
  have p1 := dnn (show 0 ≤ A - a by grind) (show 0 ≤ d + x by grind)
  have p2 := dnn (show 0 ≤ A + a by grind) (show 0 ≤ d - x by grind)
  have p3 := dnn (show 0 ≤ A - a by grind) (show 0 ≤ d - x by grind)
  have p4 := dnn (show 0 ≤ A + a by grind) (show 0 ≤ d + x by grind)
  constructor <;> grind
/-- a and b are no further than two to the -k from one another. -/
structure Near (k : Nat) (a b : Dyadic) : Prop where
  l : a ≤ b + eps k
  r : b ≤ a + eps k
theorem Near.symm {k : Nat} {a b : Dyadic} (h : Near k a b) : Near k b a := ⟨h.r, h.l⟩
theorem Near.refl (k : Nat) (a : Dyadic) : Near k a a := by have := eps_pos k; constructor <;> grind
theorem Near.trans {k : Nat} {a b c : Dyadic} (h : Near (k + 1) a b) (g : Near (k + 1) b c) : Near k a c := by
  have := eps_half k; have := h.l; have := h.r; have := g.l; have := g.r; constructor <;> grind
theorem Near.mono {j k : Nat} {a b : Dyadic} (h : Near k a b) (hj : j ≤ k) : Near j a b := by
  have := eps_mono hj; have := h.l; have := h.r; constructor <;> grind
theorem Near.add {k : Nat} {a b c d : Dyadic} (h : Near (k + 1) a b) (g : Near (k + 1) c d) : Near k (a + c) (b + d) := by
  have := eps_half k; have := h.l; have := h.r; have := g.l; have := g.r; constructor <;> grind
theorem Near.neg {k : Nat} {a b : Dyadic} (h : Near k a b) : Near k (-a) (-b) := by
  have := h.l; have := h.r; constructor <;> grind
theorem Near.mul {k B : Nat} {a b c d : Dyadic} (h : Near (k + 1 + B) a b) (g : Near (k + 1 + B) c d) (ha : -big B ≤ a ∧ a ≤ big B) (hd : -big B ≤ d ∧ d ≤ big B) : Near k (a * c) (b * d) := by
  have e1 : big B * eps (k + 1 + B) = eps (k + 1) := by
    rw [← eps_mul, show big B * (eps (k + 1) * eps B) = big B * eps B * eps (k + 1) by grind, big_eps]; grind
  have := eps_half k
  have h1 := h.l; have h2 := h.r; have g1 := g.l; have g2 := g.r
  have p := mul_under (x := c - d) (d := eps (k + 1 + B)) ha.1 ha.2 (by grind) (by grind)
  have q := mul_under (x := a - b) (d := eps (k + 1 + B)) hd.1 hd.2 (by grind) (by grind)
  rw [e1] at p q
  constructor <;> grind
/-- A sequence that settles. -/
structure CS where
  f : Nat → Dyadic
  h : ∀ k, ∃ N, ∀ m n, N ≤ m → N ≤ n → Near k (f m) (f n)
theorem CS.bound (x : CS) : ∃ B N, ∀ n, N ≤ n → -big B ≤ x.f n ∧ x.f n ≤ big B := by
  obtain ⟨N, hN⟩ := x.h 0
  obtain ⟨B1, h1⟩ := under_big (x.f N)
  obtain ⟨B2, h2⟩ := under_big (-x.f N)
  refine ⟨B1 + B2 + 1, N, fun n hn => ?_⟩
  obtain ⟨g1, g2⟩ := hN n N hn (Nat.le_refl N)
  rw [eps_zero] at g1 g2
  have a1 := big_mono (show B1 ≤ B1 + B2 by omega)
  have a2 := big_mono (show B2 ≤ B1 + B2 by omega)
  have a3 := big_double (B1 + B2)
  have a4 := big_mono (show 0 ≤ B1 + B2 by omega)
  rw [big_zero] at a4
  constructor <;> grind
/-- x is at most y. -/
def CS.Le (x y : CS) : Prop := ∀ k, ∃ N, ∀ n, N ≤ n → x.f n ≤ y.f n + eps k
theorem CS.Le.refl (x : CS) : x.Le x := fun k => ⟨0, fun n _ => by have := eps_pos k; grind⟩
theorem CS.Le.trans {x y z : CS} (h : x.Le y) (g : y.Le z) : x.Le z := fun k => by
  obtain ⟨N, hN⟩ := h (k + 1)
  obtain ⟨M, hM⟩ := g (k + 1)
  refine ⟨max N M, fun n hn => ?_⟩
  have := hN n (by omega); have := hM n (by omega); have := eps_half k
  grind
theorem CS.Le.total (x y : CS) : x.Le y ∨ y.Le x := by
  by_cases h : x.Le y
  · exact .inl h
  · right
    obtain ⟨k, hk⟩ := Classical.not_forall.1 h
    obtain ⟨N, hN⟩ := x.h (k + 2)
    obtain ⟨M, hM⟩ := y.h (k + 2)
    have : ∃ n, max N M ≤ n ∧ y.f n + eps k < x.f n := by
      apply Classical.byContradiction
      intro hn
      apply hk
      refine ⟨max N M, fun n hm => ?_⟩
      apply Classical.byContradiction
      intro hc
      exact hn ⟨n, hm, by grind⟩
    obtain ⟨n, hn, hx⟩ := this
    refine fun j => ⟨max N M, fun m hm => ?_⟩
    obtain ⟨a1, a2⟩ := hN m n (by omega) (by omega)
    obtain ⟨b1, b2⟩ := hM m n (by omega) (by omega)
    have e1 := eps_half (k + 1); have e2 := eps_half k; have e3 := eps_pos j; have e4 := eps_pos (k + 2)
    rw [show k + 1 + 1 = k + 2 from rfl] at e1
    grind
instance CS.setoid : Setoid CS where
  r x y := x.Le y ∧ y.Le x
  iseqv := ⟨fun x => ⟨.refl x, .refl x⟩, fun h => ⟨h.2, h.1⟩, fun h g => ⟨h.1.trans g.1, g.2.trans h.2⟩⟩
theorem CS.eqv {x y : CS} : x ≈ y ↔ ∀ k, ∃ N, ∀ n, N ≤ n → Near k (x.f n) (y.f n) := by
  constructor
  · rintro ⟨h, g⟩ k
    obtain ⟨N, hN⟩ := h k
    obtain ⟨M, hM⟩ := g k
    exact ⟨max N M, fun n hn => ⟨hN n (by omega), hM n (by omega)⟩⟩
  · intro h
    exact ⟨fun k => by obtain ⟨N, hN⟩ := h k; exact ⟨N, fun n hn => (hN n hn).l⟩, fun k => by obtain ⟨N, hN⟩ := h k; exact ⟨N, fun n hn => (hN n hn).r⟩⟩
def CS.of (d : Dyadic) : CS := ⟨fun _ => d, fun k => ⟨0, fun _ _ _ _ => .refl k d⟩⟩
def CS.add (x y : CS) : CS := ⟨fun n => x.f n + y.f n, fun k => by
  obtain ⟨N, hN⟩ := x.h (k + 1)
  obtain ⟨M, hM⟩ := y.h (k + 1)
  exact ⟨max N M, fun m n hm hn => (hN m n (by omega) (by omega)).add (hM m n (by omega) (by omega))⟩⟩
def CS.neg (x : CS) : CS := ⟨fun n => -x.f n, fun k => by
  obtain ⟨N, hN⟩ := x.h k
  exact ⟨N, fun m n hm hn => (hN m n hm hn).neg⟩⟩
theorem CS.bounds (x y : CS) : ∃ B N, ∀ n, N ≤ n → (-big B ≤ x.f n ∧ x.f n ≤ big B) ∧ (-big B ≤ y.f n ∧ y.f n ≤ big B) := by
  obtain ⟨B, N, h⟩ := x.bound
  obtain ⟨C, M, g⟩ := y.bound
  refine ⟨B + C, max N M, fun n hn => ?_⟩
  have a1 := big_mono (show B ≤ B + C by omega)
  have a2 := big_mono (show C ≤ B + C by omega)
  have := h n (by omega); have := g n (by omega)
  grind
def CS.mul (x y : CS) : CS := ⟨fun n => x.f n * y.f n, fun k => by
  obtain ⟨B, L, hB⟩ := x.bounds y
  obtain ⟨N, hN⟩ := x.h (k + 1 + B)
  obtain ⟨M, hM⟩ := y.h (k + 1 + B)
  exact ⟨max L (max N M), fun m n hm hn => (hN m n (by omega) (by omega)).mul (hM m n (by omega) (by omega)) (hB m (by omega)).1 (hB n (by omega)).2⟩⟩
/-- Real numbers. -/
def RR : Type := Quotient CS.setoid
namespace RR
def mk (x : CS) : RR := Quotient.mk _ x
theorem sound {x y : CS} (h : x ≈ y) : mk x = mk y := Quotient.sound h
theorem same {x y : CS} (h : x.f = y.f) : mk x = mk y := by
  cases x; cases y; simp at h; subst h; rfl
theorem ind {p : RR → Prop} (h : ∀ x, p (mk x)) (a : RR) : p a := Quotient.ind h a
instance : Add RR := ⟨Quotient.lift₂ (fun x y => mk (x.add y)) (fun a c b d h g => sound (by
  rw [CS.eqv] at *
  intro k
  obtain ⟨N, hN⟩ := h (k + 1)
  obtain ⟨M, hM⟩ := g (k + 1)
  exact ⟨max N M, fun n hn => (hN n (by omega)).add (hM n (by omega))⟩))⟩
instance : Neg RR := ⟨Quotient.lift (fun x => mk x.neg) (fun a b h => sound (by
  replace h : a ≈ b := h
  rw [CS.eqv] at *
  intro k
  obtain ⟨N, hN⟩ := h k
  exact ⟨N, fun n hn => (hN n hn).neg⟩))⟩
instance : Mul RR := ⟨Quotient.lift₂ (fun x y => mk (x.mul y)) (fun a c b d h g => sound (by
  rw [CS.eqv] at *
  intro k
  obtain ⟨B, L, hB⟩ := CS.bounds a d
  obtain ⟨N, hN⟩ := h (k + 1 + B)
  obtain ⟨M, hM⟩ := g (k + 1 + B)
  exact ⟨max L (max N M), fun n hn => (hN n (by omega)).mul (hM n (by omega)) (hB n (by omega)).1 (hB n (by omega)).2⟩))⟩
instance : Sub RR := ⟨fun a b => a + -b⟩
instance : LE RR := ⟨fun a b => Quotient.liftOn₂ a b CS.Le (fun a b c d h g => propext ⟨fun k => h.2.trans (k.trans g.1), fun k => h.1.trans (k.trans g.2)⟩)⟩
instance : LT RR := ⟨fun a b => a ≤ b ∧ ¬ b ≤ a⟩
/-- A dyadic number, as a real one. -/
def of (d : Dyadic) : RR := mk (.of d)
instance : NatCast RR := ⟨fun n => of n⟩
instance : IntCast RR := ⟨fun n => of n⟩
instance (n : Nat) : OfNat RR n := ⟨of n⟩
instance : SMul Nat RR := ⟨fun n a => of n * a⟩
instance : SMul Int RR := ⟨fun n a => of n * a⟩
def pow (a : RR) : Nat → RR
  | 0 => 1
  | n + 1 => pow a n * a
instance : HPow RR Nat RR := ⟨pow⟩
theorem mk_add (x y : CS) : mk x + mk y = mk (x.add y) := rfl
theorem mk_mul (x y : CS) : mk x * mk y = mk (x.mul y) := rfl
theorem mk_neg (x : CS) : -mk x = mk x.neg := rfl
theorem mk_le (x y : CS) : mk x ≤ mk y ↔ x.Le y := Iff.rfl
theorem of_add (a b : Dyadic) : of (a + b) = of a + of b := rfl
theorem of_mul (a b : Dyadic) : of (a * b) = of a * of b := rfl
theorem of_neg (a : Dyadic) : of (-a) = -of a := rfl
theorem num_eq (n : Nat) : (OfNat.ofNat n : RR) = of (n : Dyadic) := rfl
end RR
/-- The class of what is an instance for dyadic numbers. -/
abbrev ClassOf {C : Type → Type} (_ : C Dyadic) (α : Type) : Type := C α
instance RR.ring : ClassOf Dyadic.instCommRing RR where
  add_zero := RR.ind fun x => RR.same (funext fun n => show x.f n + ((0 : Nat) : Dyadic) = x.f n by grind)
  add_comm := RR.ind fun x => RR.ind fun y => RR.same (funext fun n => show x.f n + y.f n = y.f n + x.f n by grind)
  add_assoc := RR.ind fun x => RR.ind fun y => RR.ind fun z => RR.same (funext fun n => show x.f n + y.f n + z.f n = x.f n + (y.f n + z.f n) by grind)
  mul_assoc := RR.ind fun x => RR.ind fun y => RR.ind fun z => RR.same (funext fun n => show x.f n * y.f n * z.f n = x.f n * (y.f n * z.f n) by grind)
  mul_one := RR.ind fun x => RR.same (funext fun n => show x.f n * ((1 : Nat) : Dyadic) = x.f n by grind)
  one_mul := RR.ind fun x => RR.same (funext fun n => show ((1 : Nat) : Dyadic) * x.f n = x.f n by grind)
  left_distrib := RR.ind fun x => RR.ind fun y => RR.ind fun z => RR.same (funext fun n => show x.f n * (y.f n + z.f n) = x.f n * y.f n + x.f n * z.f n by grind)
  right_distrib := RR.ind fun x => RR.ind fun y => RR.ind fun z => RR.same (funext fun n => show (x.f n + y.f n) * z.f n = x.f n * z.f n + y.f n * z.f n by grind)
  zero_mul := RR.ind fun x => RR.same (funext fun n => show ((0 : Nat) : Dyadic) * x.f n = ((0 : Nat) : Dyadic) by grind)
  mul_zero := RR.ind fun x => RR.same (funext fun n => show x.f n * ((0 : Nat) : Dyadic) = ((0 : Nat) : Dyadic) by grind)
  mul_comm := RR.ind fun x => RR.ind fun y => RR.same (funext fun n => show x.f n * y.f n = y.f n * x.f n by grind)
  pow_zero _ := rfl
  pow_succ _ _ := rfl
  ofNat_succ n := by
    show RR.of ((n + 1 : Nat) : Dyadic) = RR.of (n : Dyadic) + RR.of ((1 : Nat) : Dyadic)
    rw [← RR.of_add]; congr 1; grind
  neg_add_cancel := RR.ind fun x => RR.same (funext fun n => show -x.f n + x.f n = ((0 : Nat) : Dyadic) by grind)
  sub_eq_add_neg _ _ := rfl
  neg_zsmul i := RR.ind fun x => RR.same (funext fun n => show ((-i : Int) : Dyadic) * x.f n = -((i : Dyadic) * x.f n) by grind)
  zsmul_natCast_eq_nsmul n a := rfl
  intCast_ofNat n := rfl
  intCast_neg i := by
    show RR.of ((-i : Int) : Dyadic) = -RR.of (i : Dyadic)
    rw [← RR.of_neg]; congr 1; grind
end Go.Proofs.YtomdbmjfehoodaaGreatDoor

/- Plain mathematics: real numbers in their order; square roots. No program is named here. -/
namespace Go.Proofs.YtomdbmjfehoodaaGreatDoor
set_option linter.unusedVariables false
instance : Std.IsLinearOrder RR where
  le_refl := RR.ind fun x => CS.Le.refl x
  le_trans := RR.ind fun x => RR.ind fun y => RR.ind fun z => fun h g => CS.Le.trans (x := x) (y := y) h g
  le_antisymm := RR.ind fun x => RR.ind fun y => fun h g => RR.sound ⟨h, g⟩
  le_total := RR.ind fun x => RR.ind fun y => CS.Le.total x y
instance : Std.LawfulOrderLT RR where
  lt_iff _ _ := Iff.rfl
theorem RR.mk_lt {x y : CS} : RR.mk x < RR.mk y ↔ ∃ k N, ∀ n, N ≤ n → x.f n + eps k ≤ y.f n := by
  constructor
  · rintro ⟨_, h⟩
    obtain ⟨k, hk⟩ := Classical.not_forall.1 h
    obtain ⟨N, hN⟩ := x.h (k + 2)
    obtain ⟨M, hM⟩ := y.h (k + 2)
    have : ∃ n, max N M ≤ n ∧ x.f n + eps k < y.f n := by
      apply Classical.byContradiction
      intro hn
      apply hk
      refine ⟨max N M, fun n hm => ?_⟩
      apply Classical.byContradiction
      intro hc
      exact hn ⟨n, hm, by grind⟩
    obtain ⟨n, hn, hx⟩ := this
    refine ⟨k + 1, max N M, fun m hm => ?_⟩
    obtain ⟨a1, a2⟩ := hN m n (by omega) (by omega)
    obtain ⟨b1, b2⟩ := hM m n (by omega) (by omega)
    have e1 := eps_half (k + 1); have e2 := eps_half k
    rw [show k + 1 + 1 = k + 2 from rfl] at e1
    grind
  · rintro ⟨k, N, h⟩
    refine ⟨fun j => ⟨N, fun n hn => ?_⟩, fun g => ?_⟩
    · have := h n hn; have := eps_pos k; have := eps_pos j; grind
    · obtain ⟨M, hM⟩ := g (k + 1)
      have a := h (max N M) (by omega)
      have b := hM (max N M) (by omega)
      have := eps_half k; have := eps_pos (k + 1)
      grind
theorem RR.add_le' : ∀ a b c : RR, a ≤ b → a + c ≤ b + c := by
  refine RR.ind fun x => RR.ind fun y => RR.ind fun z => fun h => ?_
  intro k
  obtain ⟨N, hN⟩ := h k
  exact ⟨N, fun n hn => by have := hN n hn; show x.f n + z.f n ≤ y.f n + z.f n + eps k; grind⟩
theorem RR.add_le (c : RR) {a b : RR} (h : a ≤ b) : a + c ≤ b + c := RR.add_le' a b c h
theorem RR.mul_lt' : ∀ a b c : RR, a < b → 0 < c → c * a < c * b := by
  refine RR.ind fun x => RR.ind fun y => RR.ind fun z => fun h g => ?_
  obtain ⟨k, N, hN⟩ := RR.mk_lt.1 h
  obtain ⟨j, M, hM⟩ := RR.mk_lt.1 (show RR.mk (.of ((0 : Nat) : Dyadic)) < RR.mk z from g)
  refine RR.mk_lt.2 ⟨j + k, max N M, fun n hn => ?_⟩
  have p := hN n (by omega)
  have q := hM n (by omega)
  have q' : ((0 : Nat) : Dyadic) + eps j ≤ z.f n := q
  have q2 : eps j ≤ z.f n := by grind
  have r1 := dnn (show 0 ≤ z.f n - eps j by grind) (show 0 ≤ eps k by have := eps_pos k; grind)
  have r2 := dnn (show 0 ≤ z.f n by have := eps_pos j; grind) (show 0 ≤ y.f n - x.f n - eps k by grind)
  have r3 := eps_mul j k
  show z.f n * x.f n + eps (j + k) ≤ z.f n * y.f n
  rw [← r3]
  grind
theorem RR.mul_lt {a b c : RR} (h : a < b) (g : 0 < c) : c * a < c * b := RR.mul_lt' a b c h g
theorem RR.of_le {a b : Dyadic} : RR.of a ≤ RR.of b ↔ a ≤ b := by
  constructor
  · intro h
    apply Classical.byContradiction
    intro hn
    obtain ⟨k, hk⟩ := over_eps (show 0 < a - b by grind)
    obtain ⟨N, hN⟩ := h (k + 1)
    have h1 : a ≤ b + eps (k + 1) := hN N (Nat.le_refl N)
    have := eps_half k; have := eps_pos (k + 1)
    grind
  · intro h k
    exact ⟨0, fun n _ => by show a ≤ b + eps k; have := eps_pos k; grind⟩
/-- The classes of what are instances for dyadic numbers. -/
abbrev OrdOf {S : Type → Type} {C : (R : Type) → S R → (l : LE R) → LT R → @Std.IsPreorder R l → Prop} {s : S Dyadic} {l : LE Dyadic} {lt : LT Dyadic} {p : @Std.IsPreorder Dyadic l} (_ : C Dyadic s l lt p) (R : Type) (s' : S R) [l' : LE R] [lt' : LT R] [p' : Std.IsPreorder R] : Prop := C R s' l' lt' p'
abbrev CharOf {S : Type → Type} {C : (R : Type) → S R → Nat → Prop} {s : S Dyadic} {p : Nat} (_ : C Dyadic s p) (R : Type) (s' : S R) : Prop := C R s' p
abbrev TorsOf {M : Type → Type} {C : (R : Type) → M R → Prop} {m : M Dyadic} (_ : C Dyadic m) (R : Type) (m' : M R) : Prop := C R m'
theorem RR.zero_lt : (RR.of ((0 : Nat) : Dyadic)) < RR.of ((1 : Nat) : Dyadic) := by
  refine RR.mk_lt.2 ⟨0, 0, fun n _ => ?_⟩
  show ((0 : Nat) : Dyadic) + eps 0 ≤ ((1 : Nat) : Dyadic)
  rw [eps_zero]; grind
instance RR.ordered : OrdOf Dyadic.instOrderedRing RR inferInstance where
  add_le_left_iff {a b} c := ⟨RR.add_le c, fun h => by
    have k := RR.add_le (-c) h
    rwa [show a + c + -c = a by grind, show b + c + -c = b by grind] at k⟩
  zero_lt_one := RR.zero_lt
  mul_lt_mul_of_pos_left h g := RR.mul_lt h g
  mul_lt_mul_of_pos_right {a b c} h g := by
    have k := RR.mul_lt h g
    rwa [show c * a = a * c by grind, show c * b = b * c by grind] at k
instance RR.char : CharOf Dyadic.instIsCharPOfNatNat RR inferInstance where
  ofNat_ext_iff {x y} := by
    rw [Nat.mod_zero, Nat.mod_zero]
    constructor
    · intro h
      have h1 : RR.of (x : Dyadic) = RR.of (y : Dyadic) := h
      have h2 : (x : Dyadic) ≤ (y : Dyadic) := RR.of_le.1 (by rw [h1]; exact Std.le_refl _)
      have h3 : (y : Dyadic) ≤ (x : Dyadic) := RR.of_le.1 (by rw [h1]; exact Std.le_refl _)
      have h4 : (x : Dyadic) = (y : Dyadic) := by grind
      have h5 : ((x : Nat) : Dyadic).toRat = ((y : Nat) : Dyadic).toRat := by rw [h4]
      rw [Dyadic.toRat_natCast, Dyadic.toRat_natCast] at h5
      exact_mod_cast h5
    · rintro rfl; rfl
instance RR.tors : TorsOf Dyadic.instNoNatZeroDivisors RR inferInstance where
  no_nat_zero_divisors k a b hk h := by
    have h1 : RR.of (k : Dyadic) * a = RR.of (k : Dyadic) * b := h
    have hp : (0 : RR) < RR.of (k : Dyadic) := by
      have : ¬ RR.of (k : Dyadic) ≤ RR.of ((0 : Nat) : Dyadic) := by
        rw [RR.of_le]
        intro hle
        have : (1 : Dyadic) ≤ (k : Dyadic) := by
          obtain ⟨j, rfl⟩ := Nat.exists_eq_succ_of_ne_zero hk
          have : (0 : Dyadic) ≤ (j : Dyadic) := by grind
          grind
        grind
      rcases Std.le_total (a := RR.of (k : Dyadic)) (b := (0 : RR)) with g | g
      · exact absurd g this
      · exact ⟨g, this⟩
    rcases Std.le_total (a := a) (b := b) with g | g
    · apply Classical.byContradiction
      intro hne
      have : a < b := by grind
      have := RR.mul_lt this hp
      grind
    · apply Classical.byContradiction
      intro hne
      have : b < a := by grind
      have := RR.mul_lt this hp
      grind
end Go.Proofs.YtomdbmjfehoodaaGreatDoor

/- Plain mathematics: square roots of real numbers; how near dyadic numbers come. No program is named here. -/
namespace Go.Proofs.YtomdbmjfehoodaaGreatDoor
set_option linter.unusedVariables false
theorem last_of {p : Nat → Prop} (h0 : p 0) : ∀ R, ¬ p R → ∃ r, p r ∧ ¬ p (r + 1)
  | 0, h => absurd h0 h
  | R + 1, h => by
    by_cases g : p R
    · exact ⟨R, g, h⟩
    · exact last_of h0 R g
/-- Roots of dyadic numbers, downwards, as multiples of a part. -/
theorem root_near {d : Dyadic} (hd : 0 ≤ d) (n : Nat) : ∃ s : Dyadic, 0 ≤ s ∧ s * s ≤ d ∧ d < (s + eps n) * (s + eps n) := by
  obtain ⟨k, hk⟩ := under_big d
  have hz : dy ((0 : Nat) : Int) (-(n : Int)) = 0 := dy_zero _
  have hs : ∀ r : Nat, dy ((r + 1 : Nat) : Int) (-(n : Int)) = dy (r : Int) (-(n : Int)) + eps n := fun r => by
    unfold eps; rw [dy_add]; rfl
  have hnn : ∀ r : Nat, 0 ≤ dy (r : Int) (-(n : Int)) := fun r => by
    have := dy_le_of (x := 0) (y := (r : Int)) (e := -(n : Int)) (by omega)
    rwa [dy_zero] at this
  have ht : ¬ dy ((2 ^ (n + (k + 1)) : Nat) : Int) (-(n : Int)) * dy ((2 ^ (n + (k + 1)) : Nat) : Int) (-(n : Int)) ≤ d := by
    have e : dy ((2 ^ (n + (k + 1)) : Nat) : Int) (-(n : Int)) = big (k + 1) := by
      rw [show ((2 ^ (n + (k + 1)) : Nat) : Int) = 1 * 2 ^ (n + (k + 1)) by rw [Int.natCast_pow, Int.one_mul]; rfl, dy_up]
      unfold big; congr 1; omega
    rw [e, big_double]
    have b1 := big_mono (show 0 ≤ k by omega)
    rw [big_zero] at b1
    have := dnn (show 0 ≤ big k - 1 by grind) (show 0 ≤ big k by grind)
    grind
  obtain ⟨r, h1, h2⟩ := last_of (p := fun r => dy (r : Int) (-(n : Int)) * dy (r : Int) (-(n : Int)) ≤ d) (by rw [hz]; grind) _ ht
  refine ⟨_, hnn r, h1, ?_⟩
  rw [hs] at h2
  grind
/-- A lesser square has a lesser root. -/
theorem root_gap {s t D E a : Dyadic} {k : Nat} (hs : 0 ≤ t) (ha : 0 ≤ a) (h1 : s * s ≤ D) (h2 : E < (t + a) * (t + a)) (h3 : D ≤ E + eps k * eps k) : s ≤ t + a + eps k := by
  apply Classical.byContradiction
  intro h
  have hp := eps_pos k
  have p1 := dnn (show 0 ≤ s - (t + a + eps k) by grind) (show 0 ≤ s + (t + a + eps k) by grind)
  have p2 := dnn (show 0 ≤ t + a by grind) (show 0 ≤ eps k by grind)
  grind
/-- x, or 0, if that is more. -/
noncomputable def up0 (x : Dyadic) : Dyadic := open Classical in if 0 ≤ x then x else 0
theorem up0_nn (x : Dyadic) : 0 ≤ up0 x := by unfold up0; split <;> grind
theorem up0_near {k : Nat} {x y : Dyadic} (h : Near k x y) : Near k (up0 x) (up0 y) := by
  have := h.l; have := h.r; have := eps_pos k
  unfold up0; constructor <;> (split <;> split <;> grind)
noncomputable def rootAt (x : Dyadic) (n : Nat) : Dyadic := Classical.choose (root_near (up0_nn x) n)
theorem rootAt_spec (x : Dyadic) (n : Nat) : 0 ≤ rootAt x n ∧ rootAt x n * rootAt x n ≤ up0 x ∧ up0 x < (rootAt x n + eps n) * (rootAt x n + eps n) := Classical.choose_spec (root_near (up0_nn x) n)
noncomputable def CS.root (x : CS) : CS := ⟨fun n => rootAt (x.f n) n, fun k => by
  obtain ⟨N, hN⟩ := x.h (k + 1 + (k + 1))
  have key : ∀ m n, max N (k + 1) ≤ m → max N (k + 1) ≤ n → rootAt (x.f m) m ≤ rootAt (x.f n) n + eps k := fun m n hm hn => by
    obtain ⟨a0, a1, a2⟩ := rootAt_spec (x.f m) m
    obtain ⟨b0, b1, b2⟩ := rootAt_spec (x.f n) n
    have h := up0_near (hN m n (by omega) (by omega))
    have g := root_gap (k := k + 1) b0 (show 0 ≤ eps n by have := eps_pos n; grind) a1 b2 (by have := h.l; rw [← eps_mul] at this; exact this)
    have e1 := eps_mono (show k + 1 ≤ n by omega)
    have e2 := eps_half k
    grind
  exact ⟨max N (k + 1), fun m n hm hn => ⟨key m n hm hn, key n m hn hm⟩⟩⟩
theorem RR.root_there : ∀ x : RR, 0 ≤ x → ∃ y : RR, 0 ≤ y ∧ y * y = x := by
  refine RR.ind fun x => fun h => ⟨RR.mk x.root, ?_, ?_⟩
  · intro k
    refine ⟨0, fun n _ => ?_⟩
    show ((0 : Nat) : Dyadic) ≤ rootAt (x.f n) n + eps k
    have := (rootAt_spec (x.f n) n).1
    have := eps_pos k
    grind
  · refine RR.sound (CS.eqv.2 fun k => ?_)
    obtain ⟨B, L, hB⟩ := CS.bound x.root
    obtain ⟨N, hN⟩ := h (k + 1)
    refine ⟨max (max L N) (k + 1 + (B + 1) + 1), fun n hn => ?_⟩
    obtain ⟨a0, a1, a2⟩ := rootAt_spec (x.f n) n
    have hb := hB n (by omega)
    have hb2 : rootAt (x.f n) n ≤ big B := hb.2
    have h0 : ((0 : Nat) : Dyadic) ≤ x.f n + eps (k + 1) := hN n (by omega)
    have hu : Near (k + 1) (up0 (x.f n)) (x.f n) := by
      have := eps_pos (k + 1)
      unfold up0; constructor <;> (split <;> grind)
    refine Near.trans (b := up0 (x.f n)) ?_ hu
    show Near (k + 1) (rootAt (x.f n) n * rootAt (x.f n) n) (up0 (x.f n))
    generalize rootAt (x.f n) n = s at *
    generalize up0 (x.f n) = D at *
    have e1 := eps_mono (show k + 1 + (B + 1) + 1 ≤ n by omega)
    have e2 := eps_pos n
    have e3 := eps_half (k + 1 + (B + 1))
    have e4 : big (B + 1) * eps (k + 1 + (B + 1)) = eps (k + 1) := by
      rw [← eps_mul, show big (B + 1) * (eps (k + 1) * eps (B + 1)) = big (B + 1) * eps (B + 1) * eps (k + 1) by grind, big_eps]; grind
    have e5 := big_double B
    have e6 := big_mono (show 0 ≤ B by omega)
    rw [big_zero] at e6
    have e7 := eps_mono (show 0 ≤ n by omega)
    rw [eps_zero] at e7
    have p1 := dnn (show 0 ≤ big B - s by grind) (show 0 ≤ eps n by grind)
    have p2 := dnn (show 0 ≤ 1 - eps n by grind) (show 0 ≤ eps n by grind)
    have p3 := dnn (show 0 ≤ big (B + 1) by have := big_pos (B + 1); grind) (show 0 ≤ eps (k + 1 + (B + 1)) - eps n - eps n by grind)
    clear e3
    have p4 := dnn (show 0 ≤ big B - 1 by grind) (show 0 ≤ eps n by grind)
    have p5 := eps_pos (k + 1)
    rw [e5] at e4 p3
    clear hB hN hb h0 hu hn h e5 e1
    constructor
    all_goals
      generalize big B = b at *
      generalize eps n = u at *
      generalize eps (k + 1 + (B + 1)) = E at *
      generalize eps (k + 1) = F at *
      grind
/-- Roots, 0 of what is below 0. -/
noncomputable def RR.root (x : RR) : RR := open Classical in if h : 0 ≤ x then Classical.choose (RR.root_there x h) else 0
theorem RR.root_nn (x : RR) : 0 ≤ x.root := by
  unfold RR.root
  split
  · rename_i h; exact (Classical.choose_spec (RR.root_there x h)).1
  · grind
theorem RR.root_sq {x : RR} (h : 0 ≤ x) : x.root * x.root = x := by
  unfold RR.root
  rw [dif_pos h]
  exact (Classical.choose_spec (RR.root_there x h)).2
/-- Between numbers that differ there is room. -/
theorem RR.apart {x y : RR} (h : x < y) : ∃ k, x + RR.of (eps k) ≤ y := by
  revert x y h
  have : ∀ x y : RR, x < y → ∃ k, x + RR.of (eps k) ≤ y := RR.ind fun x => RR.ind fun y => fun h => by
    obtain ⟨k, N, hN⟩ := RR.mk_lt.1 h
    exact ⟨k, fun j => ⟨N, fun n hn => by show x.f n + eps k ≤ y.f n + eps j; have := hN n hn; have := eps_pos j; grind⟩⟩
  exact fun {x y} h => this x y h
theorem RR.le_eps {x y : RR} (h : ∀ k, x ≤ y + RR.of (eps k)) : x ≤ y := by
  apply Classical.byContradiction
  intro hn
  obtain ⟨k, hk⟩ := RR.apart (show y < x by grind)
  have a := h (k + 1)
  have b : RR.of (eps (k + 1)) + RR.of (eps (k + 1)) = RR.of (eps k) := by rw [← RR.of_add, eps_half]
  have c : (0 : RR) < RR.of (eps (k + 1)) := by
    have : ¬ RR.of (eps (k + 1)) ≤ RR.of ((0 : Nat) : Dyadic) := by
      rw [RR.of_le]; have := eps_pos (k + 1); grind
    have t : RR.of ((0 : Nat) : Dyadic) ≤ RR.of (eps (k + 1)) := RR.of_le.2 (by have := eps_pos (k + 1); grind)
    exact ⟨t, this⟩
  grind
theorem RR.of_lt {a b : Dyadic} : RR.of a < RR.of b ↔ a < b := by
  constructor
  · intro h
    have := mt RR.of_le.2 h.2
    grind
  · intro h
    exact ⟨RR.of_le.2 (by grind), fun k => by have := RR.of_le.1 k; grind⟩
theorem RR.of_nat (n : Nat) : RR.of (n : Dyadic) = (n : RR) := rfl
theorem RR.of_zero : RR.of 0 = 0 := by
  show RR.of 0 = RR.of ((0 : Nat) : Dyadic); congr 1
theorem RR.of_one : RR.of 1 = 1 := by
  show RR.of 1 = RR.of ((1 : Nat) : Dyadic); congr 1
theorem RR.mul_nn {a b : RR} (ha : 0 ≤ a) (hb : 0 ≤ b) : 0 ≤ a * b := by
  rcases (show a = 0 ∨ 0 < a by grind) with h | h
  · rw [h]; grind
  · rcases (show b = 0 ∨ 0 < b by grind) with k | k
    · rw [k]; grind
    · have := RR.mul_lt k h
      grind
theorem RR.sq_nn (a : RR) : 0 ≤ a * a := by
  rcases Std.le_total (a := a) (b := (0 : RR)) with h | h
  · have := RR.mul_nn (show 0 ≤ -a by grind) (show 0 ≤ -a by grind); grind
  · exact RR.mul_nn h h
/-- Of lesser squares lesser roots. -/
theorem RR.sq_le {a b : RR} (hb : 0 ≤ b) (h : a * a ≤ b * b) : a ≤ b := by
  apply Classical.byContradiction
  intro hn
  have p := RR.mul_lt (show b < a by grind) (show 0 < a by grind)
  have q := RR.mul_nn hb (show 0 ≤ a - b by grind)
  grind
theorem RR.sq_uniq {a b : RR} (ha : 0 ≤ a) (hb : 0 ≤ b) (h : a * a = b * b) : a = b := by
  have := RR.sq_le hb (show a * a ≤ b * b by grind)
  have := RR.sq_le ha (show b * b ≤ a * a by grind)
  grind
end Go.Proofs.YtomdbmjfehoodaaGreatDoor

