/- Dyadic numbers, and walks of the document's. -/
import Derived.Test.YtomdbmjfehoodaaGreatDoorMA
import Init.Data.Dyadic
import Derived.Test.YtomdbmjfehoodaaGreatDoorMC
set_option maxRecDepth 8000
/- Plain mathematics of dyadic numbers. -/
namespace Go.Proofs.YtomdbmjfehoodaaGreatDoor

/-- z times two to the e. -/
def dy (z e : Int) : Dyadic := .ofIntWithPrec z (-e)
theorem dy_rat (z e : Int) : (dy z e).toRat = z * 2 ^ e := by
  unfold dy; rw [Dyadic.toRat_ofIntWithPrec_eq_mul_two_pow, Int.neg_neg]
theorem dy_zero (e : Int) : dy 0 e = 0 := rfl
theorem two_ne : (2 : Rat) ≠ 0 := by decide
theorem dy_up (z e : Int) (k : Nat) : dy (z * 2 ^ k) e = dy z (e + k) := by
  rw [← Dyadic.toRat_inj, dy_rat, dy_rat, Rat.zpow_add two_ne, Rat.zpow_natCast, Rat.intCast_mul, Rat.intCast_pow]
  grind
theorem dy_add (x y e : Int) : dy x e + dy y e = dy (x + y) e := by
  rw [← Dyadic.toRat_inj, Dyadic.toRat_add, dy_rat, dy_rat, dy_rat, Rat.intCast_add]
  grind
theorem dy_mul (x y e f : Int) : dy x e * dy y f = dy (x * y) (e + f) := by
  rw [← Dyadic.toRat_inj, Dyadic.toRat_mul, dy_rat, dy_rat, dy_rat, Rat.intCast_mul, Rat.zpow_add two_ne]
  grind
theorem dy_neg (x e : Int) : - dy x e = dy (-x) e := by
  unfold dy; exact Dyadic.neg_ofIntWithPrec
theorem dy_pos (e : Int) : (0 : Rat) < 2 ^ e := Rat.zpow_pos (by decide)
theorem dy_lt {x y e : Int} : dy x e < dy y e ↔ x < y := by
  rw [← Dyadic.toRat_lt_toRat_iff, dy_rat, dy_rat]
  have h := dy_pos e
  rw [← Rat.intCast_lt_intCast]
  constructor
  · intro k; exact Rat.lt_of_mul_lt_mul_right k (Rat.le_of_lt h)
  · intro k; exact Rat.mul_lt_mul_of_pos_right k h
theorem dy_inj {x y e : Int} (h : dy x e = dy y e) : x = y := by
  have h1 := mt (dy_lt (x := x) (y := y) (e := e)).2
  have h2 := mt (dy_lt (x := y) (y := x) (e := e)).2
  rw [h] at h1 h2
  have : ¬ dy y e < dy y e := by grind
  have := h1 this; have := h2 ‹_›; omega
theorem dy_odd {z e : Int} (h : z % 2 = 1) : dy z e = .ofOdd z (-e) h := by
  rw [Dyadic.ofOdd_eq_ofIntWithPrec]; rfl
/-- The form that each number has but once. -/
structure Canon (z e : Int) : Prop where
  out : (z = 0 ∧ e = 0) ∨ z % 2 = 1
theorem Canon.uniq {z e z' e' : Int} (h : Canon z e) (h' : Canon z' e') (hd : dy z e = dy z' e') : z = z' ∧ e = e' := by
  rcases h.out with ⟨rfl, rfl⟩ | o <;> rcases h'.out with ⟨rfl, rfl⟩ | o'
  · exact ⟨rfl, rfl⟩
  · rw [dy_odd o', dy_zero] at hd; cases hd
  · rw [dy_odd o, dy_zero] at hd; cases hd
  · rw [dy_odd o, dy_odd o'] at hd
    injection hd with h1 h2
    exact ⟨h1, by omega⟩

/-- d is a whole multiple of two to the -P, and below two to the Q, and above its opposite. -/
structure Rg (P Q : Nat) (d : Dyadic) : Prop where
  out : ∃ X : Int, d = dy X (-P) ∧ -2 ^ (P + Q) < X ∧ X < 2 ^ (P + Q)
theorem pow2_pos (k : Nat) : (0 : Int) < 2 ^ k := Int.pow_pos (by omega)
theorem pow2_mono {j k : Nat} (h : j ≤ k) : (2 : Int) ^ j ≤ 2 ^ k := by
  obtain ⟨d, rfl⟩ := Nat.exists_eq_add_of_le h
  rw [Int.pow_add]
  have := pow2_pos j; have := pow2_pos d
  have := Int.mul_le_mul_of_nonneg_left (show (1 : Int) ≤ 2 ^ d by omega) (show (0 : Int) ≤ 2 ^ j by omega)
  omega
theorem mul_bound {x a b : Int} (hb : 0 < b) (h1 : -a < x) (h2 : x < a) : -(a * b) < x * b ∧ x * b < a * b := by
  constructor
  · rw [← Int.neg_mul]; exact Int.mul_lt_mul_of_pos_right h1 hb
  · exact Int.mul_lt_mul_of_pos_right h2 hb
theorem dy_down (x e : Int) (P : Nat) (h : 0 ≤ e + P) : dy x e = dy (x * 2 ^ (e + P).toNat) (-P) := by
  rw [dy_up]; congr 1; omega
theorem Rg.mono {P Q P' Q' : Nat} {d : Dyadic} (h : Rg P Q d) (hP : P ≤ P') (hQ : Q ≤ Q') : Rg P' Q' d := by
  obtain ⟨X, rfl, h1, h2⟩ := h.out
  refine ⟨X * 2 ^ (P' - P), ?_, ?_⟩
  · rw [dy_up]; congr 1; omega
  · have := mul_bound (pow2_pos (P' - P)) h1 h2
    rw [← Int.pow_add] at this
    have := pow2_mono (show P + Q + (P' - P) ≤ P' + Q' by omega)
    omega
theorem Rg.neg {P Q : Nat} {d : Dyadic} (h : Rg P Q d) : Rg P Q (-d) := by
  obtain ⟨X, rfl, h1, h2⟩ := h.out
  exact ⟨-X, dy_neg _ _, by omega, by omega⟩
theorem Rg.add {P Q : Nat} {x y : Dyadic} (h : Rg P Q x) (k : Rg P Q y) : Rg P (Q + 1) (x + y) := by
  obtain ⟨X, rfl, h1, h2⟩ := h.out
  obtain ⟨Y, rfl, k1, k2⟩ := k.out
  refine ⟨X + Y, dy_add _ _ _, ?_⟩
  rw [← Nat.add_assoc, Int.pow_succ]; omega
theorem Rg.sub {P Q : Nat} {x y : Dyadic} (h : Rg P Q x) (k : Rg P Q y) : Rg P (Q + 1) (x - y) := by
  have e : x - y = x + -y := by grind
  rw [e]; exact h.add k.neg
theorem Rg.mul {P Q P' Q' : Nat} {x y : Dyadic} (h : Rg P Q x) (k : Rg P' Q' y) : Rg (P + P') (Q + Q') (x * y) := by
  obtain ⟨X, rfl, h1, h2⟩ := h.out
  obtain ⟨Y, rfl, k1, k2⟩ := k.out
  refine ⟨X * Y, by rw [dy_mul]; congr 1; omega, ?_⟩
  have e : (2 : Int) ^ (P + P' + (Q + Q')) = 2 ^ (P + Q) * 2 ^ (P' + Q') := by rw [← Int.pow_add]; congr 1; omega
  rw [e]
  generalize (2 : Int) ^ (P + Q) = A at *
  generalize (2 : Int) ^ (P' + Q') = B at *
  have hx : X.natAbs < A.natAbs := by omega
  have hy : Y.natAbs < B.natAbs := by omega
  have hm : X.natAbs * Y.natAbs < A.natAbs * B.natAbs := Nat.mul_lt_mul'' hx hy
  have e1 : (X * Y).natAbs = X.natAbs * Y.natAbs := Int.natAbs_mul _ _
  have e2 : (A * B).natAbs = A.natAbs * B.natAbs := Int.natAbs_mul _ _
  have hA : 0 < A := by omega
  have hB : 0 < B := by omega
  have := Int.mul_pos hA hB
  omega
theorem Rg.int {z : Int} {Q : Nat} (h : -2 ^ Q < z ∧ z < 2 ^ Q) : Rg 0 Q (dy z 0) := ⟨z, rfl, by simpa using h.1, by simpa using h.2⟩
theorem Rg.pow {k : Int} {K : Nat} (h : -K ≤ k ∧ k ≤ K) : Rg K (K + 1) (dy 1 k) := by
  refine ⟨1 * 2 ^ (k + K).toNat, dy_down 1 k K (by omega), ?_⟩
  have := pow2_pos (k + K).toNat
  have h1 := pow2_mono (show (k + K).toNat ≤ K + K by omega)
  rw [← Nat.add_assoc, Int.pow_succ]
  omega
theorem Rg.canon {P Q : Nat} {z e : Int} (h : Rg P Q (dy z e)) (c : Canon z e) : -P ≤ e ∧ e ≤ Q ∧ z.natAbs < 2 ^ (P + Q) := by
  obtain ⟨X, hX, h1, h2⟩ := h.out
  have hp := pow2_pos (P + Q)
  rcases c.out with ⟨rfl, rfl⟩ | o
  · exact ⟨by omega, by omega, Nat.two_pow_pos _⟩
  · rcases Int.lt_or_le e (-P) with he | he
    · exfalso
      obtain ⟨k, hk⟩ : ∃ k : Nat, -(P : Int) = e + (k + 1 : Nat) := ⟨(-P - e - 1).toNat, by omega⟩
      rw [hk, ← dy_up, Int.pow_succ] at hX
      have := dy_inj hX
      rw [← Int.mul_assoc] at this
      omega
    · obtain ⟨k, hk⟩ : ∃ k : Nat, e = -P + (k : Int) := ⟨(e + P).toNat, by omega⟩
      rw [hk, ← dy_up] at hX
      have hz := dy_inj hX
      have hkp := pow2_pos k
      have hzz : z.natAbs * 2 ^ k < 2 ^ (P + Q) := by
        have e1 : (z * 2 ^ k).natAbs = z.natAbs * 2 ^ k := by rw [Int.natAbs_mul, Int.natAbs_pow]; rfl
        have e2 : ((2 : Int) ^ (P + Q)).natAbs = 2 ^ (P + Q) := by rw [Int.natAbs_pow]; rfl
        omega
      have hz1 : 1 ≤ z.natAbs := by omega
      have hk1 : 2 ^ k < 2 ^ (P + Q) := Nat.lt_of_le_of_lt (Nat.le_mul_of_pos_left _ hz1) hzz
      have hk2 : k < P + Q := (Nat.pow_lt_pow_iff_right (by omega)).1 hk1
      have hk3 : z.natAbs < 2 ^ (P + Q) := Nat.lt_of_le_of_lt (Nat.le_mul_of_pos_right _ (Nat.two_pow_pos k)) hzz
      exact ⟨he, by omega, hk3⟩

end Go.Proofs.YtomdbmjfehoodaaGreatDoor

/- Dyadic numbers as the program holds them, and the walk of the document's Make. -/
namespace Go.Proofs.YtomdbmjfehoodaaGreatDoor
open Go.RowKit

/-- v is the dyadic number d, in its one form. -/
def Dn (w : World) (v : Value) (d : Dyadic) : Prop := ∃ (M : Value) (z e : Int), v = .agg #[.bool (decide (z < 0)), M, .int .i64 e] ∧ N w M z.natAbs ∧ Canon z e ∧ d = dy z e
def RetD (w : World) (d : Dyadic) (e : Ending) (w' : World) : Prop := ∃ v, e = .returned v ∧ Dn w' v d ∧ Ext w w'
theorem Dn.ext {w w' : World} {v : Value} {d : Dyadic} (h : Dn w v d) (k : Ext w w') : Dn w' v d := by
  obtain ⟨M, z, e, rfl, h1, h2, h3⟩ := h
  exact ⟨M, z, e, rfl, h1.ext k, h2, h3⟩
theorem Dn.zero (w : World) : Dn w (.agg #[.bool false, .slice none 0 0, .int .i64 0]) 0 :=
  ⟨_, 0, 0, rfl, N.zero _ _ _ (by unfold maxLen; omega), ⟨.inl ⟨rfl, rfl⟩⟩, (dy_zero 0).symm⟩
theorem val_mod2 {xs : List Int} (h : xs ≠ []) : val xs % 2 = nth xs 0 % 2 := by
  cases xs with
  | nil => exact absurd rfl h
  | cons x l => rw [nth_cons_zero]; simp only [val]; omega
/-- A natural's lowest limb. -/
theorem N.low {w : World} {v : Value} {m : Nat} (h : N w v m) (hm : m ≠ 0) : ∃ b off len c x, v = .slice (some ⟨b, off, none⟩) len c ∧ 0 < len ∧ w.cell? ⟨b, off, none⟩ = some (.int .i64 x) ∧ 0 ≤ x ∧ x < 16777216 ∧ x % 2 = ((m % 2 : Nat) : Int) := by
  obtain ⟨xs, ⟨A, c, rfl, h1, h2, h3⟩, n, e⟩ := h
  have hne : xs ≠ [] := by intro e0; subst e0; simp [val] at e; omega
  have hl : 0 < xs.length := List.length_pos_iff.2 hne
  obtain ⟨b, off, rfl, hb, hc⟩ := h3 hl
  obtain ⟨x0, x1⟩ := n.1.at 0
  refine ⟨b, off, _, c, nth xs 0, rfl, hl, hc 0 hl, x0, x1, ?_⟩
  have := val_mod2 hne
  omega
theorem rshr_K (w : World) (v : Value) (m K : Nat) (hK : K ≤ 1000000) (h : N w v m) (hm : Lt 400 m) : Calls Tryz.prog 58 #[v, .int .i64 K] w (RetN w (m / 2 ^ K)) := by
  by_cases h0 : K = 0
  · subst h0; rw [Nat.pow_zero, Nat.div_one]; exact rshr_same w v m _ h hm (by simp)
  · exact rshr_nat w v m K (by omega) hK h hm

/-- A number's natural, with its sign. -/
def sg (neg : Bool) (m : Nat) : Int := if neg then -(m : Int) else m
theorem sg_abs (neg : Bool) (m : Nat) : (sg neg m).natAbs = m := by cases neg <;> simp [sg]
theorem sg_neg {neg : Bool} {m : Nat} (h : m ≠ 0) : decide (sg neg m < 0) = neg := by cases neg <;> simp [sg] <;> omega
theorem sg_zero (neg : Bool) : sg neg 0 = 0 := by cases neg <;> rfl
/-- m has k factors of two, at the least. -/
structure Even (m k : Nat) : Prop where
  out : ∃ q, m = q * 2 ^ k
theorem Even.zero (m : Nat) : Even m 0 := ⟨m, by simp⟩
theorem Even.div {m k : Nat} (h : Even m k) (hm : m ≠ 0) : m / 2 ^ k ≠ 0 ∧ k < bl m ∧ (m / 2 ^ k) * 2 ^ k = m := by
  obtain ⟨q, rfl⟩ := h.out
  have hp := Nat.two_pow_pos k
  rw [Nat.mul_div_cancel _ hp]
  have hq : q ≠ 0 := by rintro rfl; simp at hm
  exact ⟨hq, bl_gt (Nat.le_mul_of_pos_left _ (by omega)), rfl⟩
theorem Even.succ {m k : Nat} (h : Even m k) (h2 : m / 2 ^ k % 2 = 0) : Even m (k + 1) := by
  obtain ⟨q, rfl⟩ := h.out
  rw [Nat.mul_div_cancel _ (Nat.two_pow_pos k)] at h2
  exact ⟨q / 2, by rw [Nat.pow_succ, Nat.mul_comm (2 ^ k) 2, ← Nat.mul_assoc]; congr 1; omega⟩
theorem Even.form {m k : Nat} {e : Int} {neg : Bool} (h : Even m k) (hm : m ≠ 0) (h1 : m / 2 ^ k % 2 ≠ 0) : Canon (sg neg (m / 2 ^ k)) (e + k) ∧ dy (sg neg m) e = dy (sg neg (m / 2 ^ k)) (e + k) := by
  obtain ⟨_, _, h3⟩ := h.div hm
  constructor
  · refine ⟨.inr ?_⟩
    generalize m / 2 ^ k = q at h1 ⊢
    cases neg
    · show (q : Int) % 2 = 1; omega
    · show -(q : Int) % 2 = 1; omega
  · rw [← dy_up]
    congr 1
    conv => lhs; rw [← h3]
    cases neg <;> simp [sg, Int.neg_mul]

/-- At g lies a result's variable, with nothing in it yet. -/
structure Zd (w : World) (g : Nat) : Prop where
  c0 : w.cell? ⟨g, 0, none⟩ = some (.bool false)
  c1 : w.cell? ⟨g, 1, none⟩ = some (.slice none 0 0)
  c2 : w.cell? ⟨g, 2, none⟩ = some (.int .i64 0)
  c3 : ∀ j, w.cell? ⟨g, j + 3, none⟩ = none
  f : ∀ j, w.frozen? ⟨g, j, none⟩ = false
theorem Zd.new (w : World) (t : TypeId) : Zd (w.alloc (.cells #[.bool false, .slice none 0 0, .int .i64 0] t)) w.heap.size :=
  ⟨by rw [World.cell?_alloc_new]; rfl, by rw [World.cell?_alloc_new]; rfl, by rw [World.cell?_alloc_new]; rfl, fun j => by rw [World.cell?_alloc_new]; simp, fun j => by simp⟩
theorem Zd.ext {w w' : World} {g : Nat} (h : Zd w g) (E : Ext w w') : Zd w' g := by
  have hg : g < w.heap.size := World.block_lt_of_cell? w _ h.c0
  exact ⟨(E.cell hg).trans h.c0, (E.cell hg).trans h.c1, (E.cell hg).trans h.c2, fun j => (E.cell hg).trans (h.c3 j), fun j => (E.frozen hg).trans (h.f j)⟩
theorem Zd.row {w w' : World} {g : Nat} {v : Value} {xs : List Int} (h : Zd w g) (r : Row w v xs) (n : NF xs) (hs : ∀ p : Addr, p.block ≠ g → w'.cell? p = w.cell? p) (hz : w.heap.size ≤ w'.heap.size) : Row w' v xs := by
  obtain ⟨A, c, rfl, h1, h2, h3⟩ := r
  refine ⟨A, c, rfl, h1, h2, fun hl => ?_⟩
  obtain ⟨b, off, rfl, hb, hc⟩ := h3 hl
  have hne : b ≠ g := by
    rintro rfl
    have hk := hc (xs.length - 1) (by omega)
    have htop : nth xs (xs.length - 1) ≠ 0 := by
      rcases n.2 with e | e
      · subst e; simp at hl
      · exact e
    obtain ⟨i, hi⟩ : ∃ i, off + (xs.length - 1) = i := ⟨_, rfl⟩
    rw [hi] at hk
    match i, hk with
    | 0, hk => rw [h.c0] at hk; cases hk
    | 1, hk => rw [h.c1] at hk; cases hk
    | 2, hk => rw [h.c2] at hk; injection hk with hk; injection hk with _ hk; exact htop hk.symm
    | j + 3, hk => rw [h.c3] at hk; cases hk
  exact ⟨b, off, rfl, by omega, fun j hj => by rw [hs _ hne]; exact hc j hj⟩
def set3 (w : World) (g : Nat) (a b c : Value) : World := ((w.setCell ⟨g, 0, none⟩ a).setCell ⟨g, 1, none⟩ b).setCell ⟨g, 2, none⟩ c
theorem set3_other {w : World} {g : Nat} {a b c : Value} {p : Addr} (h : p.block ≠ g) : (set3 w g a b c).cell? p = w.cell? p := by
  unfold set3
  have hne : ∀ i, (⟨g, i, none⟩ : Addr) ≠ p := by rintro i rfl; exact h rfl
  first
  | rw [World.cell?_setCell_other _ _ _ _ (hne 2), World.cell?_setCell_other _ _ _ _ (hne 1), World.cell?_setCell_other _ _ _ _ (hne 0)]
  | rw [World.cell?_setCell_other _ _ _ _ (hne 2).symm, World.cell?_setCell_other _ _ _ _ (hne 1).symm, World.cell?_setCell_other _ _ _ _ (hne 0).symm]
theorem set3_size {w : World} {g : Nat} {a b c : Value} : (set3 w g a b c).heap.size = w.heap.size := by simp [set3]
theorem Zd.nat {w : World} {g : Nat} {v : Value} {m : Nat} (h : Zd w g) (n : N w v m) (a b c : Value) : N (set3 w g a b c) v m := by
  obtain ⟨xs, r, nf, e⟩ := n
  exact ⟨xs, h.row r nf (fun p hp => set3_other hp) (by rw [set3_size]; omega), nf, e⟩
theorem Zd.read {w : World} {g : Nat} (h : Zd w g) (a b c : Value) : (set3 w g a b c).cell? ⟨g, 0, none⟩ = some a ∧ (set3 w g a b c).cell? ⟨g, 1, none⟩ = some b ∧ (set3 w g a b c).cell? ⟨g, 2, none⟩ = some c := by
  unfold set3
  have k0 := World.cell?_setCell_same w ⟨g, 0, none⟩ a h.c0
  have k1 : (w.setCell ⟨g, 0, none⟩ a).cell? ⟨g, 1, none⟩ = some (.slice none 0 0) := by rw [World.cell?_setCell_other _ _ _ _ (by simp)]; exact h.c1
  have k2 : ((w.setCell ⟨g, 0, none⟩ a).setCell ⟨g, 1, none⟩ b).cell? ⟨g, 2, none⟩ = some (.int .i64 0) := by
    rw [World.cell?_setCell_other _ _ _ _ (by simp), World.cell?_setCell_other _ _ _ _ (by simp)]; exact h.c2
  refine ⟨?_, ?_, World.cell?_setCell_same _ _ _ k2⟩
  · rw [World.cell?_setCell_other _ _ _ _ (by simp), World.cell?_setCell_other _ _ _ _ (by simp)]; exact k0
  · rw [World.cell?_setCell_other _ _ _ _ (by simp)]; exact World.cell?_setCell_same _ _ _ k1
theorem Ext.set3 {a w : World} {g : Nat} {x y z : Value} (h : Ext a w) (hg : a.heap.size ≤ g) : Ext a (set3 w g x y z) := ((h.setCell hg _).setCell hg _).setCell hg _

set_option maxHeartbeats 1000000 in
theorem rmake_any (w : World) (neg : Bool) (v : Value) (m : Nat) (e : Int) (h : N w v m) (hm : Lt 400 m) (he : -1000000 ≤ e ∧ e ≤ 1000000) : Calls Tryz.prog 39 #[.bool neg, v, .int .i64 e] w (RetD w (dy (sg neg m) e)) := by
  by_cases h0 : m = 0
  · subst h0
    rw [sg_zero, dy_zero]
    obtain ⟨A, c, rfl, _⟩ := h.form
    go_enter Tryz.func39, Tryz.ntmps39
    go_wp2
    refine bodyPost_ret (v := .agg #[.bool false, .slice none 0 0, .int .i64 0]) (by simp [results, Tryz.results39, go_sem]) rfl ?_
    exact ⟨_, rfl, Dn.zero _, (Ext.refl w).alloc _⟩
  · obtain ⟨A, c, xs, rfl, hx0⟩ : ∃ A c xs, v = .slice A (List.length (α := Int) xs) c ∧ 0 < xs.length := by
      obtain ⟨xs, ⟨A, c, rfl, _⟩, n, e⟩ := id h
      refine ⟨A, c, xs, rfl, List.length_pos_iff.2 ?_⟩
      intro e0; subst e0; simp [val] at e; omega
    have hx1 : ((xs.length : Int) == 0) = false := beq_eq_false_iff_ne.2 (by omega)
    go_enter Tryz.func39, Tryz.ntmps39
    go_wp2
    go_loopw [7] (fun kv wr => ∃ k : Nat, kv = .int .i64 k ∧ Even m k ∧ Ext (w.alloc (Obj.cells #[Value.bool false, Value.slice none 0 0, Value.int IntKind.i64 0] 26)) wr) (fun kv _ => bl m - (intOf kv).toNat)
    case atStart => exact ⟨0, rfl, Even.zero m, Ext.refl _⟩
    case round =>
      obtain ⟨k, rfl, hk, hE⟩ := hrel
      obtain ⟨hq0, hkb, hq1⟩ := hk.div h0
      have hbl : bl m ≤ 9600 := hm.bits
      have hN := h.ext (((Ext.refl w).alloc _).trans hE)
      have HE := Lib.hid hE
      have HQ := Lib.hid hq1
      clear hE hq1
      by_cases hpar : m / 2 ^ k % 2 = 0
      · have HP := Lib.hid hpar
        clear hpar
        go_wp2_with (go_at_call 58; refine (rshr_K _ _ m k (by omega) hN hm).mono ?_; rintro e w1 ⟨v1, rfl, n1, e1⟩; obtain ⟨b, off, len, c1, x, rfl, hl, hc, x0, x1, x2⟩ := n1.low hq0; rw [HP.out] at x2)
        go_roundw
        case rel => exact ⟨k + 1, by go_num, hk.succ HP.out, HE.out.trans e1⟩
        case measure => simp [intOf]; omega
      · have HP := Lib.hid (show m / 2 ^ k % 2 = 1 by omega)
        have HF := Lib.hid (hk.form (e := e) (neg := neg) h0 hpar)
        clear hpar
        go_wp2_with (go_at_call 58; refine (rshr_K _ _ m k (by omega) hN hm).mono ?_; rintro e w1 ⟨v1, rfl, n1, e1⟩; obtain ⟨b, off, len, c1, x, rfl, hl, hc, x0, x1, x2⟩ := n1.low hq0; rw [HP.out] at x2)
        have hN1 := hN.ext e1
        go_wp2_with (go_at_call 58; refine (rshr_K _ _ m k (by omega) hN1 hm).mono ?_; rintro e w2 ⟨v2, rfl, n2, e2⟩; obtain ⟨b2, off2, len2, c2, x', rfl, _, _, _, _, _⟩ := n2.low hq0; have E2 := (HE.out.trans e1).trans e2; have Z2 := (Zd.new w _).ext E2; have g0 := Z2.c0; have g1 := Z2.c1; have g2 := Z2.c2; have f0 := Z2.f 0; have f1 := Z2.f 1; have f2 := Z2.f 2)
        obtain ⟨k0, k1, k2⟩ := Z2.read (.bool neg) (Value.slice (some { block := b2, off := off2 }) len2 c2) (.int .i64 (e + k))
        have hn3 := Z2.nat n2 (.bool neg) (Value.slice (some { block := b2, off := off2 }) len2 c2) (.int .i64 (e + k))
        have hE3 : Ext w _ := (((Ext.refl w).alloc _).trans E2).set3 (x := .bool neg) (y := Value.slice (some { block := b2, off := off2 }) len2 c2) (z := .int .i64 (e + k)) (Nat.le_refl _)
        unfold set3 at k0 k1 k2 hn3 hE3
        refine bodyPost_ret (v := .agg #[.bool neg, Value.slice (some { block := b2, off := off2 }) len2 c2, .int .i64 (e + k)]) (by simp [results, Tryz.results39, go_sem, k0, k1, k2]) rfl ?_
        refine ⟨_, rfl, ⟨_, sg neg (m / 2 ^ k), e + k, by rw [sg_neg hq0], by rw [sg_abs]; exact hn3, HF.out.1, HF.out.2⟩, hE3⟩

end Go.Proofs.YtomdbmjfehoodaaGreatDoor

/- Walks of the document's answers on dyadic numbers: Sign, Flip, Shift, Of, Same. -/
namespace Go.Proofs.YtomdbmjfehoodaaGreatDoor
open Go.RowKit

/-- How x and y stand. -/
def cmpD (x y : Dyadic) : Int := if x < y then -1 else if x = y then 0 else 1
theorem cmpD_dy (x y e : Int) : cmpD (dy x e) (dy y e) = cmpI x y := by
  unfold cmpD cmpI
  by_cases h : x < y
  · rw [if_pos (dy_lt.2 h), if_pos h]
  · rw [if_neg (fun k => h (dy_lt.1 k)), if_neg h]
    by_cases h2 : x = y
    · rw [if_pos (by rw [h2]), if_pos h2]
    · rw [if_neg (fun k => h2 (dy_inj k)), if_neg h2]
theorem cmpD_zero (z e : Int) : cmpD (dy z e) 0 = cmpI z 0 := by
  rw [← dy_zero e]; exact cmpD_dy z 0 e
theorem Dn.parts {w : World} {v : Value} {d : Dyadic} (h : Dn w v d) : ∃ (A : Option Addr) (l c : Nat) (z e : Int), v = .agg #[.bool (decide (z < 0)), .slice A l c, .int .i64 e] ∧ N w (.slice A l c) z.natAbs ∧ Canon z e ∧ d = dy z e ∧ (l = 0 ↔ z = 0) ∧ l ≤ maxLen := by
  obtain ⟨M, z, e, rfl, ⟨xs, hr, n, ev⟩, c, rfl⟩ := h
  obtain ⟨A, cc, rfl, h1, h2, h3⟩ := id hr
  refine ⟨A, xs.length, cc, z, e, rfl, ⟨xs, hr, n, ev⟩, c, rfl, ?_, by omega⟩
  rw [List.length_eq_zero_iff]
  clear hr h3
  constructor
  · rintro rfl; simp [val] at ev; omega
  · rintro rfl
    rcases n.2 with e0 | e0
    · exact e0
    · by_cases hx : xs = []
      · exact hx
      · exfalso
        have := n.pos hx
        have := bp_pos (xs.length - 1)
        simp at ev; omega
theorem Canon.neg {z e : Int} (h : Canon z e) : Canon (-z) e := ⟨h.out.elim (fun k => .inl ⟨by omega, k.2⟩) (fun k => .inr (by omega))⟩
theorem natAbs_neg (z : Int) : (-z).natAbs = z.natAbs := by omega

theorem rsign_any (w : World) (v : Value) (d : Dyadic) (h : Dn w v d) : Calls Tryz.prog 61 #[v] w (RetE w (.int .i64 (cmpD d 0))) := by
  obtain ⟨A, l, c, z, e, rfl, hN, hc, rfl, hl, _⟩ := h.parts
  rw [cmpD_zero]
  rcases Int.lt_trichotomy z 0 with h0 | h0 | h0
  · rw [cmpI_lt h0, decide_eq_true h0]
    have hl0 : ((l : Int) == 0) = false := beq_eq_false_iff_ne.2 (by omega)
    go_enter Tryz.func61, Tryz.ntmps61
    go_wp2
    go_ret
    exact ⟨rfl, (Ext.refl w).alloc _⟩
  · subst h0
    obtain rfl : l = 0 := hl.2 rfl
    go_enter Tryz.func61, Tryz.ntmps61
    go_wp2
    go_ret
    exact ⟨rfl, (Ext.refl w).alloc _⟩
  · rw [cmpI_gt h0, decide_eq_false (by omega)]
    have hl0 : ((l : Int) == 0) = false := beq_eq_false_iff_ne.2 (by omega)
    go_enter Tryz.func61, Tryz.ntmps61
    go_wp2
    go_ret
    exact ⟨rfl, (Ext.refl w).alloc _⟩

theorem rflip_any (w : World) (v : Value) (d : Dyadic) (h : Dn w v d) : Calls Tryz.prog 24 #[v] w (RetD w (-d)) := by
  obtain ⟨A, l, c, z, e, rfl, hN, hc, rfl, hl, _⟩ := h.parts
  rw [dy_neg]
  rcases Int.lt_trichotomy z 0 with h0 | h0 | h0
  · rw [decide_eq_true h0]
    have hl0 : (0 : Int) < (l : Int) := by omega
    have hl1 : 0 < l := by omega
    go_enter Tryz.func24, Tryz.ntmps24
    go_wp2
    refine bodyPost_ret (v := .agg #[.bool false, .slice A l c, .int .i64 e]) (by simp [results, Tryz.results24, go_sem]) rfl ?_
    exact ⟨_, rfl, ⟨_, -z, e, by rw [decide_eq_false (by omega)], by rw [natAbs_neg]; exact hN.ext (((Ext.refl w).alloc _).alloc _), hc.neg, by first | rfl | (rw [h0]; rfl)⟩, ((Ext.refl w).alloc _).alloc _⟩
  · obtain rfl : l = 0 := hl.2 h0
    rw [decide_eq_false (show ¬ z < 0 by omega)] -- subst
    go_enter Tryz.func24, Tryz.ntmps24
    go_wp2
    refine bodyPost_ret (v := .agg #[.bool false, .slice A 0 c, .int .i64 e]) (by simp [results, Tryz.results24, go_sem]) rfl ?_
    exact ⟨_, rfl, ⟨_, -z, e, by rw [decide_eq_false (by omega)], by rw [natAbs_neg]; exact hN.ext (((Ext.refl w).alloc _).alloc _), hc.neg, by first | rfl | (rw [h0]; rfl)⟩, ((Ext.refl w).alloc _).alloc _⟩
  · rw [decide_eq_false (show ¬ z < 0 by omega)]
    have hl0 : (0 : Int) < (l : Int) := by omega
    have hl1 : 0 < l := by omega
    go_enter Tryz.func24, Tryz.ntmps24
    go_wp2
    refine bodyPost_ret (v := .agg #[.bool true, .slice A l c, .int .i64 e]) (by simp [results, Tryz.results24, go_sem]) rfl ?_
    exact ⟨_, rfl, ⟨_, -z, e, by rw [decide_eq_true (by omega)], by rw [natAbs_neg]; exact hN.ext (((Ext.refl w).alloc _).alloc _), hc.neg, by first | rfl | (rw [h0]; rfl)⟩, ((Ext.refl w).alloc _).alloc _⟩

theorem sg_of (z : Int) : sg (decide (z < 0)) z.natAbs = z := by
  by_cases h : z < 0
  · rw [decide_eq_true h]; simp [sg]; omega
  · rw [decide_eq_false h]; simp [sg]; omega
/-- A struct that came back is laid into the result's variable. -/
theorem Zd.done {w w2 : World} {g : Nat} {x y z : Value} {d : Dyadic} (h : Zd w2 g) (n : Dn w2 (.agg #[x, y, z]) d) (E : Ext w w2) (hg : w.heap.size ≤ g) :
    let W := ((w2.setCell ⟨g, 0, none⟩ x).setCell ⟨g, 1, none⟩ y).setCell ⟨g, 2, none⟩ z
    W.cell? ⟨g, 0, none⟩ = some x ∧ W.cell? ⟨g, 1, none⟩ = some y ∧ W.cell? ⟨g, 2, none⟩ = some z ∧ RetD w d (.returned (.agg #[x, y, z])) W := by
  obtain ⟨k0, k1, k2⟩ := h.read x y z
  refine ⟨k0, k1, k2, _, rfl, ?_, E.set3 hg⟩
  obtain ⟨A, l, c, zz, e, hv, hN, hc, rfl, _⟩ := n.parts
  injection hv with hv
  simp only [Array.mk.injEq, List.cons.injEq, and_true] at hv
  obtain ⟨rfl, rfl, rfl⟩ := hv
  exact ⟨_, zz, e, rfl, h.nat hN _ _ _, hc, rfl⟩
theorem Zd.at {w w' : World} {t : TypeId} {g : Nat} (E : Ext (w.alloc (.cells #[.bool false, .slice none 0 0, .int .i64 0] t)) w') (hg : w.heap.size = g) : Zd w' g := by
  subst hg; exact (Zd.new w t).ext E
theorem Dn.form {w : World} {v : Value} {d : Dyadic} (h : Dn w v d) : ∃ (b : Bool) (A : Option Addr) (l c : Nat) (e : Int), v = .agg #[.bool b, .slice A l c, .int .i64 e] := by
  obtain ⟨A, l, c, z, e, rfl, _⟩ := h.parts
  exact ⟨_, A, l, c, e, rfl⟩

theorem rshift_any (w : World) (v : Value) (z e k : Int) (h : Dn w v (dy z e)) (hc : Canon z e) (hm : Lt 400 z.natAbs) (he : -400000 ≤ e ∧ e ≤ 400000) (hk : -400000 ≤ k ∧ k ≤ 400000) : Calls Tryz.prog 130 #[v, .int .i64 k] w (RetD w (dy z (e + k))) := by
  obtain ⟨A, l, c, z', e', rfl, hN, hc', hd, hl, _⟩ := h.parts
  obtain ⟨rfl, rfl⟩ := hc.uniq hc' hd
  have HM := Lib.hid (fun (w' : World) (hE : Ext w w') => rmake_any w' (decide (z < 0)) _ z.natAbs (e + k) (hN.ext hE) hm (by omega))
  rw [sg_of] at HM
  obtain ⟨nb, hnb⟩ : ∃ nb, nb = decide (z < 0) := ⟨_, rfl⟩
  rw [← hnb] at HM ⊢
  clear hnb
  go_enter Tryz.func130, Tryz.ntmps130
  go_wp2_with (go_at_call 39; refine (HM.out _ (((Ext.refl w).alloc _).alloc _)).mono ?_; rintro e w2 ⟨v2, rfl, n2, e2⟩; obtain ⟨b2, A2, l2, c2, ee2, rfl⟩ := n2.form; have Z2 : Zd w2 (w.heap.size + 1) := Zd.at e2 (by simp); have g0 := Z2.c0; have g1 := Z2.c1; have g2 := Z2.c2; have f0 := Z2.f 0; have f1 := Z2.f 1; have f2 := Z2.f 2)
  obtain ⟨k0, k1, k2, hD⟩ := Z2.done n2 ((((Ext.refl w).alloc _).alloc _).trans e2) (by omega)
  exact bodyPost_ret (by simp [results, Tryz.results130, go_sem, k0, k1, k2]) rfl hD

end Go.Proofs.YtomdbmjfehoodaaGreatDoor

/- Walks of the document's answers on dyadic numbers: Same, Of. -/
namespace Go.Proofs.YtomdbmjfehoodaaGreatDoor
open Go.RowKit

theorem rsameD_any (w : World) (va vb : Value) (x y : Dyadic) (ha : Dn w va x) (hb : Dn w vb y) : Calls Tryz.prog 18 #[va, vb] w (RetE w (.bool (decide (x = y)))) := by
  obtain ⟨A, l, c, z, e, rfl, hN, hc, rfl, _⟩ := ha.parts
  obtain ⟨A', l', c', z', e', rfl, hN', hc', rfl, _⟩ := hb.parts
  clear ha hb
  obtain ⟨n1, hn1⟩ : ∃ n1, n1 = decide (z < 0) := ⟨_, rfl⟩
  obtain ⟨n2, hn2⟩ : ∃ n2, n2 = decide (z' < 0) := ⟨_, rfl⟩
  rw [← hn1, ← hn2]
  by_cases h1 : n1 = n2
  · by_cases h2 : e = e'
    · have hz : decide (dy z e = dy z' e') = decide (z.natAbs = z'.natAbs) := by
        apply decide_eq_decide.2
        constructor
        · intro h; rw [(hc.uniq hc' h).1]
        · intro h
          have : z < 0 ↔ z' < 0 := by rw [hn1, hn2] at h1; simpa using h1
          have : z = z' := by omega
          rw [this, h2]
      rw [hz]
      have HS := Lib.hid (fun (w' : World) (hE : Ext w w') => same_nat w' _ _ z.natAbs z'.natAbs (hN.ext hE) (hN'.ext hE))
      subst h1 h2
      clear hz hn1 hn2 hc hc' hN hN'
      go_enter Tryz.func18, Tryz.ntmps18
      go_wp2_with (go_at_call 53; refine (HS.out _ (((Ext.refl w).alloc _).alloc _)).mono ?_; rintro e w2 ⟨rfl, q2⟩)
      go_ret
      exact ⟨rfl, (((Ext.refl w).alloc _).alloc _).trans q2.ext⟩
    · have hz : decide (dy z e = dy z' e') = false := decide_eq_false (fun h => h2 (hc.uniq hc' h).2)
      rw [hz]
      have h3 : (e == e') = false := beq_eq_false_iff_ne.2 h2
      subst h1
      clear hz hn1 hn2 hc hc' hN hN'
      go_enter Tryz.func18, Tryz.ntmps18
      go_wp2
      go_ret
      exact ⟨rfl, ((Ext.refl w).alloc _).alloc _⟩
  · have hz : decide (dy z e = dy z' e') = false := decide_eq_false (fun h => h1 (by rw [hn1, hn2, (hc.uniq hc' h).1]))
    rw [hz]
    have h3 : (n1 == n2) = false := beq_eq_false_iff_ne.2 h1
    clear hz hn1 hn2 hc hc' hN hN'
    go_enter Tryz.func18, Tryz.ntmps18
    go_wp2
    go_ret
    exact ⟨rfl, ((Ext.refl w).alloc _).alloc _⟩
theorem rsameD_eq (w : World) (va vb : Value) (x : Dyadic) (ha : Dn w va x) (hb : Dn w vb x) : Calls Tryz.prog 18 #[va, vb] w (RetE w (.bool true)) := by
  have h := rsameD_any w va vb x x ha hb
  rw [decide_eq_true rfl] at h
  exact h

theorem rofD_any (w : World) (n : Int) (hn : -4611686018427387904 ≤ n ∧ n ≤ 4611686018427387904) : Calls Tryz.prog 22 #[.int .i64 n] w (RetD w (dy n 0)) := by
  have hlt : ∀ k : Int, k ≤ 4611686018427387904 → Lt 400 k.toNat := fun k hk => Lt.of_bits (Nat.le_trans (bl_of_lt (n := 63) (by omega)) (by omega))
  by_cases h0 : n < 0
  · have HM := Lib.hid (fun (w' : World) (v : Value) (hN : N w' v (-n).toNat) => rmake_any w' true v (-n).toNat 0 hN (hlt _ (by omega)) (by omega))
    rw [show sg true (-n).toNat = n by simp [sg]; omega] at HM
    go_enter Tryz.func22, Tryz.ntmps22
    go_wp2_with (go_at_call 60; refine (rof_any _ _ (by omega)).mono ?_; rintro e w1 ⟨v1, rfl, n1, e1⟩)
    go_wp2_with (go_at_call 39; refine (HM.out _ _ n1).mono ?_; rintro e w2 ⟨v2, rfl, n2, e2⟩; obtain ⟨b2, A2, l2, c2, ee2, rfl⟩ := n2.form; have Z2 : Zd w2 w.heap.size := Zd.at (e1.trans e2) rfl; have g0 := Z2.c0; have g1 := Z2.c1; have g2 := Z2.c2; have f0 := Z2.f 0; have f1 := Z2.f 1; have f2 := Z2.f 2)
    obtain ⟨k0, k1, k2, hD⟩ := Z2.done n2 (((Ext.refl w).alloc _).trans (e1.trans e2)) (by omega)
    exact bodyPost_ret (by simp [results, Tryz.results22, go_sem, k0, k1, k2]) rfl hD
  · have HM := Lib.hid (fun (w' : World) (v : Value) (hN : N w' v n.toNat) => rmake_any w' false v n.toNat 0 hN (hlt _ (by omega)) (by omega))
    rw [show sg false n.toNat = n by simp [sg]; omega] at HM
    go_enter Tryz.func22, Tryz.ntmps22
    go_wp2_with (go_at_call 60; refine (rof_any _ _ (by omega)).mono ?_; rintro e w1 ⟨v1, rfl, n1, e1⟩)
    go_wp2_with (go_at_call 39; refine (HM.out _ _ n1).mono ?_; rintro e w2 ⟨v2, rfl, n2, e2⟩; obtain ⟨b2, A2, l2, c2, ee2, rfl⟩ := n2.form; have Z2 : Zd w2 w.heap.size := Zd.at (e1.trans e2) rfl; have g0 := Z2.c0; have g1 := Z2.c1; have g2 := Z2.c2; have f0 := Z2.f 0; have f1 := Z2.f 1; have f2 := Z2.f 2)
    obtain ⟨k0, k1, k2, hD⟩ := Z2.done n2 (((Ext.refl w).alloc _).trans (e1.trans e2)) (by omega)
    exact bodyPost_ret (by simp [results, Tryz.results22, go_sem, k0, k1, k2]) rfl hD

end Go.Proofs.YtomdbmjfehoodaaGreatDoor

/- Walks of the document's answers on dyadic numbers: Mul. -/
namespace Go.Proofs.YtomdbmjfehoodaaGreatDoor
open Go.RowKit

/-- At g lie x, y, z. -/
structure Box (w : World) (g : Nat) (x y z : Value) : Prop where
  c0 : w.cell? ⟨g, 0, none⟩ = some x
  c1 : w.cell? ⟨g, 1, none⟩ = some y
  c2 : w.cell? ⟨g, 2, none⟩ = some z
theorem Box.ext {w w' : World} {g : Nat} {x y z : Value} (h : Box w g x y z) (E : Ext w w') : Box w' g x y z := by
  have hg : g < w.heap.size := World.block_lt_of_cell? w _ h.c0
  exact ⟨(E.cell hg).trans h.c0, (E.cell hg).trans h.c1, (E.cell hg).trans h.c2⟩
theorem Box.new (w : World) (x y z : Value) (t : TypeId) : Box (w.alloc (.cells #[x, y, z] t)) w.heap.size x y z :=
  ⟨by rw [World.cell?_alloc_new]; rfl, by rw [World.cell?_alloc_new]; rfl, by rw [World.cell?_alloc_new]; rfl⟩
theorem Box.at {w w' : World} {x y z : Value} {t : TypeId} {g : Nat} (E : Ext (w.alloc (.cells #[x, y, z] t)) w') (hg : w.heap.size = g) : Box w' g x y z := by
  subst hg; exact (Box.new w x y z t).ext E
theorem Box.set3 {w : World} {g g' : Nat} {x y z a b c : Value} (h : Box w g x y z) (hg : g ≠ g') : Box (set3 w g' a b c) g x y z :=
  ⟨(set3_other hg).trans h.c0, (set3_other hg).trans h.c1, (set3_other hg).trans h.c2⟩
theorem six {w : World} {g g' : Nat} {x y z x' y' z' : Value} (h : Box w g x y z) (k : Box w g' x' y' z') : w.cell? ⟨g, 0, none⟩ = some x ∧ w.cell? ⟨g, 1, none⟩ = some y ∧ w.cell? ⟨g, 2, none⟩ = some z ∧ w.cell? ⟨g', 0, none⟩ = some x' ∧ w.cell? ⟨g', 1, none⟩ = some y' ∧ w.cell? ⟨g', 2, none⟩ = some z' := ⟨h.c0, h.c1, h.c2, k.c0, k.c1, k.c2⟩
theorem six_set {w : World} {g g' i : Nat} {x y z x' y' z' a b c : Value} (h : Box w g x y z) (k : Box w g' x' y' z') (n : g ≠ i) (n' : g' ≠ i) :
    (((w.setCell ⟨i, 0, none⟩ a).setCell ⟨i, 1, none⟩ b).setCell ⟨i, 2, none⟩ c).cell? ⟨g, 0, none⟩ = some x ∧ (((w.setCell ⟨i, 0, none⟩ a).setCell ⟨i, 1, none⟩ b).setCell ⟨i, 2, none⟩ c).cell? ⟨g, 1, none⟩ = some y ∧ (((w.setCell ⟨i, 0, none⟩ a).setCell ⟨i, 1, none⟩ b).setCell ⟨i, 2, none⟩ c).cell? ⟨g, 2, none⟩ = some z ∧ (((w.setCell ⟨i, 0, none⟩ a).setCell ⟨i, 1, none⟩ b).setCell ⟨i, 2, none⟩ c).cell? ⟨g', 0, none⟩ = some x' ∧ (((w.setCell ⟨i, 0, none⟩ a).setCell ⟨i, 1, none⟩ b).setCell ⟨i, 2, none⟩ c).cell? ⟨g', 1, none⟩ = some y' ∧ (((w.setCell ⟨i, 0, none⟩ a).setCell ⟨i, 1, none⟩ b).setCell ⟨i, 2, none⟩ c).cell? ⟨g', 2, none⟩ = some z' :=
  six (h.set3 n) (k.set3 n')
theorem Rg.lt {P Q : Nat} {z e : Int} (h : Rg P Q (dy z e)) (c : Canon z e) (hb : P + Q ≤ 4800) : Lt 200 z.natAbs := by
  have := (h.canon c).2.2
  exact Lt.of_bits (Nat.le_trans (bl_of_lt this) (by omega))
theorem sg_mul (x y e : Int) : dy (sg (decide (x < 0) != decide (y < 0)) (x.natAbs * y.natAbs)) e = dy (x * y) e := by
  congr 1
  have h : (x * y).natAbs = x.natAbs * y.natAbs := Int.natAbs_mul x y
  rcases Int.lt_trichotomy x 0 with hx | hx | hx
  · rcases Int.lt_trichotomy y 0 with hy | hy | hy
    · have := Int.mul_pos_of_neg_of_neg hx hy
      rw [decide_eq_true hx, decide_eq_true hy]; simp only [bne_self_eq_false, sg]; simp; omega
    · subst hy; simp [sg]
    · have := Int.mul_neg_of_neg_of_pos hx hy
      rw [decide_eq_true hx, decide_eq_false (by omega)]; simp only [sg]; simp; omega
  · subst hx; simp [sg]
  · rcases Int.lt_trichotomy y 0 with hy | hy | hy
    · have := Int.mul_neg_of_pos_of_neg hx hy
      rw [decide_eq_false (by omega), decide_eq_true hy]; simp only [sg]; simp; omega
    · subst hy; simp [sg]
    · have := Int.mul_pos hx hy
      rw [decide_eq_false (by omega), decide_eq_false (by omega)]; simp only [bne_self_eq_false, sg]; simp; omega

set_option maxHeartbeats 1000000 in
theorem rmulD_any (w : World) (va vb : Value) (x y : Dyadic) (P Q P' Q' : Nat) (ha : Dn w va x) (hb : Dn w vb y) (hx : Rg P Q x) (hy : Rg P' Q' y) (h1 : P + Q ≤ 4800) (h2 : P' + Q' ≤ 4800) : Calls Tryz.prog 27 #[va, vb] w (RetD w (x * y)) := by
  obtain ⟨A, l, c, z, e, rfl, hN, hc, rfl, _⟩ := ha.parts
  obtain ⟨A', l', c', z', e', rfl, hN', hc', rfl, _⟩ := hb.parts
  clear ha hb
  have lz := hx.lt hc h1
  have lz' := hy.lt hc' h2
  obtain ⟨b1, b2, b3⟩ := hx.canon hc
  obtain ⟨b1', b2', b3'⟩ := hy.canon hc'
  have HM := Lib.hid (fun (w' : World) (v : Value) (hv : N w' v (z.natAbs * z'.natAbs)) => rmake_any w' (decide (z < 0) != decide (z' < 0)) v (z.natAbs * z'.natAbs) (e + e') hv ((lz.mul lz').mono (by omega)) (by omega))
  rw [sg_mul, ← dy_mul] at HM
  obtain ⟨n1, hn1⟩ : ∃ n1, n1 = decide (z < 0) := ⟨_, rfl⟩
  obtain ⟨n2, hn2⟩ : ∃ n2, n2 = decide (z' < 0) := ⟨_, rfl⟩
  rw [← hn1, ← hn2] at HM ⊢
  have he : -10000 ≤ e ∧ e ≤ 10000 := by omega
  have he' : -10000 ≤ e' ∧ e' ≤ 10000 := by omega
  clear hn1 hn2 hc hc' b3 b3'
  go_enter Tryz.func27, Tryz.ntmps27
  go_wp2
  generalize hW0 : (((w.alloc (.cells #[.bool n1, .slice A l c, .int .i64 e] 26)).alloc (.cells #[.bool n2, .slice A' l' c', .int .i64 e'] 26)).alloc (.cells #[.bool false, .slice none 0 0, .int .i64 0] 26)) = W0
  have B1 : Box W0 w.heap.size (.bool n1) (.slice A l c) (.int .i64 e) := by rw [← hW0]; exact Box.at (((Ext.refl _).alloc _).alloc _) rfl
  have B2 : Box W0 (w.heap.size + 1) (.bool n2) (.slice A' l' c') (.int .i64 e') := by rw [← hW0]; exact Box.at ((Ext.refl _).alloc _) (by simp)
  have Z0 : Zd W0 (w.heap.size + 1 + 1) := by rw [← hW0]; exact Zd.at (Ext.refl _) (by simp)
  have E0 : Ext w W0 := by rw [← hW0]; exact (((Ext.refl w).alloc _).alloc _).alloc _
  obtain ⟨p0, p1, p2⟩ := id B1
  obtain ⟨q0, q1, q2⟩ := id B2
  have M1 := hN.ext E0
  have M2 := hN'.ext E0
  clear hW0 hN hN'
  have hne1 : w.heap.size ≠ w.heap.size + 1 + 1 := by omega
  have hne2 : w.heap.size + 1 ≠ w.heap.size + 1 + 1 := by omega
  have hw1 : IntKind.i64.wrap (e + e') = e + e' := IntWalk.i64_in _ (by omega)
  go_region_held3 (fun w' => w'.cell? ⟨w.heap.size, 0, none⟩ = some (.bool n1) ∧ w'.cell? ⟨w.heap.size, 1, none⟩ = some (.slice A l c) ∧ w'.cell? ⟨w.heap.size, 2, none⟩ = some (.int .i64 e) ∧ w'.cell? ⟨w.heap.size + 1, 0, none⟩ = some (.bool n2) ∧ w'.cell? ⟨w.heap.size + 1, 1, none⟩ = some (.slice A' l' c') ∧ w'.cell? ⟨w.heap.size + 1, 2, none⟩ = some (.int .i64 e'))
    (first | (with_reducible exact six_set (B1.ext F2) (B2.ext F2) hne1 hne2) | (with_reducible exact six (B1.ext F2) (B2.ext F2)) | (with_reducible exact six (B1.ext F1) (B2.ext F1)) | go_keep)
    (first | ((go_at_call 65); (refine (rmul_any _ _ _ z.natAbs z'.natAbs (M1.ext (Ext.refl W0).drew) (M2.ext (Ext.refl W0).drew) (lz.mono (by omega)) (lz'.mono (by omega))).mono ?_); (rintro _ w1 ⟨v1, rfl, m1, e1⟩); (have F1 : Ext W0 w1 := (Ext.refl W0).drew.trans e1)) | ((go_at_call 39); (refine (HM.out _ _ m1).mono ?_); (rintro _ w2 ⟨v2, rfl, m2, e2⟩); (obtain ⟨bb, A2, l2, c2, ee2, rfl⟩ := m2.form); (have F2 : Ext W0 w2 := F1.trans e2); (have Z2 := Z0.ext F2); (have g0 := Z2.c0); (have g1 := Z2.c1); (have g2 := Z2.c2); (have f0 := Z2.f 0); (have f1 := Z2.f 1); (have f2 := Z2.f 2)))
  go_wp2
  obtain ⟨k0, k1, k2, hD⟩ := Z2.done m2 (E0.trans F2) (by omega)
  exact bodyPost_ret (by simp [results, Tryz.results27, go_sem, k0, k1, k2]) rfl hD

end Go.Proofs.YtomdbmjfehoodaaGreatDoor

/- Walks of the document's answers on dyadic numbers: Add. -/
namespace Go.Proofs.YtomdbmjfehoodaaGreatDoor
open Go.RowKit

theorem rshl_K (w : World) (v : Value) (m : Nat) (k : Int) (K : Nat) (hk : k = (K : Int)) (hK : K ≤ 20000) (h : N w v m) (hm : Lt 400 m) (hm0 : m ≠ 0) : Calls Tryz.prog 62 #[v, .int .i64 k] w (RetN w (m * 2 ^ K)) := by
  subst hk
  by_cases h0 : K = 0
  · subst h0; rw [Nat.pow_zero, Nat.mul_one]; exact rshl_same w v m _ h hm (.inl (by simp))
  · exact rshl_nat w v m K (by omega) hK h hm hm0
theorem sg_pow (n : Bool) (m K : Nat) : sg n m * 2 ^ K = sg n (m * 2 ^ K) := by
  cases n
  · show (m : Int) * 2 ^ K = ((m * 2 ^ K : Nat) : Int); push_cast; rfl
  · show -(m : Int) * 2 ^ K = -((m * 2 ^ K : Nat) : Int); push_cast; rw [Int.neg_mul]
theorem sg_add (n : Bool) (a b : Nat) : sg n a + sg n b = sg n (a + b) := by cases n <;> simp [sg] <;> omega
theorem sg_sub {n n' : Bool} {a b : Nat} (hn : n ≠ n') (h : b ≤ a) : sg n a + sg n' b = sg n (a - b) := by
  cases n <;> cases n' <;> simp [sg] at hn ⊢ <;> omega
theorem sg_sub' {n n' : Bool} {a b : Nat} (hn : n ≠ n') (h : a ≤ b) : sg n a + sg n' b = sg n' (b - a) := by
  cases n <;> cases n' <;> simp [sg] at hn ⊢ <;> omega
theorem Lt.shl {P Q p K : Nat} (h : p < 2 ^ (P + Q)) (hK : K ≤ P + Q) (hb : P + Q ≤ 2400) : Lt 200 (p * 2 ^ K) := by
  refine Lt.of_bits (Nat.le_trans (bl_of_lt (n := (P + Q) + (P + Q)) ?_) (by omega))
  rw [Nat.pow_add]
  have h1 : 2 ^ K ≤ 2 ^ (P + Q) := Nat.pow_le_pow_right (by omega) hK
  have h2 := Nat.two_pow_pos K
  exact Nat.lt_of_lt_of_le (Nat.mul_lt_mul_of_pos_right h h2) (Nat.mul_le_mul_left _ h1)
theorem Rg.shl {P Q K : Nat} {z e mn : Int} (h : Rg P Q (dy z e)) (hmn : -(P : Int) ≤ mn) (hK : e - mn = (K : Int)) (hb : P + Q ≤ 7200) : Lt 300 (z.natAbs * 2 ^ K) := by
  obtain ⟨X, hX, h1, h2⟩ := h.out
  obtain ⟨j, hj⟩ : ∃ j : Nat, mn = -(P : Int) + (j : Int) := ⟨(mn + P).toNat, by omega⟩
  have he : e = -(P : Int) + ((j + K : Nat) : Int) := by omega
  rw [he, ← dy_up] at hX
  have hz := dy_inj hX
  have hn : z.natAbs * 2 ^ (j + K) < 2 ^ (P + Q) := by
    have hx : X.natAbs < 2 ^ (P + Q) := by
      have : (X.natAbs : Int) < ((2 ^ (P + Q) : Nat) : Int) := by rw [Int.natCast_pow]; show (X.natAbs : Int) < 2 ^ (P + Q); omega
      exact_mod_cast this
    rw [← hz, Int.natAbs_mul, Int.natAbs_pow] at hx
    exact hx
  have hle : z.natAbs * 2 ^ K ≤ z.natAbs * 2 ^ (j + K) := Nat.mul_le_mul_left _ (Nat.pow_le_pow_right (by omega) (by omega))
  exact Lt.of_bits (Nat.le_trans (bl_of_lt (Nat.lt_of_le_of_lt hle hn)) (by omega))

set_option maxHeartbeats 1000000 in
/-- Two numbers of one power of two, summed: the walk behind both tests. -/
theorem raddD_main (w : World) (A A' : Option Addr) (l c l' c' K K' p q : Nat) (e e' mn : Int) (n1 n2 : Bool) (hl0 : ((l : Int) == 0) = false) (hl0' : ((l' : Int) == 0) = false) (hN : N w (.slice A l c) p) (hN' : N w (.slice A' l' c') q) (hpz : p ≠ 0) (hpz' : q ≠ 0)
    (lz : Lt 300 p) (lz' : Lt 300 q) (la : Lt 300 (p * 2 ^ K)) (lb : Lt 300 (q * 2 ^ K')) (hbe : -10000 ≤ e ∧ e ≤ 10000) (hbe' : -10000 ≤ e' ∧ e' ≤ 10000) (HK : K ≤ 20000) (HK2 : K' ≤ 20000) (hK : e - mn = (K : Int)) (hK' : e' - mn = (K' : Int)) (hcase : (e' < e ∧ e' = mn) ∨ (e ≤ e' ∧ e = mn)) (d : Dyadic) (hd : d = dy (sg n1 (p * 2 ^ K) + sg n2 (q * 2 ^ K')) mn) :
    Calls Tryz.prog 26 #[.agg #[.bool n1, .slice A l c, .int .i64 e], .agg #[.bool n2, .slice A' l' c', .int .i64 e']] w (RetD w d) := by
  have HKK := Lib.hid hK
  have HKK' := Lib.hid hK'
  have hsh1 : ∀ (w' : World) (v : Value) (k : Int), k = (K : Int) → N w' v p → Calls Tryz.prog 62 #[v, .int .i64 k] w' (RetN w' (p * 2 ^ K)) := fun w' v k hk h => rshl_K w' v p k K hk HK h (lz.mono (by omega)) hpz
  have hsh2 : ∀ (w' : World) (v : Value) (k : Int), k = (K' : Int) → N w' v q → Calls Tryz.prog 62 #[v, .int .i64 k] w' (RetN w' (q * 2 ^ K')) := fun w' v k hk h => rshl_K w' v q k K' hk HK2 h (lz'.mono (by omega)) hpz'
  have hne1 : w.heap.size ≠ w.heap.size + 1 + 1 := by omega
  generalize p * 2 ^ K = a at *
  generalize q * 2 ^ K' = b at *
  have HD := Lib.hid hd
  clear hK hK' hd lz lz' HK HK2 hpz hpz'
  rcases hcase with ⟨hlt, rfl⟩ | ⟨hlt, rfl⟩
  · go_enter Tryz.func26, Tryz.ntmps26
    go_wp2_with fail
    refine (hsh1 _ _ _ (by have := HKK.out; omega) (hN.ext ((((Ext.refl w).alloc _).alloc _).alloc _))).mono ?_
    rintro _ w1 ⟨v1, rfl, m1, e1⟩
    have B2 : Box w1 (w.heap.size + 1) (.bool n2) (.slice A' l' c') (.int .i64 e') := Box.at (((Ext.refl _).alloc _).trans e1) (by simp)
    have q1 := B2.c1
    have q2 := B2.c2
    have F1 := ((((Ext.refl w).alloc _).alloc _).alloc _).trans e1
    go_wp2_with fail
    refine (hsh2 _ _ _ (by have := HKK'.out; omega) (hN'.ext F1)).mono ?_
    rintro _ w2 ⟨v2, rfl, m2, e2⟩
    have B1 : Box w2 w.heap.size (.bool n1) (.slice A l c) (.int .i64 e) := Box.at ((((Ext.refl _).alloc _).alloc _).trans (e1.trans e2)) rfl
    replace B2 := B2.ext e2
    replace m1 := m1.ext e2
    have p0 := B1.c0
    have q0 := B2.c0
    have Z2 : Zd w2 (w.heap.size + 1 + 1) := Zd.at (e1.trans e2) (by simp)
    have E2 : Ext w w2 := F1.trans e2
    clear q1 q2 F1 e1 e2 hN hN' hsh1 hsh2
    by_cases hn : n1 = n2
    · subst hn
      have HM := Lib.hid (fun (w' : World) (v : Value) (hv : N w' v (a + b)) => rmake_any w' n1 v (a + b) e' hv (((la.add lb)).mono (by omega)) (by omega))
      rw [← sg_add, ← HD.out] at HM
      go_wp2
      go_region_held3 (fun w' => w'.cell? ⟨w.heap.size, 0, none⟩ = some (.bool n1)) (first | (exact ((B1.ext F4).set3 hne1).c0) | (exact (B1.ext F4).c0) | (exact (B1.ext F3).c0) | go_keep) (first | ((go_at_call 59); (refine (radd_any _ _ _ a b (m1.ext (Ext.refl w2).drew) (m2.ext (Ext.refl w2).drew) (la.mono (by omega)) (lb.mono (by omega))).mono ?_); (rintro _ w3 ⟨v3, rfl, m3, e3⟩); (have F3 : Ext w2 w3 := (Ext.refl w2).drew.trans e3)) | ((go_at_call 39); (refine (HM.out _ _ m3).mono ?_); (rintro _ w4 ⟨v4, rfl, m4, e4⟩); (obtain ⟨bb, A2, l2, c2, ee2, rfl⟩ := m4.form); (have F4 : Ext w2 w4 := F3.trans e4); (have Z4 := Z2.ext F4); (have g0 := Z4.c0); (have g1 := Z4.c1); (have g2 := Z4.c2); (have f0 := Z4.f 0); (have f1 := Z4.f 1); (have f2 := Z4.f 2)))
      go_wp2
      obtain ⟨k0, k1, k2, hD⟩ := Z4.done m4 (E2.trans F4) (by omega)
      exact bodyPost_ret (by simp [results, Tryz.results26, go_sem, k0, k1, k2]) rfl hD
    · have hnb : (n1 == n2) = false := beq_eq_false_iff_ne.2 hn
      obtain ⟨t, ht⟩ : ∃ t, cmpI (a : Int) (b : Int) = t := ⟨_, rfl⟩
      have hcmp := rcmp_nat w2 _ _ a b m1 m2
      rw [ht] at hcmp
      have HC := Lib.hid hcmp
      clear hcmp
      by_cases hle : b ≤ a
      · have ht0 : 0 ≤ t := by rw [← ht]; unfold cmpI; split <;> (try split) <;> omega
        have HM := Lib.hid (fun (w' : World) (v : Value) (hv : N w' v (a - b)) => rmake_any w' n1 v (a - b) e' hv ((la.of_le (Nat.sub_le a b)).mono (by omega)) (by omega))
        rw [← sg_sub hn hle, ← HD.out] at HM
        clear ht
        go_wp2_with fail
        refine HC.out.mono ?_
        rintro _ w3 ⟨rfl, q3⟩
        go_wp2_with fail
        refine (rsub_yes w3 v1 v2 a b (m1.ext q3.ext) (m2.ext q3.ext) (la.mono (by omega)) hle).mono ?_
        rintro _ w4 ⟨v4, rfl, m4, e4⟩
        have F4 := q3.ext.trans e4
        have p4 := (B1.ext F4).c0
        go_wp2_with fail
        refine (HM.out w4 v4 m4).mono ?_
        rintro _ w5 ⟨v5, rfl, m5, e5⟩
        obtain ⟨bb, A2, l2, c2, ee2, rfl⟩ := m5.form
        have F5 := F4.trans e5
        have Z5 := Z2.ext F5
        have g0 := Z5.c0
        have g1 := Z5.c1
        have g2 := Z5.c2
        have f0 := Z5.f 0
        have f1 := Z5.f 1
        have f2 := Z5.f 2
        go_wp2
        obtain ⟨k0, k1, k2, hD⟩ := Z5.done m5 (E2.trans F5) (by omega)
        exact bodyPost_ret (by simp [results, Tryz.results26, go_sem, k0, k1, k2]) rfl hD
      · have ht0 : t < 0 := by rw [← ht]; unfold cmpI; split <;> (try split) <;> omega
        have HM := Lib.hid (fun (w' : World) (v : Value) (hv : N w' v (b - a)) => rmake_any w' n2 v (b - a) e' hv ((lb.of_le (Nat.sub_le b a)).mono (by omega)) (by omega))
        rw [← sg_sub' hn (by omega), ← HD.out] at HM
        clear ht
        go_wp2_with fail
        refine HC.out.mono ?_
        rintro _ w3 ⟨rfl, q3⟩
        go_wp2_with fail
        refine (rsub_yes w3 v2 v1 b a (m2.ext q3.ext) (m1.ext q3.ext) (lb.mono (by omega)) (by omega)).mono ?_
        rintro _ w4 ⟨v4, rfl, m4, e4⟩
        have F4 := q3.ext.trans e4
        have p4 := (B2.ext F4).c0
        go_wp2_with fail
        refine (HM.out w4 v4 m4).mono ?_
        rintro _ w5 ⟨v5, rfl, m5, e5⟩
        obtain ⟨bb, A2, l2, c2, ee2, rfl⟩ := m5.form
        have F5 := F4.trans e5
        have Z5 := Z2.ext F5
        have g0 := Z5.c0
        have g1 := Z5.c1
        have g2 := Z5.c2
        have f0 := Z5.f 0
        have f1 := Z5.f 1
        have f2 := Z5.f 2
        go_wp2
        obtain ⟨k0, k1, k2, hD⟩ := Z5.done m5 (E2.trans F5) (by omega)
        exact bodyPost_ret (by simp [results, Tryz.results26, go_sem, k0, k1, k2]) rfl hD
  · go_enter Tryz.func26, Tryz.ntmps26
    go_wp2_with fail
    refine (hsh1 _ _ _ (by have := HKK.out; omega) (hN.ext ((((Ext.refl w).alloc _).alloc _).alloc _))).mono ?_
    rintro _ w1 ⟨v1, rfl, m1, e1⟩
    have B2 : Box w1 (w.heap.size + 1) (.bool n2) (.slice A' l' c') (.int .i64 e') := Box.at (((Ext.refl _).alloc _).trans e1) (by simp)
    have q1 := B2.c1
    have q2 := B2.c2
    have F1 := ((((Ext.refl w).alloc _).alloc _).alloc _).trans e1
    go_wp2_with fail
    refine (hsh2 _ _ _ (by have := HKK'.out; omega) (hN'.ext F1)).mono ?_
    rintro _ w2 ⟨v2, rfl, m2, e2⟩
    have B1 : Box w2 w.heap.size (.bool n1) (.slice A l c) (.int .i64 e) := Box.at ((((Ext.refl _).alloc _).alloc _).trans (e1.trans e2)) rfl
    replace B2 := B2.ext e2
    replace m1 := m1.ext e2
    have p0 := B1.c0
    have q0 := B2.c0
    have Z2 : Zd w2 (w.heap.size + 1 + 1) := Zd.at (e1.trans e2) (by simp)
    have E2 : Ext w w2 := F1.trans e2
    clear q1 q2 F1 e1 e2 hN hN' hsh1 hsh2
    by_cases hn : n1 = n2
    · subst hn
      have HM := Lib.hid (fun (w' : World) (v : Value) (hv : N w' v (a + b)) => rmake_any w' n1 v (a + b) e hv (((la.add lb)).mono (by omega)) (by omega))
      rw [← sg_add, ← HD.out] at HM
      go_wp2
      go_region_held3 (fun w' => w'.cell? ⟨w.heap.size, 0, none⟩ = some (.bool n1)) (first | (exact ((B1.ext F4).set3 hne1).c0) | (exact (B1.ext F4).c0) | (exact (B1.ext F3).c0) | go_keep) (first | ((go_at_call 59); (refine (radd_any _ _ _ a b (m1.ext (Ext.refl w2).drew) (m2.ext (Ext.refl w2).drew) (la.mono (by omega)) (lb.mono (by omega))).mono ?_); (rintro _ w3 ⟨v3, rfl, m3, e3⟩); (have F3 : Ext w2 w3 := (Ext.refl w2).drew.trans e3)) | ((go_at_call 39); (refine (HM.out _ _ m3).mono ?_); (rintro _ w4 ⟨v4, rfl, m4, e4⟩); (obtain ⟨bb, A2, l2, c2, ee2, rfl⟩ := m4.form); (have F4 : Ext w2 w4 := F3.trans e4); (have Z4 := Z2.ext F4); (have g0 := Z4.c0); (have g1 := Z4.c1); (have g2 := Z4.c2); (have f0 := Z4.f 0); (have f1 := Z4.f 1); (have f2 := Z4.f 2)))
      go_wp2
      obtain ⟨k0, k1, k2, hD⟩ := Z4.done m4 (E2.trans F4) (by omega)
      exact bodyPost_ret (by simp [results, Tryz.results26, go_sem, k0, k1, k2]) rfl hD
    · have hnb : (n1 == n2) = false := beq_eq_false_iff_ne.2 hn
      obtain ⟨t, ht⟩ : ∃ t, cmpI (a : Int) (b : Int) = t := ⟨_, rfl⟩
      have hcmp := rcmp_nat w2 _ _ a b m1 m2
      rw [ht] at hcmp
      have HC := Lib.hid hcmp
      clear hcmp
      by_cases hle : b ≤ a
      · have ht0 : 0 ≤ t := by rw [← ht]; unfold cmpI; split <;> (try split) <;> omega
        have HM := Lib.hid (fun (w' : World) (v : Value) (hv : N w' v (a - b)) => rmake_any w' n1 v (a - b) e hv ((la.of_le (Nat.sub_le a b)).mono (by omega)) (by omega))
        rw [← sg_sub hn hle, ← HD.out] at HM
        clear ht
        go_wp2_with fail
        refine HC.out.mono ?_
        rintro _ w3 ⟨rfl, q3⟩
        go_wp2_with fail
        refine (rsub_yes w3 v1 v2 a b (m1.ext q3.ext) (m2.ext q3.ext) (la.mono (by omega)) hle).mono ?_
        rintro _ w4 ⟨v4, rfl, m4, e4⟩
        have F4 := q3.ext.trans e4
        have p4 := (B1.ext F4).c0
        go_wp2_with fail
        refine (HM.out w4 v4 m4).mono ?_
        rintro _ w5 ⟨v5, rfl, m5, e5⟩
        obtain ⟨bb, A2, l2, c2, ee2, rfl⟩ := m5.form
        have F5 := F4.trans e5
        have Z5 := Z2.ext F5
        have g0 := Z5.c0
        have g1 := Z5.c1
        have g2 := Z5.c2
        have f0 := Z5.f 0
        have f1 := Z5.f 1
        have f2 := Z5.f 2
        go_wp2
        obtain ⟨k0, k1, k2, hD⟩ := Z5.done m5 (E2.trans F5) (by omega)
        exact bodyPost_ret (by simp [results, Tryz.results26, go_sem, k0, k1, k2]) rfl hD
      · have ht0 : t < 0 := by rw [← ht]; unfold cmpI; split <;> (try split) <;> omega
        have HM := Lib.hid (fun (w' : World) (v : Value) (hv : N w' v (b - a)) => rmake_any w' n2 v (b - a) e hv ((lb.of_le (Nat.sub_le b a)).mono (by omega)) (by omega))
        rw [← sg_sub' hn (by omega), ← HD.out] at HM
        clear ht
        go_wp2_with fail
        refine HC.out.mono ?_
        rintro _ w3 ⟨rfl, q3⟩
        go_wp2_with fail
        refine (rsub_yes w3 v2 v1 b a (m2.ext q3.ext) (m1.ext q3.ext) (lb.mono (by omega)) (by omega)).mono ?_
        rintro _ w4 ⟨v4, rfl, m4, e4⟩
        have F4 := q3.ext.trans e4
        have p4 := (B2.ext F4).c0
        go_wp2_with fail
        refine (HM.out w4 v4 m4).mono ?_
        rintro _ w5 ⟨v5, rfl, m5, e5⟩
        obtain ⟨bb, A2, l2, c2, ee2, rfl⟩ := m5.form
        have F5 := F4.trans e5
        have Z5 := Z2.ext F5
        have g0 := Z5.c0
        have g1 := Z5.c1
        have g2 := Z5.c2
        have f0 := Z5.f 0
        have f1 := Z5.f 1
        have f2 := Z5.f 2
        go_wp2
        obtain ⟨k0, k1, k2, hD⟩ := Z5.done m5 (E2.trans F5) (by omega)
        exact bodyPost_ret (by simp [results, Tryz.results26, go_sem, k0, k1, k2]) rfl hD

set_option maxHeartbeats 1000000 in
theorem raddD_any (w : World) (va vb : Value) (x y : Dyadic) (P Q : Nat) (ha : Dn w va x) (hb : Dn w vb y) (hx : Rg P Q x) (hy : Rg P Q y) (h1 : P + Q ≤ 7200) : Calls Tryz.prog 26 #[va, vb] w (RetD w (x + y)) := by
  obtain ⟨A, l, c, z, e, rfl, hN, hc, rfl, hl, _⟩ := ha.parts
  obtain ⟨A', l', c', z', e', rfl, hN', hc', rfl, hl', _⟩ := hb.parts
  by_cases hz : z = 0
  · obtain rfl : l = 0 := hl.2 hz
    have hD := hb.ext ((((Ext.refl w).alloc (.cells #[.bool (decide (z < 0)), .slice A 0 c, .int .i64 e] 26)).alloc (.cells #[.bool (decide (z' < 0)), .slice A' l' c', .int .i64 e'] 26)).alloc (.cells #[.bool (decide (z' < 0)), .slice A' l' c', .int .i64 e'] 26))
    have hs : dy z e + dy z' e' = dy z' e' := by rw [hz, dy_zero]; exact Dyadic.zero_add _
    rw [hs]
    generalize decide (z < 0) = n1 at *
    generalize decide (z' < 0) = n2 at *
    clear ha hb hN hN' hc hc' hl hl' hs hz
    go_enter Tryz.func26, Tryz.ntmps26
    go_wp2
    exact bodyPost_ret (by simp [results, Tryz.results26, go_sem]) rfl ⟨_, rfl, hD, (((Ext.refl w).alloc _).alloc _).alloc _⟩
  by_cases hz' : z' = 0
  · obtain rfl : l' = 0 := hl'.2 hz'
    have hl0 : ((l : Int) == 0) = false := beq_eq_false_iff_ne.2 (by omega)
    have hD := ha.ext ((((Ext.refl w).alloc (.cells #[.bool (decide (z < 0)), .slice A l c, .int .i64 e] 26)).alloc (.cells #[.bool (decide (z' < 0)), .slice A' 0 c', .int .i64 e'] 26)).alloc (.cells #[.bool (decide (z < 0)), .slice A l c, .int .i64 e] 26))
    have hs : dy z e + dy z' e' = dy z e := by rw [hz', dy_zero]; exact Dyadic.add_zero _
    rw [hs]
    generalize decide (z < 0) = n1 at *
    generalize decide (z' < 0) = n2 at *
    clear ha hb hN hN' hc hc' hl hl' hs hz
    go_enter Tryz.func26, Tryz.ntmps26
    go_wp2
    exact bodyPost_ret (by simp [results, Tryz.results26, go_sem]) rfl ⟨_, rfl, hD, (((Ext.refl w).alloc _).alloc _).alloc _⟩
  have hl0 : ((l : Int) == 0) = false := beq_eq_false_iff_ne.2 (by omega)
  have hl0' : ((l' : Int) == 0) = false := beq_eq_false_iff_ne.2 (by omega)
  obtain ⟨b1, b2, b3⟩ := hx.canon hc
  obtain ⟨b1', b2', b3'⟩ := hy.canon hc'
  obtain ⟨mn, hmn⟩ : ∃ mn, mn = min e e' := ⟨_, rfl⟩
  obtain ⟨K, hK⟩ : ∃ K : Nat, e - mn = (K : Int) := Int.eq_ofNat_of_zero_le (by omega)
  obtain ⟨K', hK'⟩ : ∃ K' : Nat, e' - mn = (K' : Int) := Int.eq_ofNat_of_zero_le (by omega)
  have hpz : z.natAbs ≠ 0 := by omega
  have hpz' : z'.natAbs ≠ 0 := by omega
  have ez : dy z e = dy (sg (decide (z < 0)) (z.natAbs * 2 ^ K)) mn := by
    rw [← sg_pow, sg_of, dy_up]; congr 1; omega
  have ez' : dy z' e' = dy (sg (decide (z' < 0)) (z'.natAbs * 2 ^ K')) mn := by
    rw [← sg_pow, sg_of, dy_up]; congr 1; omega
  have lz := hx.shl (K := 0) (mn := e) (by omega) (by omega) h1
  have lz' := hy.shl (K := 0) (mn := e') (by omega) (by omega) h1
  have la := hx.shl (K := K) (mn := mn) (by omega) hK h1
  have lb := hy.shl (K := K') (mn := mn) (by omega) hK' h1
  rw [Nat.pow_zero, Nat.mul_one] at lz lz'
  rw [ez, ez', dy_add]
  generalize decide (z < 0) = n1 at *
  generalize decide (z' < 0) = n2 at *
  have hbm : -10000 ≤ mn ∧ mn ≤ 10000 := by omega
  have hbe : -10000 ≤ e ∧ e ≤ 10000 := by omega
  have hbe' : -10000 ≤ e' ∧ e' ≤ 10000 := by omega
  have HK : K ≤ 20000 := by omega
  have HK2 : K' ≤ 20000 := by omega
  generalize z.natAbs = p at *
  generalize z'.natAbs = q at *
  exact raddD_main w A A' l c l' c' K K' p q e e' mn n1 n2 hl0 hl0' hN hN' hpz hpz' lz lz' la lb hbe hbe' HK HK2 hK hK' (by omega) _ rfl

end Go.Proofs.YtomdbmjfehoodaaGreatDoor

/- Walks of the document's answers on dyadic numbers: Cmp, Cut. -/
namespace Go.Proofs.YtomdbmjfehoodaaGreatDoor
open Go.RowKit

theorem cmpD_sub (x y : Dyadic) : cmpD (x + -y) 0 = cmpD x y := by
  have h1 : x + -y < 0 ↔ x < y := by constructor <;> intro h <;> grind
  have h2 : x + -y = 0 ↔ x = y := by constructor <;> intro h <;> grind
  unfold cmpD
  simp only [h1, h2]

set_option maxHeartbeats 1000000 in
theorem rcmpD_any (w : World) (va vb : Value) (x y : Dyadic) (P Q : Nat) (ha : Dn w va x) (hb : Dn w vb y) (hx : Rg P Q x) (hy : Rg P Q y) (h1 : P + Q ≤ 7200) : Calls Tryz.prog 23 #[va, vb] w (RetE w (.int .i64 (cmpD x y))) := by
  have hs := cmpD_sub x y
  obtain ⟨n1, A, l, c, e, rfl⟩ := ha.form
  obtain ⟨n2, A', l', c', e', rfl⟩ := hb.form
  obtain ⟨t, ht⟩ : ∃ t, cmpD x y = t := ⟨_, rfl⟩
  rw [ht] at hs ⊢
  have HS := Lib.hid (fun (w' : World) (v : Value) (h : Dn w' v (x + -y)) => hs ▸ rsign_any w' v _ h)
  have HA := Lib.hid (fun (w' : World) (v u : Value) (h : Dn w' v x) (k : Dn w' u (-y)) => raddD_any w' v u x (-y) P Q h k hx hy.neg h1)
  clear hs ht
  go_enter Tryz.func23, Tryz.ntmps23
  go_wp2
  generalize hW0 : ((w.alloc (.cells #[.bool n1, .slice A l c, .int .i64 e] 26)).alloc (.cells #[.bool n2, .slice A' l' c', .int .i64 e'] 26)) = W0
  have B1 : Box W0 w.heap.size (.bool n1) (.slice A l c) (.int .i64 e) := by rw [← hW0]; exact Box.at ((Ext.refl _).alloc _) rfl
  have B2 : Box W0 (w.heap.size + 1) (.bool n2) (.slice A' l' c') (.int .i64 e') := by rw [← hW0]; exact Box.at (Ext.refl _) (by simp)
  have E0 : Ext w W0 := by rw [← hW0]; exact ((Ext.refl w).alloc _).alloc _
  obtain ⟨p0, p1, p2⟩ := id B1
  obtain ⟨q0, q1, q2⟩ := id B2
  replace ha := ha.ext E0
  replace hb := hb.ext E0
  clear hW0
  go_region_held3 (fun w' => w'.cell? ⟨w.heap.size, 0, none⟩ = some (.bool n1) ∧ w'.cell? ⟨w.heap.size, 1, none⟩ = some (.slice A l c) ∧ w'.cell? ⟨w.heap.size, 2, none⟩ = some (.int .i64 e) ∧ w'.cell? ⟨w.heap.size + 1, 0, none⟩ = some (.bool n2) ∧ w'.cell? ⟨w.heap.size + 1, 1, none⟩ = some (.slice A' l' c') ∧ w'.cell? ⟨w.heap.size + 1, 2, none⟩ = some (.int .i64 e'))
    (first | (exact six (B1.ext F3) (B2.ext F3)) | (exact six (B1.ext F2) (B2.ext F2)) | (exact six (B1.ext F1) (B2.ext F1)) | go_keep)
    (first | ((go_at_call 24); (refine (rflip_any _ _ y (hb.ext (Ext.refl W0).drew)).mono ?_); (rintro _ w1 ⟨v1, rfl, m1, e1⟩); (have F1 : Ext W0 w1 := (Ext.refl W0).drew.trans e1)) | ((go_at_call 26); (refine (HA.out _ _ _ (ha.ext F1) m1).mono ?_); (rintro _ w2 ⟨v2, rfl, m2, e2⟩); (have F2 : Ext W0 w2 := F1.trans e2)) | ((go_at_call 61); (refine (HS.out _ _ m2).mono ?_); (rintro _ w3 ⟨rfl, e3⟩); (have F3 : Ext W0 w3 := F2.trans e3)))
  go_wp2
  go_ret
  exact ⟨rfl, E0.trans F3⟩

/-- z times two to the e, cut to n bits. -/
def cutD (z e : Int) (n : Nat) (up : Bool) : Dyadic :=
  if bl z.natAbs ≤ n then dy z e
  else dy (sg (decide (z < 0)) (z.natAbs / 2 ^ (bl z.natAbs - n) + if up = decide (z < 0) then 0 else 1)) (e + (bl z.natAbs - n : Nat))

set_option maxHeartbeats 1000000 in
theorem rcut_main (w : World) (A : Option Addr) (l c p n k : Nat) (e : Int) (nb up : Bool) (hN : N w (.slice A l c) p) (lp : Lt 200 p) (he : -100000 ≤ e ∧ e ≤ 100000) (hk : bl p = n + k) (hk0 : 0 < k) :
    Calls Tryz.prog 138 #[.agg #[.bool nb, .slice A l c, .int .i64 e], .int .i64 n, .bool up] w (RetD w (dy (sg nb (p / 2 ^ k + if up = nb then 0 else 1)) (e + k))) := by
  have hbl := lp.bits
  have lq : Lt 200 (p / 2 ^ k) := lp.of_le (Nat.div_le_self _ _)
  have hshr : ∀ (w' : World) (v : Value) (j : Int), j = (k : Int) → N w' v p → Calls Tryz.prog 58 #[v, .int .i64 j] w' (RetN w' (p / 2 ^ k)) := fun w' v j hj h => by
    subst hj; exact rshr_K w' v p k (by omega) h (lp.mono (by omega))
  by_cases hu : up = nb
  · rw [if_pos hu]
    subst hu
    have HM : Hid (∀ (w' : World) (v : Value) (j : Int), j = e + k → N w' v (p / 2 ^ k + 0) → Calls Tryz.prog 39 #[.bool up, v, .int .i64 j] w' (RetD w' (dy (sg up (p / 2 ^ k + 0)) (e + k)))) := Lib.hid (fun w' v j hj h => by subst hj; exact rmake_any w' up v (p / 2 ^ k + 0) _ h ((lq).mono (by omega)) (by omega))
    go_enter Tryz.func138, Tryz.ntmps138
    go_wp2_with fail
    refine (rlen_any _ _ p (hN.ext (((Ext.refl w).alloc _).alloc _)) (lp.mono (by omega))).mono ?_
    rintro _ _ ⟨rfl, rfl⟩
    go_wp2_with fail
    refine (hshr _ _ _ (by omega) (hN.ext (((Ext.refl w).alloc _).alloc _))).mono ?_
    rintro _ w1 ⟨v1, rfl, m1, e1⟩
    have B1 : Box w1 w.heap.size (.bool up) (.slice A l c) (.int .i64 e) := Box.at (((Ext.refl _).alloc _).trans e1) rfl
    have Z1 : Zd w1 (w.heap.size + 1) := Zd.at e1 (by simp)
    have E1 : Ext w w1 := (((Ext.refl w).alloc _).alloc _).trans e1
    obtain ⟨p0, p1, p2⟩ := id B1
    obtain ⟨w2, hw2⟩ : ∃ w2, w2 = w1 := ⟨_, rfl⟩
    have F2 : Ext w1 w2 := by rw [hw2]; exact Ext.refl _
    have m2 : N w2 v1 (p / 2 ^ k + 0) := by rw [hw2]; exact m1
    subst hw2
    go_wp2_with fail
    refine (HM.out _ _ _ (by omega) m2).mono ?_
    rintro _ w3 ⟨v3, rfl, m3, e3⟩
    obtain ⟨bb, A2, l2, c2, ee2, rfl⟩ := m3.form
    have Z3 := Z1.ext (F2.trans e3)
    have g0 := Z3.c0
    have g1 := Z3.c1
    have g2 := Z3.c2
    have f0 := Z3.f 0
    have f1 := Z3.f 1
    have f2 := Z3.f 2
    go_wp2
    obtain ⟨k0, k1, k2, hD⟩ := Z3.done m3 (E1.trans (F2.trans e3)) (by omega)
    exact bodyPost_ret (by simp [results, Tryz.results138, go_sem, k0, k1, k2]) rfl hD
  · rw [if_neg hu]
    have hud : (up == nb) = false := beq_eq_false_iff_ne.2 hu
    have HM : Hid (∀ (w' : World) (v : Value) (j : Int), j = e + k → N w' v (p / 2 ^ k + 1) → Calls Tryz.prog 39 #[.bool nb, v, .int .i64 j] w' (RetD w' (dy (sg nb (p / 2 ^ k + 1)) (e + k)))) := Lib.hid (fun w' v j hj h => by subst hj; exact rmake_any w' nb v (p / 2 ^ k + 1) _ h ((lq.add (Lt.of_bits (by decide) : Lt 200 1)).mono (by omega)) (by omega))
    go_enter Tryz.func138, Tryz.ntmps138
    go_wp2_with fail
    refine (rlen_any _ _ p (hN.ext (((Ext.refl w).alloc _).alloc _)) (lp.mono (by omega))).mono ?_
    rintro _ _ ⟨rfl, rfl⟩
    go_wp2_with fail
    refine (hshr _ _ _ (by omega) (hN.ext (((Ext.refl w).alloc _).alloc _))).mono ?_
    rintro _ w1 ⟨v1, rfl, m1, e1⟩
    have B1 : Box w1 w.heap.size (.bool nb) (.slice A l c) (.int .i64 e) := Box.at (((Ext.refl _).alloc _).trans e1) rfl
    have Z1 : Zd w1 (w.heap.size + 1) := Zd.at e1 (by simp)
    have E1 : Ext w w1 := (((Ext.refl w).alloc _).alloc _).trans e1
    obtain ⟨p0, p1, p2⟩ := id B1
    go_wp2_with fail
    refine (radd_any _ _ _ (p / 2 ^ k) 1 (m1.ext ((Ext.refl w1).alloc _)) (one_nat w1 _) (lq.mono (by omega)) (Lt.of_bits (by decide))).mono ?_
    rintro _ w2 ⟨v2, rfl, m2, e2⟩
    have F2 : Ext w1 w2 := ((Ext.refl w1).alloc _).trans e2
    obtain ⟨p0', p1', p2'⟩ := B1.ext F2
    go_wp2_with fail
    refine (HM.out _ _ _ (by omega) m2).mono ?_
    rintro _ w3 ⟨v3, rfl, m3, e3⟩
    obtain ⟨bb, A2, l2, c2, ee2, rfl⟩ := m3.form
    have Z3 := Z1.ext (F2.trans e3)
    have g0 := Z3.c0
    have g1 := Z3.c1
    have g2 := Z3.c2
    have f0 := Z3.f 0
    have f1 := Z3.f 1
    have f2 := Z3.f 2
    go_wp2
    obtain ⟨k0, k1, k2, hD⟩ := Z3.done m3 (E1.trans (F2.trans e3)) (by omega)
    exact bodyPost_ret (by simp [results, Tryz.results138, go_sem, k0, k1, k2]) rfl hD

theorem rcut_any (w : World) (v : Value) (z e : Int) (n P Q : Nat) (up : Bool) (h : Dn w v (dy z e)) (hc : Canon z e) (hr : Rg P Q (dy z e)) (hb : P + Q ≤ 4800) (hn : n ≤ 100000) : Calls Tryz.prog 138 #[v, .int .i64 n, .bool up] w (RetD w (cutD z e n up)) := by
  have hD := h
  obtain ⟨A, l, c, z', e', rfl, hN, hc', hd, hl, _⟩ := h.parts
  obtain ⟨rfl, rfl⟩ := hc.uniq hc' hd
  have lp := hr.lt hc hb
  obtain ⟨b1, b2, _⟩ := hr.canon hc
  have hbl := lp.bits
  unfold cutD
  by_cases hk : bl z.natAbs ≤ n
  · rw [if_pos hk]
    have hD1 := hD.ext (((Ext.refl w).alloc (.cells #[.bool (decide (z < 0)), .slice A l c, .int .i64 e] 26)).alloc (.cells #[.bool (decide (z < 0)), .slice A l c, .int .i64 e] 26))
    generalize decide (z < 0) = nb at *
    generalize z.natAbs = p at *
    have hle : (bl p : Int) - (n : Int) ≤ 0 := by omega
    go_enter Tryz.func138, Tryz.ntmps138
    go_wp2_with fail
    refine (rlen_any _ _ p (hN.ext (((Ext.refl w).alloc _).alloc _)) (lp.mono (by omega))).mono ?_
    rintro _ _ ⟨rfl, rfl⟩
    go_wp2
    exact bodyPost_ret (by simp [results, Tryz.results138, go_sem]) rfl ⟨_, rfl, hD1, ((Ext.refl w).alloc _).alloc _⟩
  · rw [if_neg hk]
    exact rcut_main w A l c z.natAbs n (bl z.natAbs - n) e _ up hN lp (by omega) (by omega) (by omega)

end Go.Proofs.YtomdbmjfehoodaaGreatDoor

/- Walks of the document's answers on dyadic numbers: Right. -/
namespace Go.Proofs.YtomdbmjfehoodaaGreatDoor
open Go.RowKit

/-- Is a struct of these a right dyadic number? -/
def rightD (nb : Bool) (xs : List Int) (e : Int) : Bool :=
  rightB xs && decide (xs.length ≤ 60) && (if xs.length = 0 then !nb && decide (e = 0) else decide (nth xs 0 % 2 = 1) && decide (-6000 ≤ e) && decide (e ≤ 6000))

set_option maxHeartbeats 1000000 in
theorem rrightD_any (w : World) (nb : Bool) (v : Value) (xs : List Int) (e : Int) (h : Row w v xs) (he : -9223372036854775808 ≤ e ∧ e ≤ 9223372036854775807) :
    Calls Tryz.prog 37 #[.agg #[.bool nb, v, .int .i64 e]] w (RetE w (.bool (rightD nb xs e))) := by
  have hr := rright_any (w.alloc (.cells #[.bool nb, v, .int .i64 e] 26)) v xs (h.ext ((Ext.refl w).alloc _))
  obtain ⟨A, c, rfl, h1, h2, h3⟩ := id h
  cases hb : rightB xs
  · have hD : rightD nb xs e = false := by unfold rightD; rw [hb]; rfl
    rw [hD]
    rw [hb] at hr
    have HR := Lib.hid hr
    clear hr hb hD h h3
    go_enter Tryz.func37, Tryz.ntmps37
    go_wp2_with fail
    refine HR.out.mono ?_
    rintro _ _ ⟨rfl, rfl⟩
    go_wp2
    go_ret
    exact ⟨rfl, (Ext.refl w).alloc _⟩
  · have hlim := (right_iff.1 hb).1.1
    rw [hb] at hr
    have HR := Lib.hid hr
    by_cases h60 : xs.length ≤ 60
    · by_cases h0 : xs.length = 0
      · have hD : rightD nb xs e = (!nb && decide (e = 0)) := by unfold rightD; rw [hb, decide_eq_true h60, if_pos h0]; rfl
        rw [hD]
        rw [h0] at HR ⊢
        clear hr hb hD h h3 hlim
        cases nb
        · by_cases he0 : e = 0
          · subst he0
            rw [decide_eq_true rfl]
            go_enter Tryz.func37, Tryz.ntmps37
            go_wp2_with fail
            refine HR.out.mono ?_
            rintro _ _ ⟨rfl, rfl⟩
            go_wp2
            go_ret
            exact ⟨rfl, (Ext.refl w).alloc _⟩
          · rw [decide_eq_false he0]
            have he1 : (e == 0) = false := beq_eq_false_iff_ne.2 he0
            go_enter Tryz.func37, Tryz.ntmps37
            go_wp2_with fail
            refine HR.out.mono ?_
            rintro _ _ ⟨rfl, rfl⟩
            go_wp2
            go_ret
            exact ⟨rfl, (Ext.refl w).alloc _⟩
        · go_enter Tryz.func37, Tryz.ntmps37
          go_wp2_with fail
          refine HR.out.mono ?_
          rintro _ _ ⟨rfl, rfl⟩
          go_wp2
          go_ret
          exact ⟨rfl, (Ext.refl w).alloc _⟩
      · have hD : rightD nb xs e = (decide (nth xs 0 % 2 = 1) && decide (-6000 ≤ e) && decide (e ≤ 6000)) := by unfold rightD; rw [hb, decide_eq_true h60, if_neg h0]; rfl
        rw [hD]
        obtain ⟨b, off, rfl, hbk, hcells⟩ := h3 (by omega)
        have hc0 : (w.alloc (.cells #[.bool nb, .slice (some ⟨b, off, none⟩) xs.length c, .int .i64 e] 26)).cell? ⟨b, off, none⟩ = some (.int .i64 (nth xs 0)) := by
          rw [((Ext.refl w).alloc _).cell hbk]; exact hcells 0 (by omega)
        obtain ⟨x0, x1⟩ := hlim.at 0
        have hl0 : ((xs.length : Int) == 0) = false := beq_eq_false_iff_ne.2 (by omega)
        have hl1 : (0 : Int) < (xs.length : Int) := by omega
        have hl2 : ¬ ((60 : Int) < (xs.length : Int)) := by omega
        generalize nth xs 0 = x at *
        clear hr hb hD h h3 hlim hcells
        by_cases hp : x % 2 = 1
        · rw [decide_eq_true hp]
          by_cases hq : -6000 ≤ e
          · rw [decide_eq_true hq]
            go_enter Tryz.func37, Tryz.ntmps37
            go_wp2_with fail
            refine HR.out.mono ?_
            rintro _ _ ⟨rfl, rfl⟩
            go_wp2
            go_ret
            exact ⟨rfl, (Ext.refl w).alloc _⟩
          · rw [decide_eq_false hq]
            go_enter Tryz.func37, Tryz.ntmps37
            go_wp2_with fail
            refine HR.out.mono ?_
            rintro _ _ ⟨rfl, rfl⟩
            go_wp2
            go_ret
            exact ⟨rfl, (Ext.refl w).alloc _⟩
        · rw [decide_eq_false hp]
          have hp0 : x % 2 = 0 := by omega
          go_enter Tryz.func37, Tryz.ntmps37
          go_wp2_with fail
          refine HR.out.mono ?_
          rintro _ _ ⟨rfl, rfl⟩
          go_wp2
          go_ret
          exact ⟨rfl, (Ext.refl w).alloc _⟩
    · have hD : rightD nb xs e = false := by unfold rightD; rw [hb, decide_eq_false h60]; rfl
      rw [hD]
      have hl2 : ((60 : Int) < (xs.length : Int)) := by omega
      clear hr hb hD h h3 hlim
      go_enter Tryz.func37, Tryz.ntmps37
      go_wp2_with fail
      refine HR.out.mono ?_
      rintro _ _ ⟨rfl, rfl⟩
      go_wp2
      go_ret
      exact ⟨rfl, (Ext.refl w).alloc _⟩
theorem rightD_form {w : World} {nb : Bool} {v : Value} {xs : List Int} {e : Int} (h : Row w v xs) (hr : rightD nb xs e = true) : ∃ z : Int, Dn w (.agg #[.bool nb, v, .int .i64 e]) (dy z e) ∧ Canon z e ∧ z.natAbs < 2 ^ (24 * xs.length) ∧ -6000 ≤ e ∧ e ≤ 6000 := by
  unfold rightD at hr
  rw [Bool.and_eq_true, Bool.and_eq_true] at hr
  obtain ⟨⟨hb, h60⟩, hr⟩ := hr
  obtain ⟨n, _⟩ := right_iff.1 hb
  obtain ⟨v0, v1⟩ := val_bounds n.1
  obtain ⟨m, hm⟩ := Int.eq_ofNat_of_zero_le v0
  have hN : N w v m := ⟨xs, h, n, hm⟩
  have hm2 : m < 2 ^ (24 * xs.length) := by
    rw [hm, bp_two] at v1; exact_mod_cast v1
  by_cases h0 : xs.length = 0
  · rw [if_pos h0, Bool.and_eq_true, Bool.not_eq_true', decide_eq_true_eq] at hr
    obtain ⟨rfl, rfl⟩ := hr
    obtain rfl : xs = [] := by simpa using h0
    obtain rfl : m = 0 := by simp [val] at hm; omega
    exact ⟨0, ⟨v, 0, 0, rfl, hN, ⟨.inl ⟨rfl, rfl⟩⟩, rfl⟩, ⟨.inl ⟨rfl, rfl⟩⟩, by simp, by omega, by omega⟩
  · rw [if_neg h0, Bool.and_eq_true, Bool.and_eq_true, decide_eq_true_eq, decide_eq_true_eq, decide_eq_true_eq] at hr
    obtain ⟨⟨r1, r2⟩, r3⟩ := hr
    have hne : xs ≠ [] := by intro e0; subst e0; simp at h0
    have hodd := val_mod2 hne
    rw [r1, hm] at hodd
    have hm0 : m ≠ 0 := by omega
    have hc : Canon (sg nb m) e := ⟨.inr (by cases nb <;> simp only [sg] <;> (first | (show (m : Int) % 2 = 1; omega) | (show -(m : Int) % 2 = 1; omega)))⟩
    exact ⟨sg nb m, ⟨v, sg nb m, e, by rw [sg_neg hm0], by rw [sg_abs]; exact hN, hc, rfl⟩, hc, by rw [sg_abs]; exact hm2, r2, r3⟩

end Go.Proofs.YtomdbmjfehoodaaGreatDoor

