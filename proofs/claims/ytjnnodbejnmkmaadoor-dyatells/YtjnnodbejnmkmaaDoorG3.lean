/- What the laws on dyadic numbers lean on. -/
import Derived.Test.YtjnnodbejnmkmaaDoorG2
namespace Go.Proofs.YtjnnodbejnmkmaaDoor
open Go.RowKit

def pk {α : Type} (a b c : α) (j : Nat) : α := if j = 0 then a else if j = 1 then b else c
theorem many1 (w : World) (t : TypeId) (n0 : Bool) (v0 : Value) (x0 : List Int) (e0 : Int) (r0 : Row w v0 x0) (b0 : -9223372036854775808 ≤ e0 ∧ e0 ≤ 9223372036854775807) :
    Many (w.alloc (.cells #[.bool n0, v0, .int .i64 e0] t)) w.heap.size 1 (pk n0 n0 n0) (pk v0 v0 v0) (pk x0 x0 x0) (pk e0 e0 e0) := by
  have E : Ext w (w.alloc (.cells #[.bool n0, v0, .int .i64 e0] t)) := (Ext.refl w).alloc _
  refine ⟨fun j hj => ?_, fun j hj => ?_, fun j hj => ?_, fun j hj => ?_, fun j hj => ?_⟩
  all_goals
    obtain rfl : j = 0 := by omega
    first
    | (rw [World.cell?_alloc_new]; rfl)
    | exact r0.ext E
    | exact b0
theorem many2 (w : World) (t : TypeId) (n0 n1 : Bool) (v0 v1 : Value) (x0 x1 : List Int) (e0 e1 : Int) (r0 : Row w v0 x0) (r1 : Row w v1 x1) (b0 : -9223372036854775808 ≤ e0 ∧ e0 ≤ 9223372036854775807) (b1 : -9223372036854775808 ≤ e1 ∧ e1 ≤ 9223372036854775807) :
    Many (w.alloc (.cells #[.bool n0, v0, .int .i64 e0, .bool n1, v1, .int .i64 e1] t)) w.heap.size 2 (pk n0 n1 n1) (pk v0 v1 v1) (pk x0 x1 x1) (pk e0 e1 e1) := by
  have E : Ext w (w.alloc (.cells #[.bool n0, v0, .int .i64 e0, .bool n1, v1, .int .i64 e1] t)) := (Ext.refl w).alloc _
  refine ⟨fun j hj => ?_, fun j hj => ?_, fun j hj => ?_, fun j hj => ?_, fun j hj => ?_⟩
  all_goals
    obtain rfl | rfl : j = 0 ∨ j = 1 := by omega
    all_goals first
    | (rw [World.cell?_alloc_new]; rfl)
    | exact r0.ext E
    | exact r1.ext E
    | exact b0
    | exact b1
theorem many3 (w : World) (t : TypeId) (n0 n1 n2 : Bool) (v0 v1 v2 : Value) (x0 x1 x2 : List Int) (e0 e1 e2 : Int) (r0 : Row w v0 x0) (r1 : Row w v1 x1) (r2 : Row w v2 x2) (b0 : -9223372036854775808 ≤ e0 ∧ e0 ≤ 9223372036854775807) (b1 : -9223372036854775808 ≤ e1 ∧ e1 ≤ 9223372036854775807) (b2 : -9223372036854775808 ≤ e2 ∧ e2 ≤ 9223372036854775807) :
    Many (w.alloc (.cells #[.bool n0, v0, .int .i64 e0, .bool n1, v1, .int .i64 e1, .bool n2, v2, .int .i64 e2] t)) w.heap.size 3 (pk n0 n1 n2) (pk v0 v1 v2) (pk x0 x1 x2) (pk e0 e1 e2) := by
  have E : Ext w (w.alloc (.cells #[.bool n0, v0, .int .i64 e0, .bool n1, v1, .int .i64 e1, .bool n2, v2, .int .i64 e2] t)) := (Ext.refl w).alloc _
  refine ⟨fun j hj => ?_, fun j hj => ?_, fun j hj => ?_, fun j hj => ?_, fun j hj => ?_⟩
  all_goals
    obtain rfl | rfl | rfl : j = 0 ∨ j = 1 ∨ j = 2 := by omega
    all_goals first
    | (rw [World.cell?_alloc_new]; rfl)
    | exact r0.ext E
    | exact r1.ext E
    | exact r2.ext E
    | exact b0
    | exact b1
    | exact b2
/-- What Good gives of a number. -/
theorem good_num {w : World} {nb : Bool} {v : Value} {xs : List Int} {e : Int} (r : Row w v xs) (hg : goodB nb xs e = true) :
    ∃ z : Int, Dn w (.agg #[.bool nb, v, .int .i64 e]) (dy z e) ∧ Canon z e ∧ z.natAbs < 2 ^ 192 ∧ -200 ≤ e ∧ e ≤ 200 ∧ Rg 200 392 (dy z e) := by
  unfold goodB at hg
  rw [Bool.and_eq_true, Bool.and_eq_true, Bool.and_eq_true, decide_eq_true_eq, decide_eq_true_eq, decide_eq_true_eq] at hg
  obtain ⟨h8, hr, h1, h2⟩ := hg
  obtain ⟨z, hD, hc, hz, _, _⟩ := rightD_form r hr
  have hz2 : z.natAbs < 2 ^ 192 := Nat.lt_of_lt_of_le hz (Nat.pow_le_pow_right (by omega) (by omega))
  refine ⟨z, hD, hc, hz2, h2, h1, ⟨z * 2 ^ (e + 200).toNat, dy_down z e 200 (by omega), ?_⟩⟩
  have hp := pow2_pos (e + 200).toNat
  have hm := pow2_mono (show (e + 200).toNat ≤ 400 by omega)
  have hb : -(2 : Int) ^ 192 < z ∧ z < 2 ^ 192 := by
    have e1 : ((2 : Int) ^ 192).natAbs = 2 ^ 192 := by rw [Int.natAbs_pow]; rfl
    have := pow2_pos 192
    omega
  have := mul_bound hp hb.1 hb.2
  have h3 : (2 : Int) ^ 192 * 2 ^ (e + 200).toNat ≤ 2 ^ 192 * 2 ^ 400 := Int.mul_le_mul_of_nonneg_left hm (by have := pow2_pos 192; omega)
  rw [← Int.pow_add] at h3
  have h4 : (2 : Int) ^ (192 + 400) = 2 ^ (200 + 392) := rfl
  omega
theorem pk_all {α β γ : Type} {f : α → β → γ → Bool} {a b c : α} {a' b' c' : β} {a'' b'' c'' : γ} {k : Nat} (h : ∀ j, j < k → f (pk a b c j) (pk a' b' c' j) (pk a'' b'' c'' j) = true) :
    (0 < k → f a a' a'' = true) ∧ (1 < k → f b b' b'' = true) ∧ (2 < k → f c c' c'' = true) :=
  ⟨fun hk => h 0 hk, fun hk => h 1 hk, fun hk => h 2 hk⟩

theorem dy_one : dy 1 0 = 1 := by decide +kernel
theorem dy_two : dy 1 1 = 1 + 1 := by decide +kernel
theorem dy_shift (z e k : Int) : dy z e * dy 1 k = dy z (e + k) := by rw [dy_mul, Int.mul_one]
theorem dy_pows (k : Int) : dy 1 k * dy 1 (-k) = 1 := by rw [dy_mul, ← dy_one]; congr 1; omega
/-- Shift, of the number itself. -/
theorem shiftN_any (w : World) (v : Value) (d r : Dyadic) (k : Int) (P Q : Nat) (hr : d * dy 1 k = r) (h : Dn w v d) (hd : Rg P Q d) (hb : P + Q ≤ 9600) (hk : -400000 ≤ k ∧ k ≤ 400000) (T : Tb w) : Calls Tryd.prog 24 #[v, .int .i64 k] w (RetD w r) := by
  obtain ⟨z, e, rfl, hc, hl, h1, h2⟩ := h.rg hd hb
  rw [← hr, dy_shift]
  exact shiftD_any w v z e k h hc hl (by omega) hk T
/-- A number of at most B bits, its power of two within X. -/
structure Bt (B X : Nat) (d : Dyadic) : Prop where
  out : ∃ z e : Int, d = dy z e ∧ Canon z e ∧ z.natAbs < 2 ^ B ∧ -(X : Int) ≤ e ∧ e ≤ X
theorem Bt.shift {B X Y : Nat} {d : Dyadic} {k : Int} (h : Bt B X d) (hk : -(Y : Int) ≤ k ∧ k ≤ Y) : Bt B (X + Y) (d * dy 1 k) := by
  obtain ⟨z, e, rfl, hc, hb, h1, h2⟩ := h.out
  rw [dy_shift]
  rcases hc.out with ⟨rfl, rfl⟩ | ho
  · exact ⟨0, 0, by rw [dy_zero, dy_zero], ⟨.inl ⟨rfl, rfl⟩⟩, hb, by omega, by omega⟩
  · exact ⟨z, e + k, rfl, ⟨.inr ho⟩, hb, by omega, by omega⟩
theorem rrightBt_any (w : World) (v : Value) (d : Dyadic) (B X : Nat) (h : Dn w v d) (hb : Bt B X d) (h1 : B ≤ 1440) (h2 : X ≤ 6000) : Calls Tryd.prog 11 #[v] w (RetE w (.bool true)) := by
  obtain ⟨z, e, rfl, hc, hz, k1, k2⟩ := hb.out
  obtain ⟨M, z', e', rfl, ⟨xs, hr, nf, ev⟩, hc', hd⟩ := h
  obtain ⟨rfl, rfl⟩ := hc.uniq hc' hd
  have hl : xs.length ≤ 60 := N.len (m := z.natAbs) (Lt.of_bits (Nat.le_trans (bl_of_lt hz) (by omega))) nf ev
  have ht : rightD (decide (z < 0)) xs e = true := by
    unfold rightD
    rw [right_iff.2 ⟨nf, by omega⟩, decide_eq_true hl]
    by_cases h0 : xs.length = 0
    · rw [if_pos h0]
      obtain rfl : xs = [] := by simpa using h0
      have hz : z = 0 := by simp [val] at ev; omega
      subst hz
      have he : e = 0 := by rcases hc.out with k | k <;> omega
      subst he
      rfl
    · rw [if_neg h0]
      have hne : xs ≠ [] := by intro e0; subst e0; simp at h0
      have hodd := val_mod2 hne
      have hz : z % 2 = 1 := by
        rcases hc.out with k | k
        · exfalso
          have := nf.pos hne
          have := bp_pos (xs.length - 1)
          omega
        · exact k
      rw [decide_eq_true (show nth xs 0 % 2 = 1 by omega), decide_eq_true (show -6000 ≤ e by omega), decide_eq_true (show e ≤ 6000 by omega)]
      rfl
  have := rrightD_any w (decide (z < 0)) M xs e hr (by omega)
  rwa [ht] at this

/-! Order. -/
theorem cmpD_pair (x y : Dyadic) : ∃ X Y m : Int, x = dy X m ∧ y = dy Y m := by
  have key : ∀ d : Dyadic, ∃ z e : Int, d = dy z e := fun d => by
    cases d with
    | zero => exact ⟨0, 0, rfl⟩
    | ofOdd n k h => exact ⟨n, -k, by rw [dy_odd h]; simp⟩
  obtain ⟨z, e, rfl⟩ := key x
  obtain ⟨z', e', rfl⟩ := key y
  obtain ⟨K, hK⟩ : ∃ K : Nat, e - min e e' = (K : Int) := ⟨(e - min e e').toNat, by omega⟩
  obtain ⟨K', hK'⟩ : ∃ K' : Nat, e' - min e e' = (K' : Int) := ⟨(e' - min e e').toNat, by omega⟩
  exact ⟨z * 2 ^ K, z' * 2 ^ K', min e e', by rw [dy_up]; congr 1; omega, by rw [dy_up]; congr 1; omega⟩
theorem cmpD_swap (x y : Dyadic) : cmpD y x = - cmpD x y := by
  obtain ⟨X, Y, m, rfl, rfl⟩ := cmpD_pair x y
  rw [cmpD_dy, cmpD_dy]; exact cmpI_swap _ _
theorem cmpD_negs (x y : Dyadic) : cmpD (-x) (-y) = - cmpD x y := by
  obtain ⟨X, Y, m, rfl, rfl⟩ := cmpD_pair x y
  rw [dy_neg, dy_neg, cmpD_dy, cmpD_dy, cmpI_neg]; exact cmpI_swap _ _
theorem cmpI_iff {a b c d : Int} (h1 : a < b ↔ c < d) (h2 : a = b ↔ c = d) : cmpI a b = cmpI c d := by unfold cmpI; simp only [h1, h2]
theorem cmpD_less (x y : Dyadic) : cmpD (x + -y) 0 = cmpD x y := by
  obtain ⟨X, Y, m, rfl, rfl⟩ := cmpD_pair x y
  rw [dy_neg, dy_add, cmpD_zero, cmpD_dy]
  exact cmpI_iff (by omega) (by omega)
theorem cmpD_adds (x y c : Dyadic) : cmpD (x + c) (y + c) = cmpD x y := by
  rw [← cmpD_less, ← cmpD_less x y]; congr 1; grind
theorem cmpD_eq (x y : Dyadic) : (cmpD x y = 0) = (x = y) := by
  obtain ⟨X, Y, m, rfl, rfl⟩ := cmpD_pair x y
  rw [cmpD_dy]
  apply propext
  constructor
  · intro h
    have : X = Y := by
      unfold cmpI at h
      split at h
      · omega
      · split at h <;> omega
    rw [this]
  · intro h; exact cmpI_eq (dy_inj h)
theorem cmpD_shift (x y : Dyadic) (k : Int) : cmpD (x * dy 1 k) (y * dy 1 k) = cmpD x y := by
  obtain ⟨X, Y, m, rfl, rfl⟩ := cmpD_pair x y
  rw [dy_shift, dy_shift, cmpD_dy, cmpD_dy]
theorem cmpD_mul (x y : Dyadic) : cmpD (x * y) 0 = cmpD x 0 * cmpD y 0 := by
  obtain ⟨X, Y, m, rfl, rfl⟩ := cmpD_pair x y
  rw [dy_mul, cmpD_zero, cmpD_zero, cmpD_zero]
  rcases Int.lt_trichotomy X 0 with h | h | h <;> rcases Int.lt_trichotomy Y 0 with k | k | k
  · rw [cmpI_lt h, cmpI_lt k, cmpI_gt (Int.mul_pos_of_neg_of_neg h k)]; rfl
  · subst k; rw [Int.mul_zero, cmpI_eq rfl]; simp
  · rw [cmpI_lt h, cmpI_gt k, cmpI_lt (Int.mul_neg_of_neg_of_pos h k)]; rfl
  · subst h; rw [Int.zero_mul, cmpI_eq rfl]; simp
  · subst h; rw [Int.zero_mul, cmpI_eq rfl]; simp
  · subst h; rw [Int.zero_mul, cmpI_eq rfl]; simp
  · rw [cmpI_gt h, cmpI_lt k, cmpI_lt (Int.mul_neg_of_pos_of_neg h k)]; rfl
  · subst k; rw [Int.mul_zero, cmpI_eq rfl]; simp
  · rw [cmpI_gt h, cmpI_gt k, cmpI_gt (Int.mul_pos h k)]; rfl

end Go.Proofs.YtjnnodbejnmkmaaDoor
