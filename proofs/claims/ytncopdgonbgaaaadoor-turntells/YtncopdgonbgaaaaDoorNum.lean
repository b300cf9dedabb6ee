/- Plain mathematics of limbs: no program, no memory. -/
import Derived.Test.YtncopdgonbgaaaaDoorMem
namespace Go.Proofs.YtncopdgonbgaaaaDoor

/-- 2^24, the base of the limbs, to a power. -/
def bp : Nat → Int
  | 0 => 1
  | n + 1 => 16777216 * bp n
theorem bp_pos : ∀ n, 0 < bp n
  | 0 => by decide
  | n + 1 => by have := bp_pos n; unfold bp; omega
theorem bp_succ (n : Nat) : bp (n + 1) = 16777216 * bp n := rfl
theorem bp_add (m : Nat) : ∀ n, bp (m + n) = bp m * bp n
  | 0 => by simp [bp]
  | n + 1 => by rw [← Nat.add_assoc, bp_succ, bp_succ, bp_add m n, Int.mul_left_comm]
theorem bp_mono {m n : Nat} (h : m ≤ n) : bp m ≤ bp n := by
  obtain ⟨k, rfl⟩ := Nat.exists_eq_add_of_le h
  rw [bp_add]
  have h1 := bp_pos m
  have h2 := bp_pos k
  have : bp m * 1 ≤ bp m * bp k := Int.mul_le_mul_of_nonneg_left (by omega) (by omega)
  omega
theorem bp_eq (n : Nat) : bp n = 16777216 ^ n := by
  induction n with
  | zero => rfl
  | succ n ih => rw [bp_succ, ih, Int.pow_succ, Int.mul_comm]

/-- The sum of h j times the base's powers, over j below n. -/
def S (h : Nat → Int) : Nat → Int
  | 0 => 0
  | n + 1 => S h n + h n * bp n
theorem S_succ (h : Nat → Int) (n : Nat) : S h (n + 1) = S h n + h n * bp n := rfl
theorem S_shift (h : Nat → Int) : ∀ n, S h (n + 1) = h 0 + 16777216 * S (fun j => h (j + 1)) n
  | 0 => by simp [S, bp]
  | n + 1 => by
    rw [S_succ, S_shift h n, S_succ (fun j => h (j + 1)), bp_succ, Int.mul_add, Int.mul_left_comm]
    omega
theorem S_congr {h k : Nat → Int} : ∀ n, (∀ j, j < n → h j = k j) → S h n = S k n
  | 0, _ => rfl
  | n + 1, e => by rw [S_succ, S_succ, S_congr n (fun j hj => e j (by omega)), e n (by omega)]
theorem S_zero : ∀ n, S (fun _ => 0) n = 0
  | 0 => rfl
  | n + 1 => by rw [S_succ, S_zero n]; simp
theorem S_add (h k : Nat → Int) : ∀ n, S (fun j => h j + k j) n = S h n + S k n
  | 0 => rfl
  | n + 1 => by rw [S_succ, S_succ, S_succ, S_add h k n, Int.add_mul]; omega
theorem S_sub (h k : Nat → Int) : ∀ n, S (fun j => h j - k j) n = S h n - S k n
  | 0 => rfl
  | n + 1 => by rw [S_succ, S_succ, S_succ, S_sub h k n, Int.sub_mul]; omega
theorem S_mul (c : Int) (h : Nat → Int) : ∀ n, S (fun j => c * h j) n = c * S h n
  | 0 => by simp [S]
  | n + 1 => by rw [S_succ, S_succ, S_mul c h n, Int.mul_add, Int.mul_assoc]
theorem S_more {h : Nat → Int} {n : Nat} : ∀ {m : Nat}, n ≤ m → (∀ j, n ≤ j → j < m → h j = 0) → S h m = S h n
  | 0, hm, _ => by have : n = 0 := by omega
                   subst this; rfl
  | m + 1, hm, hz => by
    by_cases e : n = m + 1
    · rw [e]
    · rw [S_succ, hz m (by omega) (by omega), S_more (by omega) (fun j a b => hz j a (by omega))]; simp
theorem S_bounds {h : Nat → Int} : ∀ {n : Nat}, (∀ j, j < n → 0 ≤ h j ∧ h j < 16777216) → 0 ≤ S h n ∧ S h n < bp n
  | 0, _ => by simp [S, bp]
  | n + 1, hb => by
    obtain ⟨a, b⟩ := S_bounds (n := n) (fun j hj => hb j (by omega))
    obtain ⟨c, d⟩ := hb n (by omega)
    have hp := bp_pos n
    rw [S_succ, bp_succ]
    have h1 : 0 ≤ h n * bp n := Int.mul_nonneg c (by omega)
    have h2 : h n * bp n ≤ 16777215 * bp n := Int.mul_le_mul_of_nonneg_right (by omega) (by omega)
    omega

/-- What a row of limbs is worth. -/
def val : List Int → Int
  | [] => 0
  | x :: xs => x + 16777216 * val xs
theorem val_S : ∀ xs : List Int, val xs = S (nth xs) xs.length
  | [] => rfl
  | x :: xs => by
    rw [val, val_S xs, List.length_cons, S_shift]; rfl
theorem val_S_ge {xs : List Int} {n : Nat} (h : xs.length ≤ n) : S (nth xs) n = val xs := by
  rw [val_S]; exact S_more h (fun j hj _ => nth_past hj)

def Limbs (xs : List Int) : Prop := ∀ j, j < xs.length → 0 ≤ nth xs j ∧ nth xs j < 16777216
theorem Limbs.at {xs : List Int} (h : Limbs xs) (j : Nat) : 0 ≤ nth xs j ∧ nth xs j < 16777216 := by
  by_cases hj : j < xs.length
  · exact h j hj
  · rw [nth_past (by omega)]; omega
theorem Limbs.tail {x : Int} {xs : List Int} (h : Limbs (x :: xs)) : Limbs xs := fun j hj => h (j + 1) (by simpa using hj)
theorem Limbs.head {x : Int} {xs : List Int} (h : Limbs (x :: xs)) : 0 ≤ x ∧ x < 16777216 := h 0 (by simp)
theorem val_bounds {xs : List Int} (h : Limbs xs) : 0 ≤ val xs ∧ val xs < bp xs.length := by
  rw [val_S]; exact S_bounds h

/-- The one form of a natural: limbs, of which the last is not 0. -/
def NF (xs : List Int) : Prop := Limbs xs ∧ (xs = [] ∨ nth xs (xs.length - 1) ≠ 0)
theorem NF.nil : NF [] := ⟨fun j hj => absurd hj (by simp), .inl rfl⟩
theorem NF.tail {x : Int} {xs : List Int} (h : NF (x :: xs)) : NF xs := by
  refine ⟨h.1.tail, ?_⟩
  rcases xs with _ | ⟨y, ys⟩
  · exact .inl rfl
  · right
    rcases h.2 with h2 | h2
    · cases h2
    · simpa [nth_cons_succ] using h2
theorem NF.pos {xs : List Int} (h : NF xs) (hne : xs ≠ []) : bp (xs.length - 1) ≤ val xs := by
  induction xs with
  | nil => exact absurd rfl hne
  | cons x xs ih =>
    have hx := h.1.head
    by_cases e : xs = []
    · subst e
      rcases h.2 with h2 | h2
      · cases h2
      · simp [nth_cons_zero] at h2
        simp [val, bp]; omega
    · have := ih h.tail e
      have hl : xs.length ≠ 0 := by simpa using e
      have e2 : (x :: xs).length - 1 = (xs.length - 1) + 1 := by simp; omega
      rw [e2, bp_succ, val]; omega
theorem NF.inj : ∀ {xs ys : List Int}, NF xs → NF ys → val xs = val ys → xs = ys
  | [], [], _, _, _ => rfl
  | [], y :: ys, _, h, e => by
    have := h.pos (by simp)
    have := bp_pos ((y :: ys).length - 1)
    have : val [] = 0 := rfl
    omega
  | x :: xs, [], h, _, e => by
    have := h.pos (by simp)
    have := bp_pos ((x :: xs).length - 1)
    have : val [] = 0 := rfl
    omega
  | x :: xs, y :: ys, h, k, e => by
    have hx := h.1.head
    have hy := k.1.head
    simp only [val] at e
    have e1 : x = y := by omega
    have e2 : val xs = val ys := by omega
    rw [e1, NF.inj h.tail k.tail e2]
theorem NF.len_le {xs : List Int} {n : Nat} (h : NF xs) (hv : val xs < bp n) : xs.length ≤ n := by
  by_cases e : xs = []
  · subst e; simp
  · have h1 := h.pos e
    by_cases hc : xs.length ≤ n
    · exact hc
    · have := bp_mono (show n ≤ xs.length - 1 by omega)
      omega

/-! Sums with a carry. -/
/-- The carry ahead of a place, and the limb at it, of sums h that begin with the carry c. -/
def carryAt (h : Nat → Int) (c : Int) : Nat → Int
  | 0 => c
  | j + 1 => (h j + carryAt h c j) / 16777216
def limbAt (h : Nat → Int) (c : Int) (j : Nat) : Int := (h j + carryAt h c j) % 16777216
theorem carryAt_succ (h : Nat → Int) (c : Int) (j : Nat) : carryAt h c (j + 1) = (h j + carryAt h c j) / 16777216 := rfl
theorem limbAt_bounds (h : Nat → Int) (c : Int) (j : Nat) : 0 ≤ limbAt h c j ∧ limbAt h c j < 16777216 := by unfold limbAt; omega
theorem carry_sum (h : Nat → Int) (c : Int) : ∀ n, S (limbAt h c) n + carryAt h c n * bp n = c + S h n
  | 0 => by simp [S, carryAt, bp]
  | n + 1 => by
    have ih := carry_sum h c n
    rw [S_succ, S_succ, carryAt_succ, bp_succ]
    have e : h n + carryAt h c n = 16777216 * ((h n + carryAt h c n) / 16777216) + limbAt h c n := by unfold limbAt; omega
    have e2 : (h n + carryAt h c n) / 16777216 * (16777216 * bp n) = 16777216 * ((h n + carryAt h c n) / 16777216) * bp n := by
      rw [← Int.mul_assoc, Int.mul_comm ((h n + carryAt h c n) / 16777216) 16777216]
    rw [e2]
    have e3 : h n * bp n + carryAt h c n * bp n = 16777216 * ((h n + carryAt h c n) / 16777216) * bp n + limbAt h c n * bp n := by
      rw [← Int.add_mul, ← Int.add_mul, ← e]
    omega
theorem carry_end {h : Nat → Int} {c : Int} {n : Nat} (h0 : 0 ≤ c + S h n) (h1 : c + S h n < bp n) : S (limbAt h c) n = c + S h n := by
  have e := carry_sum h c n
  obtain ⟨a, b⟩ := S_bounds (n := n) (fun j _ => limbAt_bounds h c j)
  have hp := bp_pos n
  have hc : carryAt h c n = 0 := by
    rcases Int.lt_trichotomy (carryAt h c n) 0 with k | k | k
    · have : carryAt h c n * bp n ≤ (-1) * bp n := Int.mul_le_mul_of_nonneg_right (by omega) (by omega)
      omega
    · exact k
    · have : 1 * bp n ≤ carryAt h c n * bp n := Int.mul_le_mul_of_nonneg_right (by omega) (by omega)
      omega
  rw [hc] at e
  omega
theorem carry_bound {h : Nat → Int} {c M : Int} {n : Nat} (hM : 1 ≤ M) (hc : -M ≤ c ∧ c ≤ M) (hh : ∀ j, j < n → -M ≤ h j ∧ h j ≤ M) : ∀ j, j ≤ n → -M ≤ carryAt h c j ∧ carryAt h c j ≤ M
  | 0, _ => hc
  | j + 1, hj => by
    have := carry_bound hM hc hh j (by omega)
    have := hh j (by omega)
    rw [carryAt_succ]
    omega
theorem carry_bound_zero {c M : Int} (hc : 0 ≤ c ∧ c ≤ M) : ∀ j, 0 ≤ carryAt (fun _ => 0) c j ∧ carryAt (fun _ => 0) c j ≤ M
  | 0 => hc
  | j + 1 => by
    have := carry_bound_zero hc j
    rw [carryAt_succ]
    omega

/-! Products. -/
def conv : List Int → List Int → Nat → Int
  | [], _, _ => 0
  | x :: _, b, 0 => x * nth b 0
  | x :: a, b, p + 1 => x * nth b (p + 1) + conv a b p
theorem S_conv : ∀ (a b : List Int) (n : Nat), a.length + b.length ≤ n → S (conv a b) n = val a * val b
  | [], b, n, _ => by
    have e : S (conv [] b) n = S (fun _ => 0) n := S_congr n (fun j _ => rfl)
    rw [e, S_zero]; simp [val]
  | x :: a, b, 0, h => by simp at h
  | x :: a, b, n + 1, h => by
    have hn : a.length + b.length ≤ n := by simp at h; omega
    rw [S_shift]
    have e : S (fun j => conv (x :: a) b (j + 1)) n = x * S (fun j => nth b (j + 1)) n + S (conv a b) n := by
      have e0 : S (fun j => conv (x :: a) b (j + 1)) n = S (fun j => x * nth b (j + 1) + conv a b j) n := S_congr n (fun j _ => rfl)
      rw [e0, S_add, S_mul]
    have e2 := S_shift (nth b) n
    rw [val_S_ge (by omega)] at e2
    rw [e, S_conv a b n hn, val, Int.add_mul]
    have e3 : x * val b = x * nth b 0 + 16777216 * (x * S (fun j => nth b (j + 1)) n) := by rw [e2, Int.mul_add, Int.mul_left_comm]
    rw [e3, Int.mul_assoc 16777216 (val a)]
    simp only [conv]
    omega
def term (a b : List Int) (p t : Nat) : Int := if t ≤ p then nth a t * nth b (p - t) else 0
def psum (a b : List Int) (p : Nat) : Nat → Int
  | 0 => 0
  | k + 1 => psum a b p k + term a b p k
theorem psum_shift (x : Int) (a b : List Int) (p : Nat) : ∀ k, psum (x :: a) b p (k + 1) = x * nth b p + (match p with | 0 => 0 | q + 1 => psum a b q k)
  | 0 => by cases p <;> simp [psum, term, nth_cons_zero]
  | k + 1 => by
    rw [psum, psum_shift x a b p k]
    cases p with
    | zero => simp [term]
    | succ q => simp only [psum, term, nth_cons_succ, Nat.add_le_add_iff_right, Nat.add_sub_add_right]; omega
theorem psum_conv : ∀ (a b : List Int) (p k : Nat), a.length ≤ k → psum a b p k = conv a b p
  | [], b, p, k, _ => by
    induction k with
    | zero => rfl
    | succ k ih =>
      rw [psum, ih (by simp)]
      simp [term, conv, nth_past]
  | x :: a, b, p, 0, h => by simp at h
  | x :: a, b, p, k + 1, h => by
    rw [psum_shift]
    cases p with
    | zero => simp [conv]
    | succ q => simp only [conv]; rw [psum_conv a b q k (by simpa using h)]
theorem psum_more {a b : List Int} {p k : Nat} (hk : p < k) : ∀ m, k ≤ m → psum a b p m = psum a b p k
  | 0, h => by have : k = 0 := by omega
               subst this; rfl
  | m + 1, h => by
    by_cases e : k = m + 1
    · rw [e]
    · rw [psum, psum_more hk m (by omega)]; simp [term]; omega
theorem psum_low {a b : List Int} {p : Nat} : ∀ k, k + b.length ≤ p + 1 → psum a b p k = 0
  | 0, _ => rfl
  | k + 1, h => by
    rw [psum, psum_low k (by omega)]
    unfold term
    rw [if_pos (by omega), nth_past (xs := b) (by omega)]; simp
theorem psum_end {a b : List Int} {p k : Nat} (h : a.length ≤ k ∨ p < k) : psum a b p k = conv a b p := by
  rcases h with h | h
  · exact psum_conv a b p k h
  · rw [← psum_more h (k + a.length) (by omega)]; exact psum_conv a b p _ (by omega)
theorem term_bounds {a b : List Int} (ha : Limbs a) (hb : Limbs b) (p t : Nat) : 0 ≤ term a b p t ∧ term a b p t ≤ 281474943156225 := by
  unfold term
  split
  · have h1 := ha.at t
    have h2 := hb.at (p - t)
    refine ⟨Int.mul_nonneg h1.1 h2.1, ?_⟩
    have : nth a t * nth b (p - t) ≤ 16777215 * 16777215 := Int.mul_le_mul (by omega) (by omega) h2.1 (by omega)
    omega
  · omega
theorem psum_bounds {a b : List Int} (ha : Limbs a) (hb : Limbs b) (p : Nat) : ∀ k : Nat, 0 ≤ psum a b p k ∧ psum a b p k ≤ k * 281474943156225
  | 0 => by simp [psum]
  | k + 1 => by
    have h1 := psum_bounds ha hb p k
    have h2 := term_bounds ha hb p k
    rw [psum]; omega

/-! Order. -/
theorem S_lex {a b : Nat → Int} {i : Nat} (ha : ∀ j, 0 ≤ a j ∧ a j < 16777216) (hb : ∀ j, 0 ≤ b j ∧ b j < 16777216) (hi : a i < b i) : S a (i + 1) < S b (i + 1) := by
  have h1 := S_bounds (n := i) (fun j _ => ha j)
  have h2 := S_bounds (n := i) (fun j _ => hb j)
  have hp := bp_pos i
  rw [S_succ, S_succ]
  have h3 : (a i + 1) * bp i ≤ b i * bp i := Int.mul_le_mul_of_nonneg_right (by omega) (by omega)
  rw [Int.add_mul] at h3
  omega
theorem S_same {a b : Nat → Int} {i n : Nat} (h : ∀ j, i ≤ j → a j = b j) (hn : i ≤ n) : S a n - S b n = S a i - S b i := by
  induction n with
  | zero => have : i = 0 := by omega
            subst this; rfl
  | succ n ih =>
    by_cases e : i = n + 1
    · rw [e]
    · have := ih (by omega)
      rw [S_succ, S_succ, h n (by omega)]; omega
theorem val_lex {a b : List Int} {i : Nat} (ha : Limbs a) (hb : Limbs b) (hl : a.length = b.length) (hi : i < a.length) (h : ∀ j, i + 1 ≤ j → nth a j = nth b j) (hlt : nth a i < nth b i) : val a < val b := by
  have h1 := S_lex ha.at hb.at hlt
  have h2 := S_same (n := a.length) h (by omega)
  rw [val_S, val_S, ← hl]; omega
theorem val_eq_of_nth {a b : List Int} (hl : a.length = b.length) (h : ∀ j, nth a j = nth b j) : val a = val b := by
  rw [val_S, val_S, ← hl]; exact S_congr _ (fun j _ => h j)
theorem val_short {a b : List Int} (ha : NF a) (hb : NF b) (hl : a.length < b.length) : val a < val b := by
  have h1 := (val_bounds ha.1).2
  have h2 := hb.pos (by intro e; subst e; simp at hl)
  have h3 := bp_mono (show a.length ≤ b.length - 1 by omega)
  omega
/-- -1, 0 or 1. -/
def cmpI (x y : Int) : Int := if x < y then -1 else if x = y then 0 else 1
theorem cmpI_lt {x y : Int} (h : x < y) : cmpI x y = -1 := by unfold cmpI; rw [if_pos h]
theorem cmpI_eq {x y : Int} (h : x = y) : cmpI x y = 0 := by unfold cmpI; rw [if_neg (by omega), if_pos h]
theorem cmpI_gt {x y : Int} (h : y < x) : cmpI x y = 1 := by unfold cmpI; rw [if_neg (by omega), if_neg (by omega)]

/-! Bits. -/
/-- How many bits. -/
def bl (m : Nat) : Nat := if m = 0 then 0 else m.log2 + 1
theorem bl_zero : bl 0 = 0 := rfl
theorem bl_lt (m : Nat) : m < 2 ^ bl m := by
  unfold bl
  split
  · subst_vars; simp
  · rename_i h; exact (Nat.log2_lt h).1 (Nat.lt_succ_self _)
theorem bl_le {m : Nat} (h : m ≠ 0) : 2 ^ (bl m - 1) ≤ m := by
  unfold bl
  rw [if_neg h]
  exact Nat.log2_self_le h
theorem bl_of_lt {m n : Nat} (h : m < 2 ^ n) : bl m ≤ n := by
  unfold bl
  split
  · omega
  · rename_i h0; exact (Nat.log2_lt h0).2 h
theorem bl_gt {m n : Nat} (h : 2 ^ n ≤ m) : n < bl m := by
  rcases Nat.lt_or_ge n (bl m) with h1 | h1
  · exact h1
  · have := bl_lt m
    have := Nat.pow_le_pow_right (show 0 < 2 by omega) h1
    omega
theorem bl_is {m n : Nat} (h1 : 2 ^ n ≤ m) (h2 : m < 2 ^ (n + 1)) : bl m = n + 1 := by
  have := bl_of_lt h2
  have := bl_gt h1
  omega
theorem bl_half {m : Nat} (h : m ≠ 0) : bl m = bl (m / 2) + 1 := by
  unfold bl
  rw [if_neg h, Nat.log2_def]
  by_cases h2 : m / 2 = 0
  · rw [if_pos h2, if_neg (by omega)]
  · rw [if_neg h2, if_pos (by omega)]
theorem bp_two (n : Nat) : bp n = ((2 ^ (24 * n) : Nat) : Int) := by
  induction n with
  | zero => rfl
  | succ n ih =>
    rw [bp_succ, ih, Nat.mul_succ, Nat.pow_add, Int.natCast_mul, Int.mul_comm]
    have e : ((2 ^ 24 : Nat) : Int) = 16777216 := by decide
    rw [e]
theorem bl_top {xs : List Int} {m t : Nat} (h : NF xs) (hne : xs ≠ []) (hv : val xs = (m : Int)) (ht : nth xs (xs.length - 1) = (t : Int)) : bl m = 24 * (xs.length - 1) + bl t := by
  have hb := h.1.at (xs.length - 1)
  have ht0 : t ≠ 0 := by
    rcases h.2 with e | e
    · exact absurd e hne
    · omega
  have hl : xs.length ≠ 0 := by simpa using hne
  obtain ⟨n, hn⟩ : ∃ n, xs.length = n + 1 := ⟨xs.length - 1, by omega⟩
  rw [hn] at ht ⊢
  rw [Nat.add_sub_cancel] at ht ⊢
  have hS := S_bounds (n := n) (fun j _ => h.1.at j)
  have e : (m : Int) = S (nth xs) n + (t : Int) * ((2 ^ (24 * n) : Nat) : Int) := by rw [← hv, val_S, hn, S_succ, ht, bp_two]
  rw [bp_two] at hS
  obtain ⟨s, hs⟩ := Int.eq_ofNat_of_zero_le hS.1
  rw [hs] at e hS
  have e' : m = s + t * 2 ^ (24 * n) := by exact_mod_cast e
  have hs' : s < 2 ^ (24 * n) := by exact_mod_cast hS.2
  have h1 := bl_lt t
  have h2 := bl_le ht0
  have hp := Nat.two_pow_pos (24 * n)
  have h3 : bl t ≠ 0 := by intro e0; rw [e0] at h1; simp at h1; omega
  obtain ⟨k, hk⟩ : ∃ k, bl t = k + 1 := ⟨bl t - 1, by omega⟩
  rw [hk] at h1 h2 ⊢
  rw [Nat.add_sub_cancel] at h2
  rw [← Nat.add_assoc]
  apply bl_is
  · rw [Nat.pow_add, e']
    have : 2 ^ (24 * n) * 2 ^ k ≤ 2 ^ (24 * n) * t := Nat.mul_le_mul_left _ h2
    rw [Nat.mul_comm t]; omega
  · rw [Nat.add_assoc, Nat.pow_add, e']
    have : 2 ^ (24 * n) * (t + 1) ≤ 2 ^ (24 * n) * 2 ^ (k + 1) := Nat.mul_le_mul_left _ h1
    rw [Nat.mul_succ] at this
    rw [Nat.mul_comm t]; omega

/-- The slice value v reads as the natural m in w. -/
def N (w : World) (v : Value) (m : Nat) : Prop := ∃ xs, Row w v xs ∧ NF xs ∧ val xs = (m : Int)
theorem N.ext {w w' : World} {v : Value} {m : Nat} (h : N w v m) (k : Ext w w') : N w' v m := by
  obtain ⟨xs, h1, h2, h3⟩ := h
  exact ⟨xs, h1.ext k, h2, h3⟩
theorem N.zero (w : World) (A : Option Addr) (c : Nat) (hc : c ≤ maxLen) : N w (.slice A 0 c) 0 := ⟨[], Row.nil w A c hc, NF.nil, rfl⟩
theorem N.form {w : World} {v : Value} (h : N w v 0) : ∃ A c, v = .slice A 0 c ∧ c ≤ maxLen := by
  obtain ⟨xs, ⟨A, c, rfl, h1, h2, _⟩, n, e⟩ := h
  have hx : xs = [] := by
    rcases hxs : xs with _ | ⟨x, ys⟩
    · rfl
    · have := n.pos (by rw [hxs]; simp)
      have := bp_pos (xs.length - 1)
      omega
  subst hx
  exact ⟨A, c, rfl, h2⟩
/-- Less than the base's k-th power. (A structure: a plain definition would be laid open by the walk's 'contradiction'.) -/
structure Lt (k m : Nat) : Prop where
  out : (m : Int) < bp k
theorem N.len {m k : Nat} {xs : List Int} (h : Lt k m) (hn : NF xs) (hv : val xs = (m : Int)) : xs.length ≤ k := hn.len_le (by rw [hv]; exact h.out)
theorem Lt.mono {k l m : Nat} (h : Lt k m) (hk : k ≤ l) : Lt l m := ⟨Int.lt_of_lt_of_le h.out (bp_mono hk)⟩
theorem Lt.add {k m n : Nat} (h : Lt k m) (h' : Lt k n) : Lt (k + 1) (m + n) := by
  obtain ⟨h⟩ := h
  obtain ⟨h'⟩ := h'
  refine ⟨?_⟩
  rw [bp_succ]; have := bp_pos k; omega
theorem Lt.mul {k l m n : Nat} (h : Lt k m) (h' : Lt l n) : Lt (k + l) (m * n) := by
  obtain ⟨h⟩ := h
  obtain ⟨h'⟩ := h'
  refine ⟨?_⟩
  rw [bp_add]
  have h1 := bp_pos k
  have h2 := bp_pos l
  have : (m : Int) * (n : Int) ≤ (m : Int) * bp l := Int.mul_le_mul_of_nonneg_left (by omega) (by omega)
  have : (m : Int) * bp l < bp k * bp l := Int.mul_lt_mul_of_pos_right h h2
  push_cast
  omega
theorem Lt.bits {k m : Nat} (h : Lt k m) : bl m ≤ 24 * k := bl_of_lt (by have h := h.out; rw [bp_two] at h; exact_mod_cast h)
theorem Lt.of_bits {k m : Nat} (h : bl m ≤ 24 * k) : Lt k m := by
  refine ⟨?_⟩
  rw [bp_two]
  have h1 := bl_lt m
  have h2 := Nat.pow_le_pow_right (show 0 < 2 by omega) h
  exact_mod_cast Nat.lt_of_lt_of_le h1 h2
theorem Lt.of_le {k m n : Nat} (h : Lt k n) (hm : m ≤ n) : Lt k m := ⟨by have := h.out; omega⟩
/-- It returned the natural m, in new memory. -/
def RetN (w : World) (m : Nat) (e : Ending) (w' : World) : Prop := ∃ v, e = .returned v ∧ N w' v m ∧ Ext w w'

end Go.Proofs.YtncopdgonbgaaaaDoor
