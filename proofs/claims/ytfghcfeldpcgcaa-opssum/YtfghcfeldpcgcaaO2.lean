/- Sums, products, opposites and roots of any doubles, as classes. No function of the program is named. -/
import Derived.Test.YtfghcfeldpcgcaaJ0
import Derived.Test.YtfghcfeldpcgcaaO1
namespace Go.Proofs.Ytfghcfeldpcgcaa
open Go.RowKit
set_option linter.unusedVariables false

structure Nan64 (b : Nat) : Prop where
  out : 9218868437227405312 < frung b
structure Inf64 (b : Nat) : Prop where
  out : frung b = 9218868437227405312
theorem kinds (b : Nat) : Nan64 b ∨ Inf64 b ∨ Fin64 b := by
  rcases Nat.lt_trichotomy (frung b) 9218868437227405312 with h | h | h
  · exact .inr (.inr ⟨h⟩)
  · exact .inr (.inl ⟨h⟩)
  · exact .inl ⟨h⟩
theorem Inf64.num {b : Nat} (h : Inf64 b) : Num64 b := ⟨by rw [h.out]; omega⟩
theorem nan_or_num (b : Nat) : Nan64 b ∨ Num64 b := (kinds b).elim .inl fun h => .inr (h.elim Inf64.num Fin64.num)
theorem Nan64.not {b : Nat} (h : Nan64 b) (k : Num64 b) : False := by have := h.out; have := k.out; omega
theorem Inf64.not {b : Nat} (h : Inf64 b) (k : Fin64 b) : False := by have := h.out; have := k.out; omega
theorem Inf64.key {b : Nat} (h : Inf64 b) : fkey b = if fneg b then -9218868437227405312 else 9218868437227405312 := by unfold fkey; rw [h.out]; rfl
theorem fin_of_key {b : Nat} (h : Num64 b) (h1 : -9218868437227405312 < fkey b) (h2 : fkey b < 9218868437227405312) : Fin64 b := ⟨by
  unfold fkey at h1 h2
  split at h1 <;> rename_i k <;> simp only [k] at h2 <;> simp at h2 <;> omega⟩
theorem Fin64.key {b : Nat} (h : Fin64 b) : -9218868437227405312 < fkey b ∧ fkey b < 9218868437227405312 := by have := fin_key h; omega
theorem inf_of_key {a b : Nat} (h : Inf64 a) (hb : Num64 b) (e : fkey a = fkey b) : Inf64 b := by
  rcases kinds b with k | k | k
  · exact (k.not hb).elim
  · exact k
  · have := k.key; rw [← e, h.key] at this; split at this <;> omega
theorem fin_same {a b : Nat} (h : Fin64 a) (hb : Num64 b) (e : fkey a = fkey b) : Fin64 b := fin_of_key hb (by rw [← e]; exact h.key.1) (by rw [← e]; exact h.key.2)
/-- Alike: the same number, or both none. -/
inductive Al : Nat → Nat → Prop
  | nan {a b : Nat} : Nan64 a → Nan64 b → Al a b
  | num {a b : Nat} : Num64 a → Num64 b → fkey a = fkey b → Al a b
theorem Al.refl (a : Nat) : Al a a := (nan_or_num a).elim (fun h => .nan h h) (fun h => .num h h rfl)
theorem Al.symm {a b : Nat} (h : Al a b) : Al b a := by
  cases h with
  | nan h k => exact .nan k h
  | num h k e => exact .num k h e.symm
theorem Al.trans {a b c : Nat} (h : Al a b) (k : Al b c) : Al a c := by
  cases h with
  | nan h h' => cases k with
    | nan k k' => exact .nan h k'
    | num k k' e => exact (h'.not k).elim
  | num h h' e => cases k with
    | nan k k' => exact (k.not h').elim
    | num k k' e' => exact .num h k' (e.trans e')
theorem Al.same {a b : Nat} (h : Al a b) : sameF a b = true := by
  cases h with
  | nan h k => unfold sameF; rw [order_nan (.inl h.out), order_nan (.inl h.out), order_nan (.inl k.out)]; rfl
  | num h k e => exact sameF_key h k e
theorem Al.of_rn {d : Dyadic} {a b : Nat} (h : Rn d a) (k : Rn d b) : Al a b := .num h.num k.num (h.key_eq k)
theorem fval_same {a b : Nat} (e : fkey a = fkey b) : fval a = fval b := by rw [fval_key, fval_key, e]

/-- c is what a and b are summed to. -/
inductive AddS : Nat → Nat → Nat → Prop
  | nanl {a b c : Nat} : Nan64 a → Nan64 c → AddS a b c
  | nanr {a b c : Nat} : Nan64 b → Nan64 c → AddS a b c
  | apart {a b c : Nat} : Inf64 a → Inf64 b → fkey a ≠ fkey b → Nan64 c → AddS a b c
  | infl {a b c : Nat} : Inf64 a → Num64 b → (Inf64 b → fkey a = fkey b) → Al c a → AddS a b c
  | infr {a b c : Nat} : Fin64 a → Inf64 b → Al c b → AddS a b c
  | fin {a b c : Nat} : Fin64 a → Fin64 b → Rn (fval a + fval b) c → AddS a b c
/-- c is what a and b are multiplied to. -/
inductive MulS : Nat → Nat → Nat → Prop
  | nanl {a b c : Nat} : Nan64 a → Nan64 c → MulS a b c
  | nanr {a b c : Nat} : Nan64 b → Nan64 c → MulS a b c
  | zerl {a b c : Nat} : fkey a = 0 → Num64 a → Inf64 b → Nan64 c → MulS a b c
  | zerr {a b c : Nat} : Inf64 a → Num64 b → fkey b = 0 → Nan64 c → MulS a b c
  | inf {a b c : Nat} : Num64 a → Num64 b → (Inf64 a ∨ Inf64 b) → fkey a ≠ 0 → fkey b ≠ 0 → Num64 c → (fkey c = if (fkey a < 0) ↔ (fkey b < 0) then 9218868437227405312 else -9218868437227405312) → MulS a b c
  | fin {a b c : Nat} : Fin64 a → Fin64 b → Rn (fval a * fval b) c → MulS a b c
theorem Al.nan_r {a b : Nat} (h : Al a b) (k : Nan64 a) : Nan64 b := by
  cases h with
  | nan _ h => exact h
  | num h _ _ => exact (k.not h).elim
theorem Al.key {a b : Nat} (h : Al a b) (k : Num64 a) : Num64 b ∧ fkey a = fkey b := by
  cases h with
  | nan h _ => exact (h.not k).elim
  | num _ h e => exact ⟨h, e⟩
theorem AddS.move {a b c a' b' : Nat} (h : AddS a b c) (ha : Al a a') (hb : Al b b') : AddS a' b' c := by
  cases h with
  | nanl h k => exact .nanl (ha.nan_r h) k
  | nanr h k => exact .nanr (hb.nan_r h) k
  | apart h1 h2 h3 k =>
    obtain ⟨n1, e1⟩ := ha.key h1.num
    obtain ⟨n2, e2⟩ := hb.key h2.num
    exact .apart (inf_of_key h1 n1 e1) (inf_of_key h2 n2 e2) (by rw [← e1, ← e2]; exact h3) k
  | infl h1 h2 h3 k =>
    obtain ⟨n1, e1⟩ := ha.key h1.num
    obtain ⟨n2, e2⟩ := hb.key h2
    exact .infl (inf_of_key h1 n1 e1) n2 (fun h => by rw [← e1, ← e2]; exact h3 (inf_of_key h h2 e2.symm)) (k.trans ha)
  | infr h1 h2 k =>
    obtain ⟨n1, e1⟩ := ha.key h1.num
    obtain ⟨n2, e2⟩ := hb.key h2.num
    exact .infr (fin_same h1 n1 e1) (inf_of_key h2 n2 e2) (k.trans hb)
  | fin h1 h2 k =>
    obtain ⟨n1, e1⟩ := ha.key h1.num
    obtain ⟨n2, e2⟩ := hb.key h2.num
    exact .fin (fin_same h1 n1 e1) (fin_same h2 n2 e2) (by rw [← fval_same e1, ← fval_same e2]; exact k)
theorem Nan64.al {a b : Nat} (h : Nan64 a) (k : Nan64 b) : Al a b := .nan h k
theorem AddS.uniq {a b c c' : Nat} (h : AddS a b c) (k : AddS a b c') : Al c c' := by
  cases h with
  | nanl h n => cases k with
    | nanl _ m => exact n.al m
    | nanr _ m => exact n.al m
    | apart k _ _ _ => exact (h.not k.num).elim
    | infl k _ _ _ => exact (h.not k.num).elim
    | infr k _ _ => exact (h.not k.num).elim
    | fin k _ _ => exact (h.not k.num).elim
  | nanr h n => cases k with
    | nanl _ m => exact n.al m
    | nanr _ m => exact n.al m
    | apart _ k _ _ => exact (h.not k.num).elim
    | infl _ k _ _ => exact (h.not k).elim
    | infr _ k _ => exact (h.not k.num).elim
    | fin _ k _ => exact (h.not k.num).elim
  | apart h1 h2 h3 n => cases k with
    | nanl k _ => exact (k.not h1.num).elim
    | nanr k _ => exact (k.not h2.num).elim
    | apart _ _ _ m => exact n.al m
    | infl _ _ k _ => exact (h3 (k h2)).elim
    | infr k _ _ => exact (h1.not k).elim
    | fin k _ _ => exact (h1.not k).elim
  | infl h1 h2 h3 n => cases k with
    | nanl k _ => exact (k.not h1.num).elim
    | nanr k _ => exact (k.not h2).elim
    | apart _ k e _ => exact (e (h3 k)).elim
    | infl _ _ _ m => exact n.trans m.symm
    | infr k _ _ => exact (h1.not k).elim
    | fin k _ _ => exact (h1.not k).elim
  | infr h1 h2 n => cases k with
    | nanl k _ => exact (k.not h1.num).elim
    | nanr k _ => exact (k.not h2.num).elim
    | apart k _ _ _ => exact (k.not h1).elim
    | infl k _ _ _ => exact (k.not h1).elim
    | infr _ _ m => exact n.trans m.symm
    | fin _ k _ => exact (h2.not k).elim
  | fin h1 h2 n => cases k with
    | nanl k _ => exact (k.not h1.num).elim
    | nanr k _ => exact (k.not h2.num).elim
    | apart k _ _ _ => exact (k.not h1).elim
    | infl k _ _ _ => exact (k.not h1).elim
    | infr _ k _ => exact (k.not h2).elim
    | fin _ _ m => exact Al.of_rn n m
theorem AddS.swap {a b c : Nat} (h : AddS a b c) : AddS b a c := by
  cases h with
  | nanl h n => exact .nanr h n
  | nanr h n => exact .nanl h n
  | apart h1 h2 h3 n => exact .apart h2 h1 (fun e => h3 e.symm) n
  | infl h1 h2 h3 n =>
    rcases kinds b with k | k | k
    · exact (k.not h2).elim
    · exact .infl k h1.num (fun _ => (h3 k).symm) (n.trans (.num h1.num h2 (h3 k)))
    · exact .infr k h1 n
  | infr h1 h2 n => exact .infl h2 h1.num (fun k => (k.not h1).elim) n
  | fin h1 h2 n => exact .fin h2 h1 (by rw [show fval b + fval a = fval a + fval b by grind]; exact n)
theorem MulS.swap {a b c : Nat} (h : MulS a b c) : MulS b a c := by
  cases h with
  | nanl h n => exact .nanr h n
  | nanr h n => exact .nanl h n
  | zerl h1 h2 h3 n => exact .zerr h3 h2 h1 n
  | zerr h1 h2 h3 n => exact .zerl h3 h2 h1 n
  | inf h1 h2 h3 h4 h5 h6 h7 => exact .inf h2 h1 h3.symm h5 h4 h6 (by rw [h7]; by_cases p : fkey a < 0 <;> by_cases q : fkey b < 0 <;> simp [p, q])
  | fin h1 h2 n => exact .fin h2 h1 (by rw [show fval b * fval a = fval a * fval b by grind]; exact n)
theorem fin_zero {a : Nat} (h : Num64 a) (e : fkey a = 0) : Fin64 a := fin_of_key h (by omega) (by omega)
theorem MulS.uniq {a b c c' : Nat} (h : MulS a b c) (k : MulS a b c') : Al c c' := by
  cases h with
  | nanl h n => cases k with
    | nanl _ m => exact n.al m
    | nanr _ m => exact n.al m
    | zerl _ _ _ m => exact n.al m
    | zerr _ _ _ m => exact n.al m
    | inf k _ _ _ _ _ _ => exact (h.not k).elim
    | fin k _ _ => exact (h.not k.num).elim
  | nanr h n => cases k with
    | nanl _ m => exact n.al m
    | nanr _ m => exact n.al m
    | zerl _ _ _ m => exact n.al m
    | zerr _ _ _ m => exact n.al m
    | inf _ k _ _ _ _ _ => exact (h.not k).elim
    | fin _ k _ => exact (h.not k.num).elim
  | zerl h1 h2 h3 n => cases k with
    | nanl _ m => exact n.al m
    | nanr _ m => exact n.al m
    | zerl _ _ _ m => exact n.al m
    | zerr _ _ _ m => exact n.al m
    | inf _ _ _ k _ _ _ => exact (k h1).elim
    | fin _ k _ => exact (h3.not k).elim
  | zerr h1 h2 h3 n => cases k with
    | nanl _ m => exact n.al m
    | nanr _ m => exact n.al m
    | zerl _ _ _ m => exact n.al m
    | zerr _ _ _ m => exact n.al m
    | inf _ _ _ _ k _ _ => exact (k h3).elim
    | fin k _ _ => exact (h1.not k).elim
  | inf h1 h2 h3 h4 h5 h6 h7 => cases k with
    | nanl k _ => exact (k.not h1).elim
    | nanr k _ => exact (k.not h2).elim
    | zerl k _ _ _ => exact (h4 k).elim
    | zerr _ _ k _ => exact (h5 k).elim
    | inf _ _ _ _ _ m6 m7 => exact .num h6 m6 (h7.trans m7.symm)
    | fin k1 k2 _ => exact h3.elim (fun h => (h.not k1).elim) (fun h => (h.not k2).elim)
  | fin h1 h2 n => cases k with
    | nanl k _ => exact (k.not h1.num).elim
    | nanr k _ => exact (k.not h2.num).elim
    | zerl _ _ k _ => exact (k.not h2).elim
    | zerr k _ _ _ => exact (k.not h1).elim
    | inf _ _ k _ _ _ _ => exact k.elim (fun h => (h.not h1).elim) (fun h => (h.not h2).elim)
    | fin _ _ m => exact Al.of_rn n m

/-! What the machine's operations are. -/
theorem write_inf (s : Bool) : Ieee.double.write (.infinity s) = Ieee.double.word s 9218868437227405312 := by cases s <;> decide
theorem inf_word (s : Bool) : Inf64 (Ieee.double.word s 9218868437227405312) ∧ fneg (Ieee.double.word s 9218868437227405312) = s := ⟨⟨frung_word s (by omega)⟩, fneg_word s (by omega)⟩
theorem inf_al {a : Nat} (h : Inf64 a) : Al (Ieee.double.word (fneg a) 9218868437227405312) a := by
  obtain ⟨k, e⟩ := inf_word (fneg a)
  exact .num k.num h.num (by rw [k.key, h.key, e])
/-- The machine's sum. -/
theorem add_all (x y : Nat) : (∃ b, Ieee.double.add x y = some b ∧ AddS x y b) ∨ (Ieee.double.add x y = none ∧ ∀ c, Nan64 c → AddS x y c) := by
  rcases kinds x with hx | hx | hx
  · right
    refine ⟨?_, fun c hc => .nanl hx hc⟩
    unfold Ieee.Format.add; rw [read_nan hx.out]; rfl
  · rcases kinds y with hy | hy | hy
    · right
      refine ⟨?_, fun c hc => .nanr hy hc⟩
      unfold Ieee.Format.add; rw [read_nan hy.out, read_inf hx.out]; rfl
    · by_cases hs : fneg x = fneg y
      · left
        refine ⟨Ieee.double.word (fneg x) 9218868437227405312, ?_, .infl hx hy.num (fun _ => by rw [hx.key, hy.key, hs]) (inf_al hx)⟩
        unfold Ieee.Format.add; rw [read_inf hx.out, read_inf hy.out]
        simp only [Ieee.Datum.sum, if_pos hs, Option.map_some, write_inf]
      · right
        refine ⟨?_, fun c hc => .apart hx hy (fun e => hs ?_) hc⟩
        · unfold Ieee.Format.add; rw [read_inf hx.out, read_inf hy.out]
          simp only [Ieee.Datum.sum, if_neg hs, Option.map_none]
        · rw [hx.key, hy.key] at e
          cases h1 : fneg x <;> cases h2 : fneg y <;> rw [h1, h2] at e <;> simp at e ⊢
    · left
      obtain ⟨m, i, e1, _, _⟩ := read_fin hy
      refine ⟨Ieee.double.word (fneg x) 9218868437227405312, ?_, .infl hx hy.num (fun k => (k.not hy).elim) (inf_al hx)⟩
      unfold Ieee.Format.add; rw [read_inf hx.out, e1]
      simp only [Ieee.Datum.sum, Option.map_some, write_inf]
  · rcases kinds y with hy | hy | hy
    · right
      obtain ⟨m, i, e1, _, _⟩ := read_fin hx
      refine ⟨?_, fun c hc => .nanr hy hc⟩
      unfold Ieee.Format.add; rw [read_nan hy.out, e1]; rfl
    · left
      obtain ⟨m, i, e1, _, _⟩ := read_fin hx
      refine ⟨Ieee.double.word (fneg y) 9218868437227405312, ?_, .infr hx hy (inf_al hy)⟩
      unfold Ieee.Format.add; rw [read_inf hy.out, e1]
      simp only [Ieee.Datum.sum, Option.map_some, write_inf]
    · left
      obtain ⟨b, h1, h2⟩ := add_fin hx hy
      exact ⟨b, h1, .fin hx hy h2⟩
theorem key_zero {b : Nat} : fkey b = 0 ↔ frung b = 0 := by unfold fkey; split <;> omega
theorem key_neg {b : Nat} (h : fkey b ≠ 0) : (fkey b < 0) ↔ fneg b = true := by
  have := mt key_zero.2 h
  unfold fkey
  cases h2 : fneg b
  · simp
  · simp; omega
theorem inf_key_sign {s : Bool} {a b : Nat} (ha : fkey a ≠ 0) (hb : fkey b ≠ 0) (hs : s = (fneg a ^^ fneg b)) : fkey (Ieee.double.word s 9218868437227405312) = if (fkey a < 0) ↔ (fkey b < 0) then 9218868437227405312 else -9218868437227405312 := by
  obtain ⟨k, e⟩ := inf_word s
  rw [k.key, e, hs]
  have h1 := key_neg ha
  have h2 := key_neg hb
  cases p : fneg a <;> cases q : fneg b <;> rw [p] at h1 <;> rw [q] at h2 <;> simp at h1 h2 <;> simp <;> omega
theorem inf_key_ne {b : Nat} (h : Inf64 b) : fkey b ≠ 0 := by rw [h.key]; split <;> omega
/-- The machine's product. -/
theorem mul_all (x y : Nat) : (∃ b, Ieee.double.mul x y = some b ∧ MulS x y b) ∨ (Ieee.double.mul x y = none ∧ ∀ c, Nan64 c → MulS x y c) := by
  rcases kinds x with hx | hx | hx
  · right
    refine ⟨?_, fun c hc => .nanl hx hc⟩
    unfold Ieee.Format.mul; rw [read_nan hx.out]; rfl
  · rcases kinds y with hy | hy | hy
    · right
      refine ⟨?_, fun c hc => .nanr hy hc⟩
      unfold Ieee.Format.mul; rw [read_nan hy.out, read_inf hx.out]; rfl
    · left
      refine ⟨Ieee.double.word (fneg x ^^ fneg y) 9218868437227405312, ?_, .inf hx.num hy.num (.inl hx) (inf_key_ne hx) (inf_key_ne hy) (inf_word _).1.num (inf_key_sign (inf_key_ne hx) (inf_key_ne hy) rfl)⟩
      unfold Ieee.Format.mul; rw [read_inf hx.out, read_inf hy.out]
      simp only [Ieee.Datum.product, Option.map_some, write_inf]
    · obtain ⟨m, i, e1, _, hz⟩ := read_fin hy
      by_cases h0 : m = 0
      · right
        refine ⟨?_, fun c hc => .zerr hx hy.num (key_zero.2 (hz.1 h0)) hc⟩
        unfold Ieee.Format.mul; rw [read_inf hx.out, e1]
        simp only [Ieee.Datum.product, if_pos h0, Option.map_none]
      · left
        have hk : fkey y ≠ 0 := fun e => h0 (hz.2 (key_zero.1 e))
        refine ⟨Ieee.double.word (fneg x ^^ fneg y) 9218868437227405312, ?_, .inf hx.num hy.num (.inl hx) (inf_key_ne hx) hk (inf_word _).1.num (inf_key_sign (inf_key_ne hx) hk rfl)⟩
        unfold Ieee.Format.mul; rw [read_inf hx.out, e1]
        simp only [Ieee.Datum.product, if_neg h0, Option.map_some, write_inf]
  · rcases kinds y with hy | hy | hy
    · right
      obtain ⟨m, i, e1, _, _⟩ := read_fin hx
      refine ⟨?_, fun c hc => .nanr hy hc⟩
      unfold Ieee.Format.mul; rw [read_nan hy.out, e1]; rfl
    · obtain ⟨m, i, e1, _, hz⟩ := read_fin hx
      by_cases h0 : m = 0
      · right
        refine ⟨?_, fun c hc => .zerl (key_zero.2 (hz.1 h0)) hx.num hy hc⟩
        unfold Ieee.Format.mul; rw [read_inf hy.out, e1]
        simp only [Ieee.Datum.product, if_pos h0, Option.map_none]
      · left
        have hk : fkey x ≠ 0 := fun e => h0 (hz.2 (key_zero.1 e))
        refine ⟨Ieee.double.word (fneg y ^^ fneg x) 9218868437227405312, ?_, .inf hx.num hy.num (.inr hy) hk (inf_key_ne hy) (inf_word _).1.num (inf_key_sign hk (inf_key_ne hy) (Bool.xor_comm _ _))⟩
        unfold Ieee.Format.mul; rw [read_inf hy.out, e1]
        simp only [Ieee.Datum.product, if_neg h0, Option.map_some, write_inf]
    · left
      obtain ⟨b, h1, h2, _⟩ := mul_fin hx hy
      exact ⟨b, h1, .fin hx hy h2⟩

/-- c is the root of a. -/
inductive RootS : Nat → Nat → Prop
  | nan {a c : Nat} : Nan64 a ∨ (Num64 a ∧ fkey a < 0) → Nan64 c → RootS a c
  | zero {a c : Nat} : Num64 a → fkey a = 0 → Num64 c → fkey c = 0 → RootS a c
  | inf {a c : Nat} : Inf64 a → 0 < fkey a → Al c a → RootS a c
  | fin {a c : Nat} : Fin64 a → 0 < fkey a → frung c < 9218868437227405311 → 0 < fkey c → NrS (fval a) (frung c) → RootS a c
theorem RootS.uniq {a c c' : Nat} (h : RootS a c) (k : RootS a c') : Al c c' := by
  cases h with
  | nan h n => cases k with
    | nan _ m => exact n.al m
    | zero k e _ _ => rcases h with h | h; exact (h.not k).elim; omega
    | inf k e _ => rcases h with h | h; exact (h.not k.num).elim; omega
    | fin k e _ _ _ => rcases h with h | h; exact (h.not k.num).elim; omega
  | zero h e n n' => cases k with
    | nan k _ => rcases k with k | k; exact (k.not h).elim; omega
    | zero _ _ m m' => exact .num n m (n'.trans m'.symm)
    | inf _ k _ => omega
    | fin _ k _ _ _ => omega
  | inf h e n => cases k with
    | nan k _ => rcases k with k | k; exact (k.not h.num).elim; omega
    | zero _ k _ _ => omega
    | inf _ _ m => exact n.trans m.symm
    | fin k _ _ _ _ => exact (h.not k).elim
  | fin h e n1 n2 n3 => cases k with
    | nan k _ => rcases k with k | k; exact (k.not h.num).elim; omega
    | zero _ k _ _ => omega
    | inf k _ _ => exact (k.not h).elim
    | fin _ _ m1 m2 m3 =>
      have := n3.uniq m3
      refine .num ⟨by omega⟩ ⟨by omega⟩ ?_
      unfold fkey at n2 m2 ⊢
      cases p : fneg c <;> cases q : fneg c' <;> rw [p] at n2 <;> rw [q] at m2 <;> simp at n2 m2 ⊢ <;> omega
theorem pos_sign {a : Nat} (h : 0 < fkey a) : fneg a = false ∧ frung a ≠ 0 := by
  unfold fkey at h
  cases p : fneg a <;> rw [p] at h <;> simp at h ⊢ <;> omega
theorem root_of_stick {a c w : Nat} {d : Dyadic} {E : Int} (hF : Fin64 a) (h : 0 < fkey a) (hr : Rn d c) (hs : Stick (fval a) d w E) : RootS a c := by
  obtain ⟨h1, h2⟩ := pos_sign h
  have hd : 0 < d := by
    have := hs.ge
    have hb := hs.big
    have : (0 : Dyadic) < dy (w : Int) E := by rw [← dy_zero E]; exact dy_lt.2 (by omega)
    grind
  have hn := hr.nr
  rw [absD_of (by grind)] at hn
  have hN := hs.near hn
  obtain ⟨k1, k2⟩ := hN.range hF h1 h2
  refine .fin hF h k1 ?_ hN
  have := hr.pos hd k2
  unfold fkey; rw [this]; simp; omega
/-- The machine's root. -/
theorem sqrt_all (x : Nat) : (∃ b, Ieee.double.sqrt x = some b ∧ RootS x b) ∨ (Ieee.double.sqrt x = none ∧ ∀ c, Nan64 c → RootS x c) := by
  rcases kinds x with hx | hx | hx
  · right
    refine ⟨?_, fun c hc => .nan (.inl hx) hc⟩
    unfold Ieee.Format.sqrt; rw [read_nan hx.out]; rfl
  · cases hs : fneg x
    · left
      have hk : 0 < fkey x := by rw [hx.key, hs]; simp
      refine ⟨Ieee.double.word (fneg x) 9218868437227405312, ?_, .inf hx hk (inf_al hx)⟩
      unfold Ieee.Format.sqrt; rw [read_inf hx.out, hs]
      simp [Ieee.Datum.root, write_inf]
    · right
      have hk : fkey x < 0 := by rw [hx.key, hs]; simp
      refine ⟨?_, fun c hc => .nan (.inr ⟨hx.num, hk⟩) hc⟩
      unfold Ieee.Format.sqrt; rw [read_inf hx.out, hs]
      simp [Ieee.Datum.root]
  · obtain ⟨m, i, e1, h1, hz⟩ := read_fin hx
    by_cases h0 : m = 0
    · left
      refine ⟨Ieee.double.nearest (fneg x) m i, ?_, ?_⟩
      · unfold Ieee.Format.sqrt; rw [e1]
        simp only [Ieee.Datum.root, if_pos h0, Option.map_some, Ieee.Format.write]
      · subst h0
        have hr : Rn 0 (Ieee.double.nearest (fneg x) 0 i) := nearest_rn _ _ _ _ (by
          rw [show dy ((0 : Nat) : Int) i = 0 from dy_zero i]
          cases fneg x
          · simp
          · simp)
        have hz0 : Rn 0 0 := zero_rn (by rw [mid_zero]; decide +kernel)
        exact .zero hx.num (key_zero.2 (hz.1 rfl)) hr.num (by rw [hr.key_eq hz0]; decide)
    · have h2 : frung x ≠ 0 := fun e => h0 (hz.2 e)
      cases hs : fneg x
      · left
        obtain ⟨b, d, w, E, k1, k2, k3⟩ := sqrt_fin hx hs h2
        have hk : 0 < fkey x := by unfold fkey; rw [hs]; simp; omega
        exact ⟨b, k1, root_of_stick hx hk k2 k3⟩
      · right
        have hk : fkey x < 0 := by unfold fkey; rw [hs]; simp; omega
        refine ⟨?_, fun c hc => .nan (.inr ⟨hx.num, hk⟩) hc⟩
        unfold Ieee.Format.sqrt; rw [e1, hs]
        simp [Ieee.Datum.root, h0]

/-- The opposite of a double. -/
theorem opp_word (b : Nat) (hb : b < 18446744073709551616) : ∃ c, Op.unary .neg (.float .f64 b) = pure (.float .f64 c) ∧ frung c = frung b ∧ fneg c = !fneg b ∧ c < 18446744073709551616 := by
  have hw := word_of hb
  rw [word_eq] at hw
  have hr : frung b < 9223372036854775808 := by unfold frung; omega
  cases hs : fneg b
  · rw [hs] at hw
    simp only [Bool.false_eq_true, if_false] at hw
    have hb2 : b < 9223372036854775808 := by omega
    have hW : 9223372036854775808 + b = Ieee.double.word true (frung b) := by rw [word_eq, hw]; rfl
    refine ⟨9223372036854775808 + b, by rw [← neg_word b hb2]; rfl, ?_, ?_, by omega⟩
    · rw [hW]; exact frung_word true hr
    · rw [hW]; exact fneg_word true hr
  · rw [hs] at hw
    simp only [if_true] at hw
    refine ⟨frung b, ?_, ?_, ?_, by omega⟩
    · have : Op.negFloat .f64 b = frung b := by
        show b ^^^ 9223372036854775808 = frung b
        have h1 := xor_top hr
        rw [← h1] at hw
        calc b ^^^ 9223372036854775808 = (frung b ^^^ 9223372036854775808) ^^^ 9223372036854775808 := by rw [hw]
          _ = frung b := by rw [Nat.xor_assoc, Nat.xor_self, Nat.xor_zero]
      rw [← this]; rfl
    · unfold frung; omega
    · unfold fneg
      have : frung b / 9223372036854775808 = 0 := Nat.div_eq_of_lt hr
      rw [this]; rfl
theorem opp_key {b c : Nat} (h1 : frung c = frung b) (h2 : fneg c = !fneg b) : fkey c = -fkey b := by
  unfold fkey; rw [h1, h2]
  cases fneg b <;> simp

end Go.Proofs.Ytfghcfeldpcgcaa
