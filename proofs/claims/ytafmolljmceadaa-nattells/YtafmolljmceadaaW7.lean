/- Walks: Right; guess, firstLimb, nextLimb, Root. -/
import Derived.Test.YtafmolljmceadaaW6
import Derived.Test.YtafmolljmceadaaRootM
namespace Go.Proofs.Ytafmolljmceadaa
open Go.RowKit

/-- Is a row a natural of at most 300 limbs? -/
def rightB (xs : List Int) : Bool := xs.all (fun x => decide (0 ≤ x ∧ x ≤ 16777215)) && decide (xs.length ≤ 300) && (xs.isEmpty || nth xs (xs.length - 1) != 0)
theorem all_nth {xs : List Int} {p : Int → Bool} : xs.all p = true ↔ ∀ j, j < xs.length → p (nth xs j) = true := by
  rw [List.all_eq_true]
  constructor
  · intro h j hj; rw [nth_eq hj]; exact h _ (List.getElem_mem hj)
  · intro h x hx
    obtain ⟨j, hj, rfl⟩ := List.getElem_of_mem hx
    have := h j hj; rwa [nth_eq hj] at this
theorem right_iff {xs : List Int} : rightB xs = true ↔ NF xs ∧ xs.length ≤ 300 := by
  unfold rightB NF
  rw [Bool.and_eq_true, Bool.and_eq_true, all_nth, Bool.or_eq_true, decide_eq_true_eq, bne_iff_ne, List.isEmpty_iff]
  constructor
  · rintro ⟨⟨h1, h2⟩, h3⟩
    exact ⟨⟨fun j hj => by have := h1 j hj; rw [decide_eq_true_eq] at this; omega, h3⟩, h2⟩
  · rintro ⟨⟨h1, h3⟩, h2⟩
    exact ⟨⟨fun j hj => by have := h1 j hj; rw [decide_eq_true_eq]; omega, h2⟩, h3⟩
theorem right_bad {xs : List Int} {j : Nat} (hj : j < xs.length) (h : nth xs j < 0 ∨ 16777215 < nth xs j) : rightB xs = false := by
  rcases hb : rightB xs with _ | _
  · rfl
  · have := (right_iff.1 hb).1.1 j hj; omega
theorem right_end {xs : List Int} (hne : 0 < xs.length) (h : ∀ j, j < xs.length → 0 ≤ nth xs j ∧ nth xs j ≤ 16777215) : rightB xs = (decide (xs.length ≤ 300) && (nth xs (xs.length - 1) != 0)) := by
  unfold rightB
  have e : xs.all (fun x => decide (0 ≤ x ∧ x ≤ 16777215)) = true := all_nth.2 (fun j hj => by rw [decide_eq_true_eq]; exact h j hj)
  have e2 : xs.isEmpty = false := by cases xs <;> simp_all
  rw [e, e2]; simp

set_option maxHeartbeats 1000000 in
theorem right_any (w : World) (v : Value) (xs : List Int) (h : Row w v xs) : Calls Try.prog 10 #[v] w fun e w' => e = .returned (.bool (rightB xs)) ∧ w = w' := by
  have hl := h.len_le
  obtain ⟨A, c, rfl, h1, h2, h3⟩ := h
  by_cases hp : 0 < xs.length
  · obtain ⟨b, off, rfl, hb, hc⟩ := h3 hp
    have HC := Lib.hid hc
    have hne : ((xs.length : Int) == 0) = false := beq_eq_false_iff_ne.2 (by omega)
    clear hc h3
    go_enter Try.func10, Try.ntmps10
    go_wp2
    go_loop [10] (fun i => ∃ k : Nat, k ≤ xs.length ∧ i = .int .i64 k ∧ Hid (∀ j, j < k → 0 ≤ nth xs j ∧ nth xs j ≤ 16777215)) (fun i => xs.length - (intOf i).toNat)
    case atStart => exact ⟨0, Nat.zero_le _, rfl, fun j hj => absurd hj (by omega)⟩
    case round =>
      obtain ⟨k, hk, rfl, hz⟩ := hrel
      by_cases hlt : k < xs.length
      · have hcell := HC.out k hlt
        by_cases hx : nth xs k < 0
        · have HR := Lib.hid (right_bad hlt (.inl hx))
          go_wp2
          go_ret
          rw [HR.out]
          exact ⟨rfl, rfl⟩
        · by_cases hy : 16777215 < nth xs k
          · have HR := Lib.hid (right_bad hlt (.inr hy))
            go_wp2
            go_ret
            rw [HR.out]
            exact ⟨rfl, rfl⟩
          · go_wp2
            go_round
            case rel => exact ⟨k + 1, by omega, by go_num, fun j hj => by
              by_cases e : j = k
              · subst e; omega
              · exact hz.out j (by omega)⟩
            case measure => simp [intOf]; omega
      · have HR := Lib.hid (right_end hp (fun j hj => hz.out j (by omega)))
        have hcell := HC.out (xs.length - 1) (by omega)
        have hi1 : (0 : Int) ≤ (xs.length : Int) - 1 := by omega
        by_cases h300 : xs.length ≤ 300
        · have e300 : decide (xs.length ≤ 300) = true := by simpa using h300
          go_wp2
          go_ret
          rw [HR.out, e300]
          exact ⟨rfl, rfl⟩
        · have e300 : decide (xs.length ≤ 300) = false := by simpa using h300
          go_wp2
          go_ret
          rw [HR.out, e300]
          exact ⟨rfl, rfl⟩
  · have e0 : xs = [] := List.eq_nil_of_length_eq_zero (by omega)
    subst e0
    clear h3
    go_enter Try.func10, Try.ntmps10
    go_wp2
    go_ret
    exact ⟨rfl, rfl⟩

end Go.Proofs.Ytafmolljmceadaa
