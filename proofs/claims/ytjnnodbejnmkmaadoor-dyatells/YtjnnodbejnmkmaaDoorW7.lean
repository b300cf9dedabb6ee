/- Walks: Right; guess, firstLimb, nextLimb, Root. -/
import Derived.Test.YtjnnodbejnmkmaaDoorW6
namespace Go.Proofs.YtjnnodbejnmkmaaDoor
open Go.RowKit

set_option maxHeartbeats 1000000 in
theorem right_any (w : World) (v : Value) (xs : List Int) (h : Row w v xs) : Calls Tryd.prog 34 #[v] w fun e w' => e = .returned (.bool (rightB xs)) ∧ w = w' := by
  have hl := h.len_le
  obtain ⟨A, c, rfl, h1, h2, h3⟩ := h
  by_cases hp : 0 < xs.length
  · obtain ⟨b, off, rfl, hb, hc⟩ := h3 hp
    have HC := Lib.hid hc
    have hne : ((xs.length : Int) == 0) = false := beq_eq_false_iff_ne.2 (by omega)
    clear hc h3
    go_enter Tryd.func34, Tryd.ntmps34
    go_wp2
    go_loop [10] (fun i => ∃ k : Nat, k ≤ xs.length ∧ i = .int .i64 k ∧ Hid (∀ j, j < k → 0 ≤ nth xs j ∧ nth xs j ≤ 16777215)) (fun i => xs.length - (intOf i).toNat)
    case atStart => exact ⟨0, Nat.zero_le _, rfl, fun j hj => absurd hj (by omega)⟩
    case round =>
      obtain ⟨k, hk, rfl, hz⟩ := hrel
      by_cases hlt : k < xs.length
      · have hcell := HC.out k hlt
        by_cases hx : nth xs k < 0
        · have HR := Lib.hid (right_bad hlt (.inl hx))
          go_wp2
          go_ret
          rw [HR.out]
          exact ⟨rfl, rfl⟩
        · by_cases hy : 16777215 < nth xs k
          · have HR := Lib.hid (right_bad hlt (.inr hy))
            go_wp2
            go_ret
            rw [HR.out]
            exact ⟨rfl, rfl⟩
          · go_wp2
            go_round
            case rel => exact ⟨k + 1, by omega, by go_num, fun j hj => by
              by_cases e : j = k
              · subst e; omega
              · exact hz.out j (by omega)⟩
            case measure => simp [intOf]; omega
      · have HR := Lib.hid (right_end hp (fun j hj => hz.out j (by omega)))
        have hcell := HC.out (xs.length - 1) (by omega)
        have hi1 : (0 : Int) ≤ (xs.length : Int) - 1 := by omega
        by_cases h300 : xs.length ≤ 300
        · have e300 : decide (xs.length ≤ 300) = true := by simpa using h300
          go_wp2
          go_ret
          rw [HR.out, e300]
          exact ⟨rfl, rfl⟩
        · have e300 : decide (xs.length ≤ 300) = false := by simpa using h300
          go_wp2
          go_ret
          rw [HR.out, e300]
          exact ⟨rfl, rfl⟩
  · have e0 : xs = [] := List.eq_nil_of_length_eq_zero (by omega)
    subst e0
    clear h3
    go_enter Tryd.func34, Tryd.ntmps34
    go_wp2
    go_ret
    exact ⟨rfl, rfl⟩

end Go.Proofs.YtjnnodbejnmkmaaDoor
