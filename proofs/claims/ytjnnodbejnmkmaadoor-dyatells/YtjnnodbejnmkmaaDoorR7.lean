/- Walks of the document's answers: Root. -/
import Derived.Test.YtjnnodbejnmkmaaDoorR6
namespace Go.Proofs.YtjnnodbejnmkmaaDoor
open Go.RowKit

theorem bl_pow (K : Nat) : bl (2 ^ K) = K + 1 := bl_is (Nat.le_refl _) (Nat.pow_lt_pow_right (by omega) (by omega))
theorem one_nat (w : World) (t : TypeId) : N (w.alloc (.cells #[.int .i64 1] t)) (.slice (some ⟨w.heap.size, 0, none⟩) 1 1) 1 :=
  ⟨[1], row_one w 1 t, ⟨fun j hj => by
    obtain rfl : j = 0 := by simpa using hj
    rw [nth_eq (by simp)]; simp, .inr (by rw [nth_eq (by simp)]; simp)⟩, by simp [val]⟩
/-- The root's bits from 2^K on are found. -/
structure Bit (m K r : Nat) : Prop where
  low : r * r ≤ m
  high : m < (r + 2 ^ K) * (r + 2 ^ K)
theorem Bit.start {m K : Nat} (h : bl m ≤ 2 * K) : Bit m K 0 := ⟨by omega, by
  have h1 := bl_lt m
  have h2 : 2 ^ bl m ≤ 2 ^ (2 * K) := Nat.pow_le_pow_right (by omega) h
  rw [Nat.zero_add, ← Nat.pow_add, show K + K = 2 * K by omega]; omega⟩
theorem Bit.yes {m K r : Nat} (h : Bit m (K + 1) r) (hle : (r + 2 ^ K) * (r + 2 ^ K) ≤ m) : Bit m K (r + 2 ^ K) := ⟨hle, by
  have := h.high
  rw [Nat.pow_succ, Nat.mul_two, ← Nat.add_assoc] at this
  exact this⟩
theorem Bit.no {m K r : Nat} (h : Bit m (K + 1) r) (hlt : m < (r + 2 ^ K) * (r + 2 ^ K)) : Bit m K r := ⟨h.low, hlt⟩
theorem Bit.done {m r : Nat} (h : Bit m 0 r) : Sq m r := ⟨h.low, by simpa using h.high⟩
theorem rshl_one (w : World) (t : TypeId) (K : Nat) (hK : K ≤ 20000) : Calls Tryd.prog 43 #[.slice (some ⟨w.heap.size, 0, none⟩) 1 1, .int .i64 K] (w.alloc (.cells #[.int .i64 1] t)) (RetN (w.alloc (.cells #[.int .i64 1] t)) (2 ^ K)) := by
  by_cases h : K = 0
  · subst h
    exact rshl_same _ _ 1 _ (one_nat w t) (Lt.of_bits (by decide)) (.inl (by simp))
  · have := rshl_nat _ _ 1 K (by omega) hK (one_nat w t) (Lt.of_bits (by decide)) (by omega)
    rw [Nat.one_mul] at this
    exact this

end Go.Proofs.YtjnnodbejnmkmaaDoor
