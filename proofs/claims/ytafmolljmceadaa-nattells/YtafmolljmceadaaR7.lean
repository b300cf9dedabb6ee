/- Walks of the document's answers: Root. -/
import Derived.Test.YtafmolljmceadaaR6
import Derived.Test.YtafmolljmceadaaW9
namespace Go.Proofs.Ytafmolljmceadaa
open Go.RowKit

theorem bl_pow (K : Nat) : bl (2 ^ K) = K + 1 := bl_is (Nat.le_refl _) (Nat.pow_lt_pow_right (by omega) (by omega))
theorem one_nat (w : World) (t : TypeId) : N (w.alloc (.cells #[.int .i64 1] t)) (.slice (some ⟨w.heap.size, 0, none⟩) 1 1) 1 :=
  ⟨[1], row_one w 1 t, ⟨fun j hj => by
    obtain rfl : j = 0 := by simpa using hj
    rw [nth_eq (by simp)]; simp, .inr (by rw [nth_eq (by simp)]; simp)⟩, by simp [val]⟩
/-- The root's bits from 2^K on are found. -/
structure Bit (m K r : Nat) : Prop where
  low : r * r ≤ m
  high : m < (r + 2 ^ K) * (r + 2 ^ K)
theorem Bit.start {m K : Nat} (h : bl m ≤ 2 * K) : Bit m K 0 := ⟨by omega, by
  have h1 := bl_lt m
  have h2 : 2 ^ bl m ≤ 2 ^ (2 * K) := Nat.pow_le_pow_right (by omega) h
  rw [Nat.zero_add, ← Nat.pow_add, show K + K = 2 * K by omega]; omega⟩
theorem Bit.yes {m K r : Nat} (h : Bit m (K + 1) r) (hle : (r + 2 ^ K) * (r + 2 ^ K) ≤ m) : Bit m K (r + 2 ^ K) := ⟨hle, by
  have := h.high
  rw [Nat.pow_succ, Nat.mul_two, ← Nat.add_assoc] at this
  exact this⟩
theorem Bit.no {m K r : Nat} (h : Bit m (K + 1) r) (hlt : m < (r + 2 ^ K) * (r + 2 ^ K)) : Bit m K r := ⟨h.low, hlt⟩
theorem Bit.done {m r : Nat} (h : Bit m 0 r) : Sq m r := ⟨h.low, by simpa using h.high⟩
theorem rshl_one (w : World) (t : TypeId) (K : Nat) (hK : K ≤ 20000) : Calls Try.prog 29 #[.slice (some ⟨w.heap.size, 0, none⟩) 1 1, .int .i64 K] (w.alloc (.cells #[.int .i64 1] t)) (RetN (w.alloc (.cells #[.int .i64 1] t)) (2 ^ K)) := by
  by_cases h : K = 0
  · subst h
    exact rshl_same _ _ 1 _ (one_nat w t) (Lt.of_bits (by decide)) (.inl (by simp))
  · have := rshl_nat _ _ 1 K (by omega) hK (one_nat w t) (Lt.of_bits (by decide)) (by omega)
    rw [Nat.one_mul] at this
    exact this

set_option maxHeartbeats 1000000 in
theorem rroot_any (w : World) (v : Value) (m : Nat) (h : N w v m) (hm : Lt 400 m) : Calls Try.prog 33 #[v] w (RetSq w m) := by
  have HLen := Lib.hid (rlen_any w v m h hm)
  have hbl : bl m ≤ 9600 := hm.bits
  go_enter Try.func33, Try.ntmps33
  go_wp2_with fail
  refine HLen.out.mono ?_
  rintro e w' ⟨rfl, rfl⟩
  go_wp2
  go_loopw [3, 4] (fun rv kv wr => ∃ K r : Nat, K ≤ 4810 ∧ kv = .int .i64 ((K : Int) - 1) ∧ N wr rv r ∧ Bit m K r ∧ Ext w wr) (fun _ kv _ => (intOf kv + 1).toNat)
  case atStart => exact ⟨(bl m + 1) / 2 + 1, 0, by omega, by go_num, N.zero _ _ _ (by unfold maxLen; omega), Bit.start (by omega), Ext.refl _⟩
  case round =>
    obtain ⟨K, r, hK, rfl, hr, hb, he⟩ := hrel
    by_cases h0 : K = 0
    · subst h0
      go_wp2
      go_ret
      exact ⟨r, hb.done, _, rfl, hr, he⟩
    · obtain ⟨k, rfl⟩ : ∃ k, K = k + 1 := ⟨K - 1, by omega⟩
      have ek : ((k + 1 : Nat) : Int) - 1 = (k : Int) := by omega
      rw [ek]
      clear ek h0
      have lr : Lt 200 r := Lt.root (k := 200) (hm.mono (by omega)) hb.low
      have lp : Lt 201 (2 ^ k) := Lt.of_bits (by rw [bl_pow]; omega)
      have lt : Lt 202 (r + 2 ^ k) := Lt.add (lr.mono (by omega)) lp
      go_wp2_with (go_at_call 29; refine (rshl_one _ _ k (by omega)).mono ?_; rintro e w1 ⟨v1, rfl, n1, e1⟩)
      have hE1 : Ext wr w1 := ((Ext.refl wr).alloc _).trans e1
      go_wp2_with (go_at_call 21; refine (radd_any _ _ _ r (2 ^ k) (hr.ext hE1) n1 (lr.mono (by omega)) (lp.mono (by omega))).mono ?_; rintro e w2 ⟨v2, rfl, n2, e2⟩)
      go_wp2_with (go_at_call 23; refine (rmul_any _ _ _ _ _ n2 n2 (lt.mono (by omega)) (lt.mono (by omega))).mono ?_; rintro e w3 ⟨v3, rfl, n3, e3⟩)
      have hE3 : Ext w w3 := ((he.trans hE1).trans e2).trans e3
      obtain ⟨z, hz⟩ : ∃ z, cmpI (((r + 2 ^ k) * (r + 2 ^ k) : Nat) : Int) (m : Int) = z := ⟨_, rfl⟩
      have hcmp := rcmp_nat _ _ _ _ _ n3 (h.ext hE3)
      rw [hz] at hcmp
      have HC := Lib.hid hcmp
      clear hcmp
      by_cases hle : (r + 2 ^ k) * (r + 2 ^ k) ≤ m
      · have hz0 : z ≤ 0 := by rw [← hz]; unfold cmpI; split <;> (try split) <;> omega
        have HB := Lib.hid (hb.yes hle)
        clear hz hle
        go_wp2_with (go_at_call 25; refine HC.out.mono ?_; rintro e w4 ⟨rfl, q4⟩)
        go_roundw
        case rel => exact ⟨k, _, by omega, rfl, n2.ext (e3.trans q4.ext), HB.out, hE3.trans q4.ext⟩
        case measure => simp [intOf]
      · have hz0 : 0 < z := by rw [← hz]; unfold cmpI; split <;> (try split) <;> omega
        have HB := Lib.hid (hb.no (by omega))
        clear hz hle
        go_wp2_with (go_at_call 25; refine HC.out.mono ?_; rintro e w4 ⟨rfl, q4⟩)
        go_roundw
        case rel => exact ⟨k, _, by omega, rfl, hr.ext (hE1.trans (e2.trans (e3.trans q4.ext))), HB.out, hE3.trans q4.ext⟩
        case measure => simp [intOf]

end Go.Proofs.Ytafmolljmceadaa
