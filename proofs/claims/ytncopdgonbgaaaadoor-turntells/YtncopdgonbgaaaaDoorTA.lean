/- Walks of package turn: reduced. -/
import Derived.Test.YtncopdgonbgaaaaDoorTJ
import Derived.Test.YtncopdgonbgaaaaDoorTab
namespace Go.Proofs.YtncopdgonbgaaaaDoor
open Go.RowKit
set_option linter.unusedVariables false
theorem i64_mask (K : Int) (Q : Nat) (hQ : Q ≤ 40) : bits .and .i64 K (2 ^ Q - 1) = K % 2 ^ Q := by
  have hp : 0 < 2 ^ Q := Nat.two_pow_pos Q
  have hl : 2 ^ Q ≤ 2 ^ 40 := Nat.pow_le_pow_right (by omega) hQ
  have e0 : (2 : Int) ^ Q - 1 = ((2 ^ Q - 1 : Nat) : Int) := by
    rw [Int.natCast_sub hp, Int.natCast_pow]; rfl
  show IntKind.i64.wrap ((BitVec.ofInt 64 K &&& BitVec.ofInt 64 ((2 : Int) ^ Q - 1)).toNat : Int) = _
  rw [e0]
  have e1 : (BitVec.ofInt 64 ((2 ^ Q - 1 : Nat) : Int)).toNat = 2 ^ Q - 1 := by rw [BitVec.toNat_ofInt]; omega
  have e2 : (BitVec.ofInt 64 K).toNat = (K % 18446744073709551616).toNat := by rw [BitVec.toNat_ofInt]; rfl
  rw [BitVec.toNat_and, e1, e2, Nat.and_two_pow_sub_one_eq_mod]
  have e3 : (((K % 18446744073709551616).toNat % 2 ^ Q : Nat) : Int) = K % 2 ^ Q := by
    rw [Int.natCast_emod, Int.toNat_of_nonneg (by omega), Int.natCast_pow]
    show K % 18446744073709551616 % 2 ^ Q = _
    refine Int.emod_emod_of_dvd _ ?_
    refine ⟨2 ^ (64 - Q), ?_⟩
    rw [← p2_add, show Q + (64 - Q) = 64 by omega]; decide
  have e4 := Nat.mod_lt (K % 18446744073709551616).toNat hp
  rw [← e3]
  exact IntWalk.i64_in _ (by omega)
/-- The form of so many parts, by the lowest bit. -/
theorem fm_low {X : Int} {Q n : Nat} (hX : X = (n : Int)) (h0 : n ≠ 0) (h1 : X < 2 ^ Q) (hQ : Q ≤ 40) : Lib.ctz 64 n ≤ Q ∧ Fm (X * 2 ^ (40 - Q)) (X / 2 ^ Lib.ctz 64 n) (Q - Lib.ctz 64 n) := by
  have hl := p2_le hQ
  rw [p2_40] at hl
  obtain ⟨m, hm, _⟩ := Lib.ctzFrom_spec 64 n (by omega) (by omega)
  have e : Lib.ctz 64 n = Lib.ctzFrom 64 n := by simp [Lib.ctz, h0]
  rw [e]
  generalize Lib.ctzFrom 64 n = t at *
  have hXm : X = (2 * (m : Int) + 1) * 2 ^ t := by rw [hX, hm, Int.natCast_mul, Int.natCast_add, Int.natCast_mul, Int.natCast_pow, Int.mul_comm]; rfl
  have hpt := p2_pos t
  have htQ : t ≤ Q := by
    rcases Nat.lt_or_ge Q t with g | g
    · have a := p2_le (show Q + 1 ≤ t by omega)
      have b : 2 ^ t ≤ (2 * (m : Int) + 1) * 2 ^ t := by
        have := Int.mul_le_mul_of_nonneg_right (show (1 : Int) ≤ 2 * m + 1 by omega) (Int.le_of_lt hpt)
        rwa [Int.one_mul] at this
      rw [Int.pow_succ] at a
      have := p2_pos Q
      omega
    · exact g
  have hd : X / 2 ^ t = 2 * (m : Int) + 1 := by rw [hXm]; exact Int.mul_ediv_cancel _ (Int.ne_of_gt hpt)
  refine ⟨htQ, ?_⟩
  rw [hd]
  refine ⟨.inr ⟨by omega, by omega, ?_, by omega, ?_⟩⟩
  · have s : (2 : Int) ^ Q = 2 ^ (Q - t) * 2 ^ t := by rw [← p2_add]; congr 1; omega
    rw [hXm, s] at h1
    exact Int.lt_of_mul_lt_mul_right h1 (Int.le_of_lt hpt)
  · rw [hXm, Int.mul_assoc, ← p2_add]; congr 2; omega
set_option maxRecDepth 4000 in
set_option maxHeartbeats 1000000 in
theorem treduced_any (w : World) (T : Tb w) (K k : Int) (Q q : Nat) (hK : -9223372036854775808 ≤ K ∧ K ≤ 9223372036854775807) (hQ : Q ≤ 40) (h : Fm (tv K Q) k q) :
    Calls Tryd.prog 27 #[.int .i64 K, .int .i64 Q] w (RetE w (.agg #[.int .i64 k, .int .i64 q])) := by
  have hw := two_pow_word (show Q ≤ 41 by omega)
  have hp := p2_pos Q
  have hle := p2_le hQ
  rw [p2_40] at hle
  have hx0 := Int.emod_nonneg K (Int.ne_of_gt hp)
  have hx1 := Int.emod_lt_of_pos K hp
  have hw1 : wrap64 (2 ^ Q - 1) = 2 ^ Q - 1 := by unfold wrap64; omega
  have hm := i64_mask K Q hQ
  rw [tv_mod hQ] at h
  obtain ⟨X, hX⟩ : ∃ X, K % 2 ^ Q = X := ⟨_, rfl⟩
  rw [hX] at hm h hx0 hx1
  clear hX hK
  by_cases hz : X = 0
  · subst hz
    rw [Int.zero_mul] at h
    obtain ⟨rfl, rfl⟩ := h.uniq fm_zero
    clear hx0 hx1 h
    clear hp hle
    go_enter Tryd.func27, Tryd.ntmps27
    go_wp2
    exact bodyPost_ret (by simp [results, Tryd.results27, go_sem]) rfl ⟨rfl, (Ext.refl w).alloc _⟩
  · obtain ⟨n, rfl⟩ := Int.eq_ofNat_of_zero_le hx0
    have hn0 : n ≠ 0 := by omega
    have hz' : ((n : Int) == 0) = false := beq_eq_false_iff_ne.2 hz
    obtain ⟨ht, hf⟩ := fm_low rfl hn0 hx1 hQ
    obtain ⟨e1, e2⟩ := h.uniq hf
    have hu : IntKind.u64.wrap (n : Int) = n := by rw [IntKind.wrap_u64]; omega
    have hd2 : wrap64 ((Q : Int) - (Lib.ctz 64 n : Int)) = (q : Int) := by unfold wrap64; omega
    have HT := Lib.hid (fun w' (T' : Tb w') => tz_any w' n hn0 (by omega) T')
    have HB := Lib.hid T
    have hd3 : (Q : Int) - (Lib.ctz 64 n : Int) = (q : Int) := by omega
    rw [e1]
    have hc : Lib.ctz 64 n ≤ 40 := by omega
    clear hp hle h hf e1 e2 hx1 hn0 T
    go_enter Tryd.func27, Tryd.ntmps27
    go_wp2_with fail
    refine (HT.out _ (HB.out.ext ((Ext.refl w).alloc _))).mono ?_
    rintro _ _ ⟨rfl, rfl⟩
    go_wp2
    exact bodyPost_ret (by simp [results, Tryd.results27, go_sem]) rfl ⟨rfl, (Ext.refl w).alloc _⟩
end Go.Proofs.YtncopdgonbgaaaaDoor
