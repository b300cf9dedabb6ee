/- Walks of the document's answers on angles. -/
import Derived.Test.YtncopdgonbgaaaaDoorTM
import Derived.Deep.Cut
namespace Go.Proofs.YtncopdgonbgaaaaDoor
open Go.RowKit
set_option linter.unusedVariables false
theorem two_pow_word {Q : Nat} (h : Q ≤ 41) : IntKind.i64.wrap ((2 : Int) ^ Q) = 2 ^ Q := IntWalk.i64_in _ (by
  have := p2_le h; have := p2_pos Q; have : (2 : Int) ^ 41 = 2199023255552 := by decide
  omega)
theorem meas_lt (i : Nat) : (intOf (Value.int .i64 (i : Int))).toNat < (intOf (Value.int .i64 ((i + 1 : Nat) : Int))).toNat := by
  show (i : Int).toNat < ((i + 1 : Nat) : Int).toNat
  omega
/-- What the loop of Form starts from. -/
theorem form_start {K : Int} {Q : Nat} (hQ : Q ≤ 40) : (K.tmod (2 ^ Q) + 2 ^ Q).tmod (2 ^ Q) = K % 2 ^ Q := by
  have hp := p2_pos Q
  have h1 := Int.tmod_lt_of_pos K hp
  have h2 : -(2 ^ Q) < K.tmod (2 ^ Q) := by
    have := Int.lt_tmod_of_pos K hp
    omega
  rw [Int.tmod_eq_emod_of_nonneg (by omega), Int.add_emod_right]
  have := Int.mul_tdiv_add_tmod K (2 ^ Q)
  conv => rhs; rw [← this]
  rw [Int.mul_add_emod_self_left]
theorem form_word {K : Int} {Q : Nat} (hQ : Q ≤ 40) : (wrap64 (K.tmod (2 ^ Q) + 2 ^ Q)).tmod (2 ^ Q) = K % 2 ^ Q := by
  have hp := p2_pos Q
  have hle := p2_le hQ
  rw [p2_40] at hle
  rw [show wrap64 (K.tmod (2 ^ Q) + 2 ^ Q) = K.tmod (2 ^ Q) + 2 ^ Q from (by
    have h1 := Int.tmod_lt_of_pos K hp
    have h2 := Int.lt_tmod_of_pos K hp
    unfold wrap64; omega)]
  exact form_start hQ
set_option maxRecDepth 4000 in
set_option maxHeartbeats 1000000 in
theorem rform_any (w : World) (K k : Int) (Q q : Nat) (hK : -9223372036854775808 ≤ K ∧ K ≤ 9223372036854775807) (hQ : Q ≤ 40) (h : Fm (tv K Q) k q) :
    Calls Tryd.prog 17 #[.agg #[.int .i64 K, .int .i64 Q]] w (RetE w (.agg #[.int .i64 k, .int .i64 q])) := by
  have hw := two_pow_word (show Q ≤ 41 by omega)
  have hp := p2_pos Q
  have hle := p2_le hQ
  rw [p2_40] at hle
  have hx0 := Int.emod_nonneg K (Int.ne_of_gt hp)
  have hx1 := Int.emod_lt_of_pos K hp
  have hs : (wrap64 (K.tmod (2 ^ Q) + 2 ^ Q)).tmod (2 ^ Q) = K % 2 ^ Q := by
    rw [show wrap64 (K.tmod (2 ^ Q) + 2 ^ Q) = K.tmod (2 ^ Q) + 2 ^ Q from (by
      have h1 := Int.tmod_lt_of_pos K hp
      have h2 := Int.lt_tmod_of_pos K hp
      unfold wrap64; omega)]
    exact form_start hQ
  rw [tv_mod hQ] at h
  go_enter Tryd.func17, Tryd.ntmps17
  go_wp2
  generalize K % 2 ^ Q = X at *
  go_loopw [4, 5] (fun kv qv wr => ∃ (x : Int) (j : Nat), kv = .int .i64 x ∧ qv = .int .i64 (j : Int) ∧ 0 ≤ x ∧ x < 2 ^ j ∧ j ≤ 40 ∧ Fm (x * 2 ^ (40 - j)) k q ∧ wr = ((w.alloc (.cells #[.int .i64 K, .int .i64 Q] 23)).alloc (.cells #[.int .i64 0, .int .i64 0] 23))) (fun _ qv _ => (intOf qv).toNat)
  case atStart => exact ⟨X, Q, rfl, rfl, hx0, hx1, hQ, h, rfl⟩
  case round =>
    clear hw hp hle hx0 hx1 hs h hK hQ
    obtain ⟨x, j, rfl, rfl, h0, h1, hj, hF, rfl⟩ := hrel
    by_cases hz : x = 0
    · subst hz
      rw [Int.zero_mul] at hF
      obtain ⟨rfl, rfl⟩ := hF.uniq fm_zero
      clear h0 h1 hF
      go_wp2
      exact bodyPost_ret (by simp [results, Tryd.results17, go_sem]) rfl ⟨rfl, ((Ext.refl w).alloc _).alloc _⟩
    · have hp : 0 < x := by omega
      by_cases he : x % 2 = 0
      · obtain ⟨i, rfl⟩ : ∃ i, j = i + 1 := by
          rcases j with _ | i
          · exfalso; have : (2 : Int) ^ 0 = 1 := rfl; omega
          · exact ⟨i, rfl⟩
        obtain ⟨c1, c2⟩ := fm_half hp h1 he
        rw [fm_step hj he] at hF
        have hm : x.tmod 2 = 0 := by rw [Int.tmod_eq_emod_of_nonneg h0]; exact he
        have hd : x.tdiv 2 = x / 2 := Int.tdiv_eq_ediv_of_nonneg h0
        have HF := Lib.hid (And.intro hF (And.intro c1 (And.intro c2 hj)))
        have hb : x < 1099511627776 := by have := p2_le hj; rw [p2_40] at this; omega
        have hd2 : wrap64 (x / 2) = x / 2 := by unfold wrap64; omega
        have hd3 : wrap64 (i : Int) = i := by unfold wrap64; omega
        clear hF c1 c2 h1 hj he
        go_wp2
        go_roundw
        case rel => exact ⟨x / 2, i, rfl, by rw [hd3], by have := HF.out.2.1; omega, HF.out.2.2.1, by have := HF.out.2.2.2; omega, HF.out.1, by simp⟩
        case measure => rw [hd3]; exact meas_lt i
      · have hm : (x.tmod 2 == 0) = false := by
          rw [Int.tmod_eq_emod_of_nonneg h0]; exact beq_eq_false_iff_ne.2 he
        have hm2 : ¬ x.tmod 2 = 0 := by rw [Int.tmod_eq_emod_of_nonneg h0]; exact he
        have hz' : (x == 0) = false := beq_eq_false_iff_ne.2 hz
        obtain ⟨rfl, rfl⟩ := hF.uniq (fm_end hp h1 hj he)
        clear hF h1
        go_wp2
        exact bodyPost_ret (by simp [results, Tryd.results17, go_sem]) rfl ⟨rfl, ((Ext.refl w).alloc _).alloc _⟩
end Go.Proofs.YtncopdgonbgaaaaDoor
