/- The table of math/bits: the place of a word's lowest bit. -/
import Derived.Test.YtomdbmjfehoodaaGreatDoorMA
import Derived.Lib.TrailingZeros
set_option maxRecDepth 8000
namespace Go.Proofs.YtomdbmjfehoodaaGreatDoor
open Go.RowKit

/-- The table of math/bits lies where it was laid. -/
structure Tb (w : World) : Prop where
  out : ∀ i, i < 64 → w.cell? ⟨2, i, none⟩ = some (.int .u8 ((Lib.deBruijn64tab.getD i 0 : Nat) : Int))
theorem Tb.ext {w w' : World} (h : Tb w) (E : Ext w w') : Tb w' := ⟨fun i hi => (E.cell (World.block_lt_of_cell? w _ (h.out i hi))).trans (h.out i hi)⟩

theorem u64_neg_and (n : Nat) (h0 : n ≠ 0) (h : n < 18446744073709551616) : bits .and .u64 (n : Int) (IntKind.u64.wrap (-(n : Int))) = ((2 ^ Lib.ctz 64 n : Nat) : Int) := by
  have hw : IntKind.u64.wrap (-(n : Int)) = ((18446744073709551616 - n : Nat) : Int) := by rw [IntKind.wrap_u64]; omega
  rw [hw]
  show IntKind.u64.wrap ((BitVec.ofInt 64 (n : Int) &&& BitVec.ofInt 64 ((18446744073709551616 - n : Nat) : Int)).toNat : Int) = _
  obtain ⟨h1, h2⟩ := Lib.lowest_bit 64 n h0 h
  have e1 : (BitVec.ofInt 64 (n : Int)).toNat = n := by rw [BitVec.toNat_ofInt]; omega
  have e2 : (BitVec.ofInt 64 ((18446744073709551616 - n : Nat) : Int)).toNat = 18446744073709551616 - n := by rw [BitVec.toNat_ofInt]; omega
  rw [BitVec.toNat_and, e1, e2, h1, IntKind.wrap_u64]
  have := Nat.pow_lt_pow_right (show 1 < 2 by omega) h2
  omega
theorem u64_top (n : Nat) (h0 : n ≠ 0) (h : n < 18446744073709551616) : ∃ i : Nat, i < 64 ∧ Lib.deBruijn64tab.getD i 0 = Lib.ctz 64 n ∧
    IntKind.u64.wrap (bits BinOp.and IntKind.u64 (n : Int) (IntKind.u64.wrap (-(n : Int))) * 285870213051353865) / 288230376151711744 = (i : Int) := by
  obtain ⟨_, h2⟩ := Lib.lowest_bit 64 n h0 h
  obtain ⟨k1, k2⟩ := Lib.deBruijn64_at _ h2
  refine ⟨_, k1, k2, ?_⟩
  rw [u64_neg_and n h0 h, IntKind.wrap_u64]
  generalize 2 ^ Lib.ctz 64 n = z
  omega

theorem tz64_any (w : World) (n : Nat) (h0 : n ≠ 0) (h : n < 18446744073709551616) (T : Tb w) :
    Calls Tryz.prog 124 #[.int .u64 (n : Int)] w fun e w' => e = .returned (.int .i64 (Lib.ctz 64 n)) ∧ w = w' := by
  have hn0 : ((n : Int) == 0) = false := beq_eq_false_iff_ne.2 (by omega)
  obtain ⟨i, hi, hv, hI⟩ := u64_top n h0 (by omega)
  have hc := T.out i hi
  rw [hv] at hc
  obtain ⟨_, hk⟩ := Lib.lowest_bit 64 n h0 (by omega)
  generalize Lib.ctz 64 n = k at hc hk ⊢
  clear hv
  go_enter Tryz.func124, Tryz.ntmps124
  go_wp2
  go_ret
  exact ⟨rfl, rfl⟩

theorem tz_any (w : World) (n : Nat) (h0 : n ≠ 0) (h : n < 18446744073709551616) (T : Tb w) :
    Calls Tryz.prog 99 #[.int .u64 (n : Int)] w fun e w' => e = .returned (.int .i64 (Lib.ctz 64 n)) ∧ w = w' := by
  have HT := Lib.hid (tz64_any w n h0 h T)
  clear T
  go_enter Tryz.func99, Tryz.ntmps99
  go_wp2_with fail
  refine HT.out.mono ?_
  rintro _ _ ⟨rfl, rfl⟩
  go_wp2
  go_ret
  exact ⟨rfl, rfl⟩

end Go.Proofs.YtomdbmjfehoodaaGreatDoor
