/- The walk of math/bits.Len64 at a limb (by the elder walk: nothing of WalkKit is imported here). -/
import Derived.Test.YtomdbmjfehoodaaGreatDoorChecked
import Derived.Lib.Strings
import Derived.Lib.Slices
import Derived.Lib.Small
import Derived.Lib.Walk
import Derived.Lib.BitFns
set_option maxRecDepth 8000
namespace Go.Proofs.YtomdbmjfehoodaaGreatDoor

theorem byte_len (b x : Int) (n : Nat) (h0 : 0 ≤ b) (h1 : b ≤ 255) (e : b.toNat = x.toNat / 2 ^ n) (hs : Lib.bitLen x.toNat = n + Lib.bitLen (x.toNat / 2 ^ n)) :
    Lib.len8 b = (Lib.bitLen x.toNat : Int) - n ∧ Lib.bitLen b.toNat ≤ 8 := by
  have l := Lib.bitLen_le8' b h0 h1
  rw [Lib.len8_of b h0 h1, e]
  rw [e] at l
  omega

set_option maxRecDepth 100000 in
set_option maxHeartbeats 1000000 in
theorem len64_small (x : Int) (w : World) (h0 : 0 ≤ x) (h1 : x ≤ 16777215) :
    Calls Tryz.prog 142 #[.int .u64 x] w fun e w' => e = .returned (.int .i64 (Lib.bitLen x.toNat)) ∧ w' = w := by
  go_enter Tryz.func142, Tryz.ntmps142
  go_wp2
  all_goals (go_ret; refine ⟨congrArg Ending.returned (congrArg (Value.int IntKind.i64) ?_), rfl⟩)
  · obtain ⟨e, l⟩ := byte_len (x / 65536 % 256) x 16 (by omega) (by omega) (by omega) (Lib.bitLen_shift 16 _ (by omega) (by omega))
    rw [e]
    rw [Lib.len8_of _ (by omega) (by omega)] at e
    omega
  · obtain ⟨e, l⟩ := byte_len (x / 256 % 256) x 8 (by omega) (by omega) (by omega) (Lib.bitLen_shift 8 _ (by omega) (by omega))
    rw [e]
    rw [Lib.len8_of _ (by omega) (by omega)] at e
    omega
  · obtain ⟨e, l⟩ := byte_len (x % 256) x 0 (by omega) (by omega) (by omega) (by simp)
    rw [e]
    rw [Lib.len8_of _ (by omega) (by omega)] at e
    omega

end Go.Proofs.YtomdbmjfehoodaaGreatDoor
