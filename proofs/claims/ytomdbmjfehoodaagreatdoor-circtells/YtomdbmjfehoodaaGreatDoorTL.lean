/- Head of the laws on angles. -/
import Derived.Test.YtomdbmjfehoodaaGreatDoorMU
import Derived.Laws.StructEq
set_option maxRecDepth 8000
namespace Go.Proofs.YtomdbmjfehoodaaGreatDoor
open Go.RowKit
set_option linter.unusedVariables false
/-- The tables lie as they were laid. -/
structure Tu (w : World) : Prop where
  tb : Tb w
  pl : Pl w
theorem Tu.ext {w w' : World} (h : Tu w) (E : Ext w w') : Tu w' := ⟨h.tb.ext E, h.pl.ext E⟩
theorem tplace_lit (w : World) (P : Pl w) (e : Int) (a b c : Bool) (ha : plSwap e = a) (hb : plCos e = b) (hc : plSin e = c) : Calls Tryz.prog 75 #[.int .i64 e] w (RetE w (.tuple #[.bool a, .bool b, .bool c])) := by
  subst ha hb hc; exact tplace_any w P e
/-- Angles in their form, by numbers. -/
theorem fm_num {v k : Int} {q : Nat} (h : k % 2 = 1 ∧ 0 < k ∧ k < 2 ^ q ∧ q ≤ 40 ∧ v = k * 2 ^ (40 - q)) : Fm v k q := ⟨.inr h⟩
end Go.Proofs.YtomdbmjfehoodaaGreatDoor
