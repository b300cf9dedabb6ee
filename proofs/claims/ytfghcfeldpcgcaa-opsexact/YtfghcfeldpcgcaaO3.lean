/- Walks of package ops: Add, Sub, Mul, Root; math.NaN. -/
import Derived.Test.YtfghcfeldpcgcaaO2
namespace Go.Proofs.Ytfghcfeldpcgcaa
open Go.RowKit
set_option linter.unusedVariables false

/-- It returned a double of which P is said. -/
def RetW (w : World) (P : Nat → Prop) (e : Ending) (w' : World) : Prop := ∃ c, e = .returned (.float .f64 c) ∧ c < 18446744073709551616 ∧ P c ∧ Ext w w'
/-- It returned just that double. -/
def RetC (w : World) (c : Nat) (e : Ending) (w' : World) : Prop := e = .returned (.float .f64 c) ∧ w = w'
/-- It returned a double that is none. -/
def RetX (w : World) (e : Ending) (w' : World) : Prop := ∃ c, e = .returned (.float .f64 c) ∧ c < 18446744073709551616 ∧ Nan64 c ∧ Ext w w'
/-- The word that is drawn. -/
def drawnNan (w : World) (x y : Nat) : Nat := (Question.nanBits .f64 x y).cut (w.tape w.drawn (Question.nanBits .f64 x y))
theorem drawn_nan (w : World) (x y : Nat) : Nan64 (drawnNan w x y) ∧ drawnNan w x y < 18446744073709551616 := by
  unfold drawnNan
  simp only [Question.cut]
  generalize w.tape w.drawn (Question.nanBits .f64 x y) = t
  have h1 : (t / 2) % (2 ^ 52 - 1) < 4503599627370495 := Nat.mod_lt _ (by omega)
  have h2 : t % 2 < 2 := Nat.mod_lt _ (by omega)
  generalize (t / 2) % (2 ^ 52 - 1) = p at *
  generalize t % 2 = q at *
  refine ⟨⟨?_⟩, by omega⟩
  unfold frung
  omega
theorem run_nan (w : World) (op : BinOp) (t : TypeId) (x y : Nat) (h : (op = .add ∧ Ieee.double.add x y = none) ∨ (op = .mul ∧ Ieee.double.mul x y = none)) : (binOp op t (.float .f64 x) (.float .f64 y)).run Try.prog w = .ok (.float .f64 (drawnNan w x y)) w.drew := by
  have hf : FloatKind.f64.format = Ieee.double := rfl
  rcases h with ⟨rfl, h⟩ | ⟨rfl, h⟩
  · simp [binOp, Op.floatArith, hf, h, Question.forced, drawnNan]
  · simp [binOp, Op.floatArith, hf, h, Question.forced, drawnNan]
theorem addp_word (w : World) (x y r : Nat) (h : Ieee.double.add x y = some r) : Calls Try.prog 11 #[.float .f64 x, .float .f64 y] w (RetC w r) := by
  have hadd : ∀ w' : World, (binOp .add 22 (.float .f64 x) (.float .f64 y)).run Try.prog w' = .ok (.float .f64 r) w' := fun w' => run_float_arith w' .add _ .f64 _ _ _ h
  clear h
  go_enter Try.func11, Try.ntmps11
  go_wp2
  go_ret
  exact ⟨rfl, rfl⟩
theorem addp_none (w : World) (x y : Nat) (h : Ieee.double.add x y = none) : Calls Try.prog 11 #[.float .f64 x, .float .f64 y] w (RetX w) := by
  have hadd : ∀ w' : World, (binOp .add 22 (.float .f64 x) (.float .f64 y)).run Try.prog w' = .ok (.float .f64 (drawnNan w' x y)) w'.drew := fun w' => run_nan w' .add _ _ _ (.inl ⟨rfl, h⟩)
  clear h
  go_enter Try.func11, Try.ntmps11
  go_wp2
  go_ret
  exact ⟨_, rfl, (drawn_nan _ _ _).2, (drawn_nan _ _ _).1, (Ext.refl w).drew⟩
theorem mulp_word (w : World) (x y r : Nat) (h : Ieee.double.mul x y = some r) : Calls Try.prog 15 #[.float .f64 x, .float .f64 y] w (RetC w r) := by
  have hadd : ∀ w' : World, (binOp .mul 22 (.float .f64 x) (.float .f64 y)).run Try.prog w' = .ok (.float .f64 r) w' := fun w' => run_float_arith w' .mul _ .f64 _ _ _ h
  clear h
  go_enter Try.func15, Try.ntmps15
  go_wp2
  go_ret
  exact ⟨rfl, rfl⟩
theorem mulp_none (w : World) (x y : Nat) (h : Ieee.double.mul x y = none) : Calls Try.prog 15 #[.float .f64 x, .float .f64 y] w (RetX w) := by
  have hadd : ∀ w' : World, (binOp .mul 22 (.float .f64 x) (.float .f64 y)).run Try.prog w' = .ok (.float .f64 (drawnNan w' x y)) w'.drew := fun w' => run_nan w' .mul _ _ _ (.inr ⟨rfl, h⟩)
  clear h
  go_enter Try.func15, Try.ntmps15
  go_wp2
  go_ret
  exact ⟨_, rfl, (drawn_nan _ _ _).2, (drawn_nan _ _ _).1, (Ext.refl w).drew⟩
theorem addp_any (w : World) (x y : Nat) : Calls Try.prog 11 #[.float .f64 x, .float .f64 y] w (RetW w (AddS x y)) := by
  rcases add_all x y with ⟨b, h, hs⟩ | ⟨h, hs⟩
  · exact (addp_word w x y b h).mono fun e w' ⟨he, hw⟩ => ⟨b, he, Ieee.Format.add_lt _ h, hs, by rw [← hw]; exact Ext.refl _⟩
  · exact (addp_none w x y h).mono fun e w' ⟨c, he, hc, hn, hE⟩ => ⟨c, he, hc, hs c hn, hE⟩
theorem mulp_any (w : World) (x y : Nat) : Calls Try.prog 15 #[.float .f64 x, .float .f64 y] w (RetW w (MulS x y)) := by
  rcases mul_all x y with ⟨b, h, hs⟩ | ⟨h, hs⟩
  · exact (mulp_word w x y b h).mono fun e w' ⟨he, hw⟩ => ⟨b, he, Ieee.Format.mul_lt _ h, hs, by rw [← hw]; exact Ext.refl _⟩
  · exact (mulp_none w x y h).mono fun e w' ⟨c, he, hc, hn, hE⟩ => ⟨c, he, hc, hs c hn, hE⟩
/-- c is what is left of a, b taken off. -/
def SubS (a b c : Nat) : Prop := ∃ b', frung b' = frung b ∧ fneg b' = (!fneg b) ∧ AddS a b' c
theorem subp_any (w : World) (x y : Nat) (hy : y < 18446744073709551616) : Calls Try.prog 13 #[.float .f64 x, .float .f64 y] w (RetW w (SubS x y)) := by
  obtain ⟨y', hop, h1, h2, h3⟩ := opp_word y hy
  have HA := Lib.hid (fun w' => addp_any w' x y')
  have HS := Lib.hid (And.intro h1 h2)
  clear h1 h2 h3 hy
  go_enter Try.func13, Try.ntmps13
  go_wp2_with fail
  refine (HA.out _).mono ?_
  rintro _ w1 ⟨c, rfl, hc, hs, e1⟩
  go_wp2
  go_ret
  exact ⟨c, rfl, hc, ⟨y', HS.out.1, HS.out.2, hs⟩, e1⟩
theorem sqrt_call (x : Nat) (w : World) : (callFunc 51 #[.float .f64 x]).run Try.prog w = (((Ieee.double.sqrt x).elim (Sem.bind (choose (.nanBits .f64 x x)) fun n => Sem.pure (.float .f64 n)) fun r => Sem.pure (Value.float .f64 r)).bind fun v => Sem.pure (.value v)).run Try.prog w := by kernel_rfl
theorem sqrt_run (x r : Nat) (h : Ieee.double.sqrt x = some r) (w : World) : (callFunc 51 #[.float .f64 x]).run Try.prog w = .ok (.value (.float .f64 r)) w := by
  rw [sqrt_call, h]
  rfl
theorem sqrt_nan (x : Nat) (h : Ieee.double.sqrt x = none) (w : World) : (callFunc 51 #[.float .f64 x]).run Try.prog w = .ok (.value (.float .f64 (drawnNan w x x))) w.drew := by
  rw [sqrt_call, h]
  rfl
theorem Sqrt_word (w : World) (x r : Nat) (h : Ieee.double.sqrt x = some r) : Calls Try.prog 34 #[.float .f64 x] w (RetC w r) := by
  have hs := sqrt_run x r h
  clear h
  go_enter Try.func34, Try.ntmps34
  go_wp2
  go_ret
  exact ⟨rfl, rfl⟩
theorem Sqrt_none (w : World) (x : Nat) (h : Ieee.double.sqrt x = none) : Calls Try.prog 34 #[.float .f64 x] w (RetX w) := by
  have hs := sqrt_nan x h
  clear h
  go_enter Try.func34, Try.ntmps34
  go_wp2
  go_ret
  exact ⟨_, rfl, (drawn_nan _ _ _).2, (drawn_nan _ _ _).1, (Ext.refl w).drew⟩
theorem rootp_word (w : World) (x r : Nat) (h : Ieee.double.sqrt x = some r) : Calls Try.prog 17 #[.float .f64 x] w (RetC w r) := by
  have HS := Lib.hid (fun w' => Sqrt_word w' x r h)
  clear h
  go_enter Try.func17, Try.ntmps17
  go_wp2_with fail
  refine (HS.out _).mono ?_
  rintro _ _ ⟨rfl, rfl⟩
  go_wp2
  go_ret
  exact ⟨rfl, rfl⟩
theorem rootp_none (w : World) (x : Nat) (h : Ieee.double.sqrt x = none) : Calls Try.prog 17 #[.float .f64 x] w (RetX w) := by
  have HS := Lib.hid (fun w' => Sqrt_none w' x h)
  clear h
  go_enter Try.func17, Try.ntmps17
  go_wp2_with fail
  refine (HS.out _).mono ?_
  rintro _ w1 ⟨c, rfl, hc, hn, e1⟩
  go_wp2
  go_ret
  exact ⟨c, rfl, hc, hn, e1⟩
theorem rootp_any (w : World) (x : Nat) : Calls Try.prog 17 #[.float .f64 x] w (RetW w (RootS x)) := by
  rcases sqrt_all x with ⟨b, h, hs⟩ | ⟨h, hs⟩
  · exact (rootp_word w x b h).mono fun e w' ⟨he, hw⟩ => ⟨b, he, Ieee.Format.sqrt_lt _ h, hs, by rw [← hw]; exact Ext.refl _⟩
  · exact (rootp_none w x h).mono fun e w' ⟨c, he, hc, hn, hE⟩ => ⟨c, he, hc, hs c hn, hE⟩
theorem nan_run (w : World) : Calls Try.prog 32 #[] w (RetC w 9221120237041090561) := by
  have hff := ffrom_run
  go_enter Try.func32, Try.ntmps32
  go_wp2
  go_ret
  exact ⟨rfl, rfl⟩
theorem nan_word : Nan64 9221120237041090561 := ⟨by decide⟩

end Go.Proofs.Ytfghcfeldpcgcaa
