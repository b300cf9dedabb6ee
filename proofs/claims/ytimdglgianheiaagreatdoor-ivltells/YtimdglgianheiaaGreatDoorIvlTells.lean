/- IvlTells, lifted to its row. -/
import Derived.Test.YtimdglgianheiaaGreatDoorWIvlTells
import Derived.Test.YtimdglgianheiaaGreatDoorFlI
import Derived.Test.YtimdglgianheiaaGreatDoorCards
import Derived.Test.YtimdglgianheiaaGreatDoorTie
import Derived.SevenTiedAt
namespace Go.Proofs.YtimdglgianheiaaGreatDoor
open Go.ChangeShapes Go.WideShapes Go.ChangeAt Go.RowKit
set_option linter.unusedVariables false

set_option maxRecDepth 100000 in
theorem lifted_IvlTells (os : Os) (started : os.Started) (H : Type) (enc : TypeId × Value → H) :
    ReturnsInHanded {} Tryz.checked os 3 .any (fun w args => (Rows.ivlTellsSpec.pre enc Tryz.prog Tryz.f3 [] false w args ∧ laidMetH Tryz.prog laidBits w) ∧ sizedMet enc Tryz.prog Tryz.f3 (OpenSpec.ofChange Rows.ivlTellsSpec) false w args)
      (Rows.ivlTellsSpec.post enc Tryz.prog Tryz.f3 false true false false) := by
  refine returnsInHanded_of_change_and (C := Tryz.checked) (X := fun w _ => laidMetH Tryz.prog laidBits w) (fun _ _ _ hh h => h.of_heap hh) own started (by kernel_rfl) Tryz.func3
    (ChangeSpec.witness_shaped (enc := enc) (C := Tryz.checked) (os := os) (X := fun w _ => laidMetH Tryz.prog laidBits w) false (World.doorLaid Tryz.prog 400 os) #[.agg #[.bool false, .slice none 0 0, .int .i64 0, .bool false, .slice none 0 0, .int .i64 0], .agg #[.bool false, .slice none 0 0, .int .i64 0, .bool false, .slice none 0 0, .int .i64 0], .agg #[.bool false, .slice none 0 0, .int .i64 0, .bool false, .slice none 0 0, .int .i64 0], .agg #[.bool false, .slice none 0 0, .int .i64 0], .int .u8 0, .int .i64 0] 8 rfl (World.shaped_of_RefB (by kernel_rfl) (by kernel_rfl)) (by kernel_rfl) (by kernel_rfl) (by kernel_rfl) (door_met os _)) ?_
  intro W base args ds gs before hval0 hW _ _ hL _
  have hval : ∀ (j : Nat) t v, Tryz.f3.params[j]? = some t → args[j]? = some v → Value.okWide Tryz.prog W .any base t v := hval0
  have hW' := hW
  obtain ⟨p, q, hA0, hV, rfl, hfz, hnd⟩ := hW
  have hA : DataW.TrodAll enc Tryz.prog W 0 (fun _ => true) true Tryz.f3.params.toList args.toList ds p := hA0
  rw [Tryz.params3] at hA hval
  obtain ⟨v0, vs0, d0, ds0, p0, q0, hargs, rfl, rfl, h0, r0⟩ := trodAll_cons hA
  obtain ⟨v1, vs1, d1, ds1, p1, q1, rfl, rfl, rfl, h1, r1⟩ := trodAll_cons r0
  obtain ⟨v2, vs2, d2, ds2, p2, q2, rfl, rfl, rfl, h2, r2⟩ := trodAll_cons r1
  obtain ⟨v3, vs3, d3, ds3, p3, q3, rfl, rfl, rfl, h3, r3⟩ := trodAll_cons r2
  obtain ⟨v4, vs4, d4, ds4, p4, q4, rfl, rfl, rfl, h4, r4⟩ := trodAll_cons r3
  obtain ⟨v5, vs5, d5, ds5, p5, q5, rfl, rfl, rfl, h5, r5⟩ := trodAll_cons r4
  obtain ⟨rfl, rfl, rfl⟩ := trodAll_nil r5
  obtain rfl : args = #[v0, v1, v2, v3, v4, v5] := by cases args; simp_all
  obtain ⟨rfl, rfl⟩ := trodVars_none hV
  have bk0 := fun {W2 : World} (b : Ext W W2) => ivl_back h0 b
  obtain ⟨nb0, M0, x0, i0, nb0', M0', x0', i0', rfl, row0, bd0, row0', bd0'⟩ := ivl_in (hval 0 26 v0 rfl rfl) h0
  have bk1 := fun {W2 : World} (b : Ext W W2) => ivl_back h1 b
  obtain ⟨nb1, M1, x1, i1, nb1', M1', x1', i1', rfl, row1, bd1, row1', bd1'⟩ := ivl_in (hval 1 26 v1 rfl rfl) h1
  have bk2 := fun {W2 : World} (b : Ext W W2) => ivl_back h2 b
  obtain ⟨nb2, M2, x2, i2, nb2', M2', x2', i2', rfl, row2, bd2, row2', bd2'⟩ := ivl_in (hval 2 26 v2 rfl rfl) h2
  have bk3 := fun {W2 : World} (b : Ext W W2) => dya_back h3 b
  obtain ⟨nb3, M3, x3, i3, rfl, row3, bd3⟩ := dya_in (hval 3 24 v3 rfl rfl) h3
  obtain ⟨a4, rfl, rfl, rfl, wf4⟩ := open_int Tryz.underlying5 (hval 4 5 v4 rfl rfl) h4
  obtain ⟨a5, rfl, rfl, rfl, wf5⟩ := open_int Tryz.underlying3 (hval 5 3 v5 rfl rfl) h5
  have T := tb_of_laid hL
  clear hA0 hval0 hL
  refine (walk_IvlTells W T nb0 M0 x0 i0 row0 bd0 nb0' M0' x0' i0' row0' bd0' nb1 M1 x1 i1 row1 bd1 nb1' M1' x1' i1' row1' bd1' nb2 M2 x2 i2 row2 bd2 nb2' M2' x2' i2' row2' bd2' nb3 M3 x3 i3 row3 bd3 a4 (bounds_u8 wf4) a5 (bounds_i64 wf5)).mono fun e W' ⟨he, bel⟩ => ?_
  subst he
  exact ⟨_, rfl, _, _, _, [], _, [], hW', trodAll_mk1 (shut_bool Tryz.underlying4 _), (trodAll_cons_mk (bk0 bel) (trodAll_cons_mk (bk1 bel) (trodAll_cons_mk (bk2 bel) (trodAll_cons_mk (bk3 bel) (trodAll_cons_mk (shut_int Tryz.underlying5 wf4) (trodAll_cons_mk (shut_int Tryz.underlying3 wf5) trodAll_mk0)))))), rfl, bel.frame _, fun h => by cases h⟩

theorem row_IvlTells : Rows.IvlTellsSaid :=
  OpenClaim.holds_of_wide 3 Tryz.f3 rfl rfl rfl rfl rfl rfl rfl ⟨rfl, rfl, rfl, rfl, rfl⟩ rfl rfl rfl rfl rfl (by kernel_rfl) Tryz.func3 (by kernel_rfl)
    (of_decide_eq_true (by kernel_rfl)) (by unfold Func.isWrapper; first | (rw [if_pos (by decide +kernel)]; kernel_rfl) | (rw [if_neg (by decide +kernel)]; exact ⟨rfl, rfl⟩))
    (fun os started H enc _ => lifted_IvlTells os started H enc)
theorem proved_IvlTells : Rows.IvlTellsCardSaid :=
  Claim7.holds_tied_plain_at .later [] [.data, .data] true (true, "98809a45eca6746e0b71c31ceb2f5015c45f5e1f0e56b137dbb983ea668369ec") false
    row_IvlTells (fun _ h => by cases h) (by kernel_rfl) (fun _ h => by cases h) ivlTells_row_tie rfl ⟨rfl, rfl⟩ (by kernel_rfl) rfl
    (fun f fn hf hfn => by
      obtain rfl : f = 3 := Option.some.inj ((show Tryz.prog.funcNamed "overtone/overtonelaw05.IvlTells" = some 3 by kernel_rfl).symm.trans hf) |>.symm
      obtain rfl : fn = Tryz.f3 := (Option.some.inj (Tryz.func3.symm.trans hfn)).symm
      exact ⟨by kernel_rfl, fun j t ht => by
        rw [Tryz.params3] at ht
        have hm : t ∈ [26, 26, 26, 24, 5, 3] := by simpa using Array.mem_of_getElem? ht
        have hall : ([26, 26, 26, 24, 5, 3].all fun u => !Tryz.prog.wantsStandIn u) = true := by kernel_rfl
        exact (show Tryz.prog.wantsStandIn t = false by simpa using List.all_eq_true.1 hall t hm)⟩)
    (by kernel_rfl)
#print axioms proved_IvlTells

end Go.Proofs.YtimdglgianheiaaGreatDoor
