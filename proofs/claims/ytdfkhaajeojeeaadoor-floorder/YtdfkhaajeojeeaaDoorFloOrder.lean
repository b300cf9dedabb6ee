/- Law FloOrder of package overtonelaw03 returns true for all numbers a, b and doubles f, g, and they read behind the call as before: of lesser numbers no greater floats are nearest; floats stand as their numbers do. Conditions: the tables of math/bits, flo.infinity and flo.notNumber hold what the program's text lays there (tied by the card). -/
import Derived.Test.YtdfkhaajeojeeaaDoorWFloOrder
import Derived.Test.YtdfkhaajeojeeaaDoorFlT
import Derived.Test.YtdfkhaajeojeeaaDoorCards
import Derived.Test.YtdfkhaajeojeeaaDoorTie
import Derived.SevenTiedAt
namespace Go.Proofs.YtdfkhaajeojeeaaDoor
open Go.ChangeShapes Go.WideShapes Go.ChangeAt Go.RowKit
set_option linter.unusedVariables false

set_option maxRecDepth 100000 in
theorem lifted_FloOrder (os : Os) (started : os.Started) (H : Type) (enc : TypeId × Value → H) :
    ReturnsInHanded {} Tryd.checked os 6 .any (fun w args => (Rows.floOrderSpec.pre enc Tryd.prog Tryd.f6 [] false w args ∧ laidMetH Tryd.prog laidFlo w) ∧ sizedMet enc Tryd.prog Tryd.f6 (OpenSpec.ofChange Rows.floOrderSpec) false w args)
      (Rows.floOrderSpec.post enc Tryd.prog Tryd.f6 false true false false) := by
  refine returnsInHanded_of_change_and (C := Tryd.checked) (X := fun w _ => laidMetH Tryd.prog laidFlo w) (fun _ _ _ hh h => h.of_heap hh) own started (by kernel_rfl) Tryd.func6
    (ChangeSpec.witness_shaped (enc := enc) (C := Tryd.checked) (os := os) (X := fun w _ => laidMetH Tryd.prog laidFlo w) false (World.doorLaid Tryd.prog 400 os) #[.agg #[.bool false, .slice none 0 0, .int .i64 0], .agg #[.bool false, .slice none 0 0, .int .i64 0], .float .f64 0, .float .f64 0] 8 rfl (World.shaped_of_RefB (by kernel_rfl) (by kernel_rfl)) (by kernel_rfl) (by kernel_rfl) (by kernel_rfl) (doorF_met os _)) ?_
  intro W base args ds gs before hval0 hW _ _ hL _
  have hval : ∀ (j : Nat) t v, Tryd.f6.params[j]? = some t → args[j]? = some v → Value.okWide Tryd.prog W .any base t v := hval0
  have hW' := hW
  obtain ⟨p, q, hA0, hV, rfl, hfz, hnd⟩ := hW
  have hA : DataW.TrodAll enc Tryd.prog W 0 (fun _ => true) true Tryd.f6.params.toList args.toList ds p := hA0
  rw [Tryd.params6] at hA hval
  obtain ⟨v0, vs0, d0, ds0, p0, q0, hargs, rfl, rfl, h0, r0⟩ := trodAll_cons hA
  obtain ⟨v1, vs1, d1, ds1, p1, q1, rfl, rfl, rfl, h1, r1⟩ := trodAll_cons r0
  obtain ⟨v2, vs2, d2, ds2, p2, q2, rfl, rfl, rfl, h2, r2⟩ := trodAll_cons r1
  obtain ⟨v3, vs3, d3, ds3, p3, q3, rfl, rfl, rfl, h3, r3⟩ := trodAll_cons r2
  obtain ⟨rfl, rfl, rfl⟩ := trodAll_nil r3
  obtain rfl : args = #[v0, v1, v2, v3] := by cases args; simp_all
  obtain ⟨rfl, rfl⟩ := trodVars_none hV
  have bk0 := fun {W2 : World} (b : Ext W W2) => dya_back h0 b
  obtain ⟨nb0, M0, x0, i0, rfl, row0, bd0⟩ := dya_in (hval 0 25 v0 rfl rfl) h0
  have bk1 := fun {W2 : World} (b : Ext W W2) => dya_back h1 b
  obtain ⟨nb1, M1, x1, i1, rfl, row1, bd1⟩ := dya_in (hval 1 25 v1 rfl rfl) h1
  obtain ⟨a2, rfl, rfl, rfl, wf2⟩ := open_float Tryd.underlying22 (hval 2 22 v2 rfl rfl) h2
  obtain ⟨a3, rfl, rfl, rfl, wf3⟩ := open_float Tryd.underlying22 (hval 3 22 v3 rfl rfl) h3
  have T := tg_of_laid hL
  clear hA0 hval0 hL
  refine (walk_FloOrder W T nb0 M0 x0 i0 row0 bd0 nb1 M1 x1 i1 row1 bd1 a2 (float_lt wf2) a3 (float_lt wf3)).mono fun e W' ⟨he, bel⟩ => ?_
  subst he
  exact ⟨_, rfl, _, _, _, [], _, [], hW', trodAll_mk1 (shut_bool Tryd.underlying4 _), (trodAll_cons_mk (bk0 bel) (trodAll_cons_mk (bk1 bel) (trodAll_cons_mk (shut_float Tryd.underlying22 wf2) (trodAll_cons_mk (shut_float Tryd.underlying22 wf3) trodAll_mk0)))), rfl, bel.frame _, fun h => by cases h⟩

theorem row_FloOrder : Rows.FloOrderSaid :=
  OpenClaim.holds_of_wide 6 Tryd.f6 rfl rfl rfl rfl rfl rfl rfl ⟨rfl, rfl, rfl, rfl, rfl⟩ rfl rfl rfl rfl rfl (by kernel_rfl) Tryd.func6 (by kernel_rfl)
    (of_decide_eq_true (by kernel_rfl)) (by unfold Func.isWrapper; first | (rw [if_pos (by decide +kernel)]; kernel_rfl) | (rw [if_neg (by decide +kernel)]; exact ⟨rfl, rfl⟩))
    (fun os started H enc _ => lifted_FloOrder os started H enc)
theorem proved_FloOrder : Rows.FloOrderCardSaid :=
  Claim7.holds_tied_plain_at .later [] [.data, .data, .wider, .data] true (true, "179c0d1614b2110091efbf55cd2188cab22a2f799c729c3fde09ba81ba91a4dc") false
    row_FloOrder (fun _ h => by cases h) (by kernel_rfl) (fun _ h => by cases h) floOrder_row_tie rfl ⟨rfl, rfl⟩ (by kernel_rfl) rfl
    (fun f fn hf hfn => by
      obtain rfl : f = 6 := Option.some.inj ((show Tryd.prog.funcNamed "overtone/overtonelaw03.FloOrder" = some 6 by kernel_rfl).symm.trans hf) |>.symm
      obtain rfl : fn = Tryd.f6 := (Option.some.inj (Tryd.func6.symm.trans hfn)).symm
      exact ⟨by kernel_rfl, fun j t ht => by
        rw [Tryd.params6] at ht
        have hm : t ∈ [25, 25, 22, 22] := by simpa using Array.mem_of_getElem? ht
        have hall : ([25, 25, 22, 22].all fun u => !Tryd.prog.wantsStandIn u) = true := by kernel_rfl
        exact (show Tryd.prog.wantsStandIn t = false by simpa using List.all_eq_true.1 hall t hm)⟩)
    (by kernel_rfl)
#print axioms proved_FloOrder

end Go.Proofs.YtdfkhaajeojeeaaDoor
