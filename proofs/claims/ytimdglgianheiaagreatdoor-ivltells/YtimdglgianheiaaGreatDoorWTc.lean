/- The walk of IvlTells: no roots. -/
import Derived.Test.YtimdglgianheiaaGreatDoorPI
namespace Go.Proofs.YtimdglgianheiaaGreatDoor
open Go.RowKit
set_option linter.unusedVariables false
set_option maxRecDepth 100000 in
set_option maxHeartbeats 16000000 in
theorem tells_neg (w : World) (T : Tb w) (nbz : Bool) (Mz : Value) (xz : List Int) (iz : Int) (rowz : Row w Mz xz) (bdz : -9223372036854775808 ≤ iz ∧ iz ≤ 9223372036854775807) (nbz' : Bool) (Mz' : Value) (xz' : List Int) (iz' : Int) (rowz' : Row w Mz' xz') (bdz' : -9223372036854775808 ≤ iz' ∧ iz' ≤ 9223372036854775807) (nba : Bool) (Ma : Value) (xa : List Int) (ia : Int) (rowa : Row w Ma xa) (bda : -9223372036854775808 ≤ ia ∧ ia ≤ 9223372036854775807) (nba' : Bool) (Ma' : Value) (xa' : List Int) (ia' : Int) (rowa' : Row w Ma' xa') (bda' : -9223372036854775808 ≤ ia' ∧ ia' ≤ 9223372036854775807) (nbb : Bool) (Mb : Value) (xb : List Int) (ib : Int) (rowb : Row w Mb xb) (bdb : -9223372036854775808 ≤ ib ∧ ib ≤ 9223372036854775807) (nbb' : Bool) (Mb' : Value) (xb' : List Int) (ib' : Int) (rowb' : Row w Mb' xb') (bdb' : -9223372036854775808 ≤ ib' ∧ ib' ≤ 9223372036854775807) (nbe : Bool) (Me : Value) (xe : List Int) (ie : Int) (rowe : Row w Me xe) (bde : -9223372036854775808 ≤ ie ∧ ie ≤ 9223372036854775807) (n : Int) (bn : 0 ≤ n ∧ n ≤ 255) (k : Int) (bk : -9223372036854775808 ≤ k ∧ k ≤ 9223372036854775807) (g0 : ¬ (70 : Int) < (xz.length : Int)) (g1 : ¬ (70 : Int) < (xz'.length : Int)) (g2 : ¬ (7000 : Int) < iz) (g3 : ¬ iz < (-7000 : Int)) (g4 : ¬ (7000 : Int) < iz') (g5 : ¬ iz' < (-7000 : Int)) (hg : goodIs 2 (pk nba nbb nbb) (pk xa xb xb) (pk ia ib ib) (pk nba' nbb' nbb') (pk xa' xb' xb') (pk ia' ib' ib') = true) (hd : goodAll 1 (pk nbe nbe nbe) (pk xe xe xe) (pk ie ie ie) = true) (hk0 : ¬ k < -500) (hk1 : ¬ 500 < k) (la ha : Dyadic) (na : In w (.agg #[.bool nba, Ma, .int .i64 ia, .bool nba', Ma', .int .i64 ia']) la ha) (oa : la ≤ ha) (rla : Rg 200 392 la) (rha : Rg 200 392 ha) (lb hb : Dyadic) (nb : In w (.agg #[.bool nbb, Mb, .int .i64 ib, .bool nbb', Mb', .int .i64 ib']) lb hb) (ob : lb ≤ hb) (rlb : Rg 200 392 lb) (rhb : Rg 200 392 hb) (X : Dyadic) (nd : Dn w (.agg #[.bool nbe, Me, .int .i64 ie]) X) (rd : Rg 200 392 X) (c : Nat) (hcc : n % 60 + 1 = (c : Int)) (hc1 : 1 ≤ c) (hc2 : c ≤ 60) (za : la < 0) :
    Calls Tryz.prog 3 #[.agg #[.bool nbz, Mz, .int .i64 iz, .bool nbz', Mz', .int .i64 iz'], .agg #[.bool nba, Ma, .int .i64 ia, .bool nba', Ma', .int .i64 ia'], .agg #[.bool nbb, Mb, .int .i64 ib, .bool nbb', Mb', .int .i64 ib'], .agg #[.bool nbe, Me, .int .i64 ie], .int .u8 n, .int .i64 k] w (RetE w (.bool true)) := by
  obtain ⟨Az, cz, rfl, hz1, hz2, hz3⟩ := id rowz
  obtain ⟨Az', cz', rfl, hz1', hz2', hz3'⟩ := id rowz'
  clear hz1 hz2 hz3 hz1' hz2' hz3'
  go_enter Tryz.func3, Tryz.ntmps3
  go_wp2_with fail
  refine (headI_any _ (T.ext (((((Ext.refl w).alloc _).alloc _).alloc _).alloc _))).mono ?_
  rintro _ w1 ⟨rfl, f1⟩
  have Bz : Bx w1 (w.heap.size) (.bool nbz) (.slice Az xz.length cz) (.int .i64 iz) (.bool nbz') (.slice Az' xz'.length cz') (.int .i64 iz') := Bx.at (((((Ext.refl _).alloc _).alloc _).alloc _).trans f1) (by simp)
  have Ba : Bx w1 (w.heap.size + 1) (.bool nba) (Ma) (.int .i64 ia) (.bool nba') (Ma') (.int .i64 ia') := Bx.at ((((Ext.refl _).alloc _).alloc _).trans f1) (by simp)
  have Bb : Bx w1 (w.heap.size + 1 + 1) (.bool nbb) (Mb) (.int .i64 ib) (.bool nbb') (Mb') (.int .i64 ib') := Bx.at (((Ext.refl _).alloc _).trans f1) (by simp)
  have Be : Box w1 (w.heap.size + 1 + 1 + 1) (.bool nbe) (Me) (.int .i64 ie) := Box.at ((Ext.refl _).trans f1) (by simp)
  have e1 : Ext w w1 := (((((Ext.refl w).alloc _).alloc _).alloc _).alloc _).trans f1
  replace T := T.ext e1
  replace rowz := rowz.ext e1
  replace rowz' := rowz'.ext e1
  replace rowa := rowa.ext e1
  replace rowa' := rowa'.ext e1
  replace rowb := rowb.ext e1
  replace rowb' := rowb'.ext e1
  replace rowe := rowe.ext e1
  replace na := na.ext e1
  replace nb := nb.ext e1
  replace nd := nd.ext e1
  have E1 : Ext w w1 := e1
  clear f1
  obtain ⟨Bz_0, Bz_1, Bz_2, Bz_3, Bz_4, Bz_5⟩ := id Bz
  have Bz_l := World.block_lt_of_cell? _ _ Bz_0
  have y0 : ¬ (70 : Int) < (xz.length : Int) := by omega
  have e0d : decide ((70 : Int) < (xz.length : Int)) = false := decide_eq_false y0
  have y1 : ¬ (70 : Int) < (xz'.length : Int) := by omega
  have e1d : decide ((70 : Int) < (xz'.length : Int)) = false := decide_eq_false y1
  have y2 : ¬ (7000 : Int) < iz := by omega
  have e2d : decide ((7000 : Int) < iz) = false := decide_eq_false y2
  have y3 : ¬ iz < (-7000 : Int) := by omega
  have e3d : decide (iz < (-7000 : Int)) = false := decide_eq_false y3
  have y4 : ¬ (7000 : Int) < iz' := by omega
  have e4d : decide ((7000 : Int) < iz') = false := decide_eq_false y4
  have y5 : ¬ iz' < (-7000 : Int) := by omega
  have e5d : decide (iz' < (-7000 : Int)) = false := decide_eq_false y5
  obtain ⟨bz_, hr1, hr2⟩ := right_both _ nbz Az xz.length cz xz iz nbz' Az' xz'.length cz' xz' iz' rowz rowz' bdz bdz'
  have HR1 := Lib.hid hr1
  have HR2 := Lib.hid hr2
  have hne : (bz_ != bz_) = false := by simp
  clear hr1 hr2 bdz bdz'
  clear rowz rowz'
  go_wp2
  refine wp_region_held_drew (S := (fun w' => (w'.cell? ⟨w.heap.size, 0, none⟩ = some (.bool nbz) ∧ w'.cell? ⟨w.heap.size, 1, none⟩ = some (.slice Az xz.length cz) ∧ w'.cell? ⟨w.heap.size, 2, none⟩ = some (.int .i64 iz) ∧ w'.cell? ⟨w.heap.size, 3, none⟩ = some (.bool nbz') ∧ w'.cell? ⟨w.heap.size, 4, none⟩ = some (.slice Az' xz'.length cz') ∧ w'.cell? ⟨w.heap.size, 5, none⟩ = some (.int .i64 iz')))) (by as_aux_lemma => kernel_rfl) (bx6 (Bz.ext (Ext.refl w1).drew)) (fun hHeld => ?_)
  refine wpAnyH_take (i := 0) (v := ?_) rfl (by as_aux_lemma => kernel_rfl) (by as_aux_lemma => kernel_rfl) (by as_aux_lemma => kernel_rfl) (fun _ _ _ h => h) (Or.inl ⟨by rfl, ?_⟩) (by assumption) ?_
  rotate_left
  · (intro w hSw; (try dsimp only at hSw); go_simp); (try with_reducible rfl)
  simp only [List.getElem_toArray, List.getElem_cons_zero, Act.put, List.setIfInBounds_toArray, List.set_cons_zero, List.set_cons_succ]
  refine wpAnyH_take (i := 2) (v := ?_) rfl (by as_aux_lemma => kernel_rfl) (by as_aux_lemma => kernel_rfl) (by as_aux_lemma => kernel_rfl) (fun _ _ _ h => h) (Or.inl ⟨by rfl, ?_⟩) (by assumption) ?_
  rotate_left
  · (intro w hSw; (try dsimp only at hSw); go_simp); (try with_reducible rfl)
  simp only [List.getElem_toArray, List.getElem_cons_zero, List.getElem_cons_succ, Act.put, List.setIfInBounds_toArray, List.set_cons_zero, List.set_cons_succ]
  refine wpAnyH_ready (rs := [1]) (by as_aux_lemma => kernel_rfl) (by simp) ?_
  refine AllReadyH.cons rfl (fun K hK => ?_) AllReadyH.nil
  go_simp
  refine (HR1.out _ (Ext.refl w1).drew).mono ?_
  rintro _ u1 ⟨rfl, eu1⟩
  have F1 : Ext w1 u1 := (Ext.refl w1).drew.trans eu1
  refine hK.out _ _ (bx6 (Bz.ext F1)) (fun hHeld => ?_)
  clear hK K eu1
  refine wpAnyH_ready (rs := [3]) (by as_aux_lemma => kernel_rfl) (by simp) ?_
  refine AllReadyH.cons rfl (fun K hK => ?_) AllReadyH.nil
  go_simp
  refine (HR2.out _ F1).mono ?_
  rintro _ u2 ⟨rfl, eu2⟩
  have F2 : Ext w1 u2 := F1.trans eu2
  refine hK.out _ _ (bx6 (Bz.ext F2)) (fun hHeld => ?_)
  clear hK K eu2 F1
  refine wpAnyH_take (i := 4) (v := ?_) rfl (by as_aux_lemma => kernel_rfl) (by as_aux_lemma => kernel_rfl) (by as_aux_lemma => kernel_rfl) (fun _ _ _ h => h) (Or.inl ⟨by rfl, ?_⟩) (by assumption) ?_
  rotate_left
  · (intro w hSw; (try dsimp only at hSw); go_simp); (try with_reducible rfl)
  simp only [List.getElem_toArray, List.getElem_cons_zero, List.getElem_cons_succ, Act.put, List.setIfInBounds_toArray, List.set_cons_zero, List.set_cons_succ]
  refine wpAnyH_done (by as_aux_lemma => kernel_rfl) ?_ _
  replace T := T.ext F2
  replace rowa := rowa.ext F2
  replace rowa' := rowa'.ext F2
  replace rowb := rowb.ext F2
  replace rowb' := rowb'.ext F2
  replace rowe := rowe.ext F2
  replace na := na.ext F2
  replace nb := nb.ext F2
  replace nd := nd.ext F2
  replace Bz := Bz.ext F2
  replace Ba := Ba.ext F2
  replace Bb := Bb.ext F2
  replace Be := Be.ext F2
  have E2x := E1.trans F2
  clear F2 E1 Bz_0 Bz_1 Bz_2 Bz_3 Bz_4 Bz_5 Bz_l hHeld
  clear HR1 HR2 hne Bz y0 e0d y1 e1d y2 e2d y3 e3d y4 e4d y5 e5d g0 g1 g2 g3 g4 g5
  obtain ⟨Ba_0, Ba_1, Ba_2, Ba_3, Ba_4, Ba_5⟩ := id Ba
  have Ba_l := World.block_lt_of_cell? _ _ Ba_0
  obtain ⟨Bb_0, Bb_1, Bb_2, Bb_3, Bb_4, Bb_5⟩ := id Bb
  have Bb_l := World.block_lt_of_cell? _ _ Bb_0
  have HG := Lib.hid (good5_any _ _ 2 2 _ _ _ _ _ _ _ _ (by omega) (manyI2 u2 26 nba nbb Ma Mb xa xb ia ib rowa rowb bda bdb nba' nbb' Ma' Mb' xa' xb' ia' ib' rowa' rowb' bda' bdb'))
  rw [hg] at HG
  clear hg
  go_wp2_with fail
  refine (HG.out).mono ?_
  rintro _ w3 ⟨rfl, f3⟩
  clear Ba_0 Ba_1 Ba_2 Ba_3 Ba_4 Ba_5 Ba_l Bb_0 Bb_1 Bb_2 Bb_3 Bb_4 Bb_5 Bb_l
  have e3 : Ext u2 w3 := ((Ext.refl u2).alloc _).trans f3
  replace T := T.ext e3
  replace rowa := rowa.ext e3
  replace rowa' := rowa'.ext e3
  replace rowb := rowb.ext e3
  replace rowb' := rowb'.ext e3
  replace rowe := rowe.ext e3
  replace na := na.ext e3
  replace nb := nb.ext e3
  replace nd := nd.ext e3
  replace Ba := Ba.ext e3
  replace Bb := Bb.ext e3
  replace Be := Be.ext e3
  have E3 : Ext w w3 := E2x.trans e3
  clear e3 f3 E2x
  clear HG
  clear rowa rowa' rowb rowb'
  clear bda bda' bdb bdb'
  obtain ⟨Be_0, Be_1, Be_2⟩ := id Be
  have Be_l := World.block_lt_of_cell? _ _ Be_0
  have HG := Lib.hid (good_any _ _ 1 1 _ _ _ _ (by omega) (many1 w3 24 nbe Me xe ie rowe bde))
  rw [hd] at HG
  clear hd
  go_wp2_with fail
  refine (HG.out).mono ?_
  rintro _ w4 ⟨rfl, f4⟩
  clear Be_0 Be_1 Be_2 Be_l
  have e4 : Ext w3 w4 := ((Ext.refl w3).alloc _).trans f4
  replace T := T.ext e4
  replace rowe := rowe.ext e4
  replace na := na.ext e4
  replace nb := nb.ext e4
  replace nd := nd.ext e4
  replace Ba := Ba.ext e4
  replace Bb := Bb.ext e4
  replace Be := Be.ext e4
  have E4 : Ext w w4 := E3.trans e4
  clear e4 f4 E3
  clear HG
  clear rowe
  clear bde
  have HQ := Lib.hid (And.intro (inside_dec (l := la) (h := ha) (l' := lb) (h' := hb) oa) True.intro)
  obtain ⟨h1, q1⟩ : ∃ h, hasB la ha X = h := ⟨_, rfl⟩
  obtain ⟨h2, q2⟩ : ∃ h, (hasB lb hb la && hasB lb hb ha) = h := ⟨_, rfl⟩
  have q3 := (inside_dec (l' := lb) (h' := hb) oa).symm.trans q2
  have HQ1 := Lib.hid q1
  have HQ2 := Lib.hid q2
  have HQ3 := Lib.hid q3
  have hq1 : (h1 == h1) = true := by simp
  have hq2 : (h2 == h2) = true := by simp
  clear q1 q2 q3 HQ oa ob
  obtain ⟨Ba_0, Ba_1, Ba_2, Ba_3, Ba_4, Ba_5⟩ := id Ba
  have Ba_l := World.block_lt_of_cell? _ _ Ba_0
  go_wp2_with fail
  refine (iroot_no _ _ la ha _ c (by first | rfl | omega) na za).mono ?_
  rintro _ w5 ⟨v5, rfl, ir, f5⟩
  clear Ba_0 Ba_1 Ba_2 Ba_3 Ba_4 Ba_5 Ba_l
  have e5 : Ext w4 w5 := (Ext.refl w4).trans f5
  replace T := T.ext e5
  replace na := na.ext e5
  replace nb := nb.ext e5
  replace nd := nd.ext e5
  replace Ba := Ba.ext e5
  replace Bb := Bb.ext e5
  replace Be := Be.ext e5
  have E5 : Ext w w5 := E4.trans e5
  clear e5 f5 E4
  obtain ⟨bir, Air, lir, cir, jir, bir', Air', lir', cir', jir', rfl, ir_l, ir_h⟩ := ir
  have ir := In.mk ir_l ir_h
  clear ir_l ir_h
  obtain ⟨Ba_0, Ba_1, Ba_2, Ba_3, Ba_4, Ba_5⟩ := id Ba
  have Ba_l := World.block_lt_of_cell? _ _ Ba_0
  go_wp2_with fail
  refine (riroot_no _ _ la ha _ c (by first | rfl | omega) (na.ext ((Ext.refl w5).alloc _)) za).mono ?_
  rintro _ w6 ⟨v6, rfl, is, f6⟩
  clear Ba_0 Ba_1 Ba_2 Ba_3 Ba_4 Ba_5 Ba_l
  have Vir : Bx w6 (w5.heap.size) (.bool bir) (.slice Air lir cir) (.int .i64 jir) (.bool bir') (.slice Air' lir' cir') (.int .i64 jir') := Bx.at ((Ext.refl _).trans f6) (by simp)
  have e6 : Ext w5 w6 := ((Ext.refl w5).alloc _).trans f6
  replace T := T.ext e6
  replace na := na.ext e6
  replace nb := nb.ext e6
  replace nd := nd.ext e6
  replace ir := ir.ext e6
  replace Ba := Ba.ext e6
  replace Bb := Bb.ext e6
  replace Be := Be.ext e6
  have E6 : Ext w w6 := E5.trans e6
  clear e6 f6 E5
  obtain ⟨bis, Ais, lis, cis, jis, bis', Ais', lis', cis', jis', rfl, is_l, is_h⟩ := is
  have is := In.mk is_l is_h
  clear is_l is_h
  go_wp2
  try simp only [List.append_eq, List.cons_append, List.nil_append]
  have Vis : Bx (w6.alloc (.cells #[.bool bis, .slice Ais lis cis, .int .i64 jis, .bool bis', .slice Ais' lis' cis', .int .i64 jis'] 26)) w6.heap.size (.bool bis) (.slice Ais lis cis) (.int .i64 jis) (.bool bis') (.slice Ais' lis' cis') (.int .i64 jis') := Bx.at (Ext.refl _) rfl
  have eV9 : Ext w6 (w6.alloc (.cells #[.bool bis, .slice Ais lis cis, .int .i64 jis, .bool bis', .slice Ais' lis' cis', .int .i64 jis'] 26)) := (Ext.refl _).alloc _
  replace T := T.ext eV9
  replace na := na.ext eV9
  replace nb := nb.ext eV9
  replace nd := nd.ext eV9
  replace ir := ir.ext eV9
  replace is := is.ext eV9
  replace Ba := Ba.ext eV9
  replace Bb := Bb.ext eV9
  replace Be := Be.ext eV9
  replace Vir := Vir.ext eV9
  have EV9 := E6.trans eV9
  clear eV9 E6
  generalize hgen : (w6.alloc (.cells #[.bool bis, .slice Ais lis cis, .int .i64 jis, .bool bis', .slice Ais' lis' cis', .int .i64 jis'] 26)) = V9 at *
  clear hgen
  obtain ⟨Ba_0, Ba_1, Ba_2, Ba_3, Ba_4, Ba_5⟩ := id Ba
  have Ba_l := World.block_lt_of_cell? _ _ Ba_0
  obtain ⟨Bb_0, Bb_1, Bb_2, Bb_3, Bb_4, Bb_5⟩ := id Bb
  have Bb_l := World.block_lt_of_cell? _ _ Bb_0
  obtain ⟨Be_0, Be_1, Be_2⟩ := id Be
  have Be_l := World.block_lt_of_cell? _ _ Be_0
  obtain ⟨Vir_0, Vir_1, Vir_2, Vir_3, Vir_4, Vir_5⟩ := id Vir
  have Vir_l := World.block_lt_of_cell? _ _ Vir_0
  obtain ⟨Vis_0, Vis_1, Vis_2, Vis_3, Vis_4, Vis_5⟩ := id Vis
  have Vis_l := World.block_lt_of_cell? _ _ Vis_0
  refine wp_region_held_drew (S := (fun w' => (w'.cell? ⟨w.heap.size + 1, 0, none⟩ = some (.bool nba) ∧ w'.cell? ⟨w.heap.size + 1, 1, none⟩ = some (Ma) ∧ w'.cell? ⟨w.heap.size + 1, 2, none⟩ = some (.int .i64 ia) ∧ w'.cell? ⟨w.heap.size + 1, 3, none⟩ = some (.bool nba') ∧ w'.cell? ⟨w.heap.size + 1, 4, none⟩ = some (Ma') ∧ w'.cell? ⟨w.heap.size + 1, 5, none⟩ = some (.int .i64 ia')) ∧ (w'.cell? ⟨w.heap.size + 1 + 1, 0, none⟩ = some (.bool nbb) ∧ w'.cell? ⟨w.heap.size + 1 + 1, 1, none⟩ = some (Mb) ∧ w'.cell? ⟨w.heap.size + 1 + 1, 2, none⟩ = some (.int .i64 ib) ∧ w'.cell? ⟨w.heap.size + 1 + 1, 3, none⟩ = some (.bool nbb') ∧ w'.cell? ⟨w.heap.size + 1 + 1, 4, none⟩ = some (Mb') ∧ w'.cell? ⟨w.heap.size + 1 + 1, 5, none⟩ = some (.int .i64 ib')) ∧ (w'.cell? ⟨w.heap.size + 1 + 1 + 1, 0, none⟩ = some (.bool nbe) ∧ w'.cell? ⟨w.heap.size + 1 + 1 + 1, 1, none⟩ = some (Me) ∧ w'.cell? ⟨w.heap.size + 1 + 1 + 1, 2, none⟩ = some (.int .i64 ie)) ∧ (w'.cell? ⟨w5.heap.size, 0, none⟩ = some (.bool bir) ∧ w'.cell? ⟨w5.heap.size, 1, none⟩ = some (.slice Air lir cir) ∧ w'.cell? ⟨w5.heap.size, 2, none⟩ = some (.int .i64 jir) ∧ w'.cell? ⟨w5.heap.size, 3, none⟩ = some (.bool bir') ∧ w'.cell? ⟨w5.heap.size, 4, none⟩ = some (.slice Air' lir' cir') ∧ w'.cell? ⟨w5.heap.size, 5, none⟩ = some (.int .i64 jir')) ∧ (w'.cell? ⟨w6.heap.size, 0, none⟩ = some (.bool bis) ∧ w'.cell? ⟨w6.heap.size, 1, none⟩ = some (.slice Ais lis cis) ∧ w'.cell? ⟨w6.heap.size, 2, none⟩ = some (.int .i64 jis) ∧ w'.cell? ⟨w6.heap.size, 3, none⟩ = some (.bool bis') ∧ w'.cell? ⟨w6.heap.size, 4, none⟩ = some (.slice Ais' lis' cis') ∧ w'.cell? ⟨w6.heap.size, 5, none⟩ = some (.int .i64 jis')))) (by as_aux_lemma => kernel_rfl) ⟨bx6 (Ba.ext (Ext.refl V9).drew), bx6 (Bb.ext (Ext.refl V9).drew), box3 (Be.ext (Ext.refl V9).drew), bx6 (Vir.ext (Ext.refl V9).drew), bx6 (Vis.ext (Ext.refl V9).drew)⟩ (fun hHeld => ?_)
  refine wpAnyH_take (i := 0) (v := ?_) rfl (by as_aux_lemma => kernel_rfl) (by as_aux_lemma => kernel_rfl) (by as_aux_lemma => kernel_rfl) (fun _ _ _ h => h) (Or.inl ⟨by rfl, ?_⟩) (by assumption) ?_
  rotate_left
  · (intro w hSw; (try dsimp only at hSw); go_simp); (try with_reducible rfl)
  simp only [List.getElem_toArray, List.getElem_cons_zero, Act.put, List.setIfInBounds_toArray, List.set_cons_zero, List.set_cons_succ]
  refine wpAnyH_take (i := 1) (v := ?_) rfl (by as_aux_lemma => kernel_rfl) (by as_aux_lemma => kernel_rfl) (by as_aux_lemma => kernel_rfl) (fun _ _ _ h => h) (Or.inl ⟨by rfl, ?_⟩) (by assumption) ?_
  rotate_left
  · (intro w hSw; (try dsimp only at hSw); go_simp); (try with_reducible rfl)
  simp only [List.getElem_toArray, List.getElem_cons_zero, List.getElem_cons_succ, Act.put, List.setIfInBounds_toArray, List.set_cons_zero, List.set_cons_succ]
  refine wpAnyH_take (i := 2) (v := ?_) rfl (by as_aux_lemma => kernel_rfl) (by as_aux_lemma => kernel_rfl) (by as_aux_lemma => kernel_rfl) (fun _ _ _ h => h) (Or.inl ⟨by rfl, ?_⟩) (by assumption) ?_
  rotate_left
  · (intro w hSw; (try dsimp only at hSw); go_simp); (try with_reducible rfl)
  simp only [List.getElem_toArray, List.getElem_cons_zero, List.getElem_cons_succ, Act.put, List.setIfInBounds_toArray, List.set_cons_zero, List.set_cons_succ]
  refine wpAnyH_take (i := 4) (v := ?_) rfl (by as_aux_lemma => kernel_rfl) (by as_aux_lemma => kernel_rfl) (by as_aux_lemma => kernel_rfl) (fun _ _ _ h => h) (Or.inl ⟨by rfl, ?_⟩) (by assumption) ?_
  rotate_left
  · (intro w hSw; (try dsimp only at hSw); go_simp); (try with_reducible rfl)
  simp only [List.getElem_toArray, List.getElem_cons_zero, List.getElem_cons_succ, Act.put, List.setIfInBounds_toArray, List.set_cons_zero, List.set_cons_succ]
  refine wpAnyH_ready (rs := [3]) (by as_aux_lemma => kernel_rfl) (by simp) ?_
  refine AllReadyH.cons rfl (fun K hK => ?_) AllReadyH.nil
  go_simp
  refine (ipoint_any _ _ X 200 392 (nd.ext (Ext.refl V9).drew) rd (by omega) (T.ext (Ext.refl V9).drew)).mono ?_
  rintro _ u1 ⟨vu1, rfl, m1, eu1⟩
  have F1 : Ext V9 u1 := (Ext.refl V9).drew.trans eu1
  refine hK.out _ _ ⟨bx6 (Ba.ext F1), bx6 (Bb.ext F1), box3 (Be.ext F1), bx6 (Vir.ext F1), bx6 (Vis.ext F1)⟩ (fun hHeld => ?_)
  clear hK K eu1
  refine wpAnyH_ready (rs := [5]) (by as_aux_lemma => kernel_rfl) (by simp) ?_
  refine AllReadyH.cons rfl (fun K hK => ?_) AllReadyH.nil
  go_simp
  refine (rpoint_any _ _ X (nd.ext F1)).mono ?_
  rintro _ u2 ⟨vu2, rfl, m2, eu2⟩
  have F2 : Ext V9 u2 := F1.trans eu2
  replace m1 := m1.ext eu2
  refine hK.out _ _ ⟨bx6 (Ba.ext F2), bx6 (Bb.ext F2), box3 (Be.ext F2), bx6 (Vir.ext F2), bx6 (Vis.ext F2)⟩ (fun hHeld => ?_)
  clear hK K eu2 F1
  refine wpAnyH_ready (rs := [6]) (by as_aux_lemma => kernel_rfl) (by simp) ?_
  refine AllReadyH.cons rfl (fun K hK => ?_) AllReadyH.nil
  go_simp
  refine (risame_eq _ _ _ _ _ _ _ m1 m2 rfl rfl).mono ?_
  rintro _ u3 ⟨rfl, eu3⟩
  have F3 : Ext V9 u3 := F2.trans eu3
  replace m1 := m1.ext eu3
  replace m2 := m2.ext eu3
  refine hK.out _ _ ⟨bx6 (Ba.ext F3), bx6 (Bb.ext F3), box3 (Be.ext F3), bx6 (Vir.ext F3), bx6 (Vis.ext F3)⟩ (fun hHeld => ?_)
  clear hK K eu3 F2
  refine wpAnyH_take (i := 7) (v := ?_) rfl (by as_aux_lemma => kernel_rfl) (by as_aux_lemma => kernel_rfl) (by as_aux_lemma => kernel_rfl) (fun _ _ _ h => h) (Or.inl ⟨by rfl, ?_⟩) (by assumption) ?_
  rotate_left
  · (intro w hSw; (try dsimp only at hSw); go_simp); (try with_reducible rfl)
  simp only [List.getElem_toArray, List.getElem_cons_zero, List.getElem_cons_succ, Act.put, List.setIfInBounds_toArray, List.set_cons_zero, List.set_cons_succ]
  refine wpAnyH_take (i := 8) (v := ?_) rfl (by as_aux_lemma => kernel_rfl) (by as_aux_lemma => kernel_rfl) (by as_aux_lemma => kernel_rfl) (fun _ _ _ h => h) (Or.inl ⟨by rfl, ?_⟩) (by assumption) ?_
  rotate_left
  · (intro w hSw; (try dsimp only at hSw); go_simp); (try with_reducible rfl)
  simp only [List.getElem_toArray, List.getElem_cons_zero, List.getElem_cons_succ, Act.put, List.setIfInBounds_toArray, List.set_cons_zero, List.set_cons_succ]
  refine wpAnyH_take (i := 9) (v := ?_) rfl (by as_aux_lemma => kernel_rfl) (by as_aux_lemma => kernel_rfl) (by as_aux_lemma => kernel_rfl) (fun _ _ _ h => h) (Or.inl ⟨by rfl, ?_⟩) (by assumption) ?_
  rotate_left
  · (intro w hSw; (try dsimp only at hSw); go_simp); (try with_reducible rfl)
  simp only [List.getElem_toArray, List.getElem_cons_zero, List.getElem_cons_succ, Act.put, List.setIfInBounds_toArray, List.set_cons_zero, List.set_cons_succ]
  refine wpAnyH_take (i := 10) (v := ?_) rfl (by as_aux_lemma => kernel_rfl) (by as_aux_lemma => kernel_rfl) (by as_aux_lemma => kernel_rfl) (fun _ _ _ h => h) (Or.inl ⟨by rfl, ?_⟩) (by assumption) ?_
  rotate_left
  · (intro w hSw; (try dsimp only at hSw); go_simp); (try with_reducible rfl)
  simp only [List.getElem_toArray, List.getElem_cons_zero, List.getElem_cons_succ, Act.put, List.setIfInBounds_toArray, List.set_cons_zero, List.set_cons_succ]
  refine wpAnyH_take (i := 12) (v := ?_) rfl (by as_aux_lemma => kernel_rfl) (by as_aux_lemma => kernel_rfl) (by as_aux_lemma => kernel_rfl) (fun _ _ _ h => h) (Or.inl ⟨by rfl, ?_⟩) (by assumption) ?_
  rotate_left
  · (intro w hSw; (try dsimp only at hSw); go_simp); (try with_reducible rfl)
  simp only [List.getElem_toArray, List.getElem_cons_zero, List.getElem_cons_succ, Act.put, List.setIfInBounds_toArray, List.set_cons_zero, List.set_cons_succ]
  refine wpAnyH_take (i := 13) (v := ?_) rfl (by as_aux_lemma => kernel_rfl) (by as_aux_lemma => kernel_rfl) (by as_aux_lemma => kernel_rfl) (fun _ _ _ h => h) (Or.inl ⟨by rfl, ?_⟩) (by assumption) ?_
  rotate_left
  · (intro w hSw; (try dsimp only at hSw); go_simp); (try with_reducible rfl)
  simp only [List.getElem_toArray, List.getElem_cons_zero, List.getElem_cons_succ, Act.put, List.setIfInBounds_toArray, List.set_cons_zero, List.set_cons_succ]
  refine wpAnyH_ready (rs := [11]) (by as_aux_lemma => kernel_rfl) (by simp) ?_
  refine AllReadyH.cons rfl (fun K hK => ?_) AllReadyH.nil
  go_simp
  refine (has_lit _ _ _ la ha X 200 392 200 392 h1 HQ1.out (na.ext F3) (nd.ext F3) rla rha rd (by omega) (by omega)).mono ?_
  rintro _ u4 ⟨rfl, eu4⟩
  have F4 : Ext V9 u4 := F3.trans eu4
  refine hK.out _ _ ⟨bx6 (Ba.ext F4), bx6 (Bb.ext F4), box3 (Be.ext F4), bx6 (Vir.ext F4), bx6 (Vis.ext F4)⟩ (fun hHeld => ?_)
  clear hK K eu4 F3 m1 m2
  refine wpAnyH_ready (rs := [14]) (by as_aux_lemma => kernel_rfl) (by simp) ?_
  refine AllReadyH.cons rfl (fun K hK => ?_) AllReadyH.nil
  go_simp
  refine (rhas_lit _ _ _ la ha X 200 392 h1 HQ1.out (na.ext F4) (nd.ext F4) rla rha rd (by omega)).mono ?_
  rintro _ u5 ⟨rfl, eu5⟩
  have F5 : Ext V9 u5 := F4.trans eu5
  refine hK.out _ _ ⟨bx6 (Ba.ext F5), bx6 (Bb.ext F5), box3 (Be.ext F5), bx6 (Vir.ext F5), bx6 (Vis.ext F5)⟩ (fun hHeld => ?_)
  clear hK K eu5 F4
  refine wpAnyH_take (i := 15) (v := ?_) rfl (by as_aux_lemma => kernel_rfl) (by as_aux_lemma => kernel_rfl) (by as_aux_lemma => kernel_rfl) (fun _ _ _ h => h) (Or.inl ⟨by rfl, ?_⟩) (by assumption) ?_
  rotate_left
  · (intro w hSw; (try dsimp only at hSw); go_simp); (try with_reducible rfl)
  simp only [List.getElem_toArray, List.getElem_cons_zero, List.getElem_cons_succ, Act.put, List.setIfInBounds_toArray, List.set_cons_zero, List.set_cons_succ]
  refine wpAnyH_take (i := 16) (v := ?_) rfl (by as_aux_lemma => kernel_rfl) (by as_aux_lemma => kernel_rfl) (by as_aux_lemma => kernel_rfl) (fun _ _ _ h => h) (Or.inl ⟨by rfl, ?_⟩) (by assumption) ?_
  rotate_left
  · (intro w hSw; (try dsimp only at hSw); go_simp); (try with_reducible rfl)
  simp only [List.getElem_toArray, List.getElem_cons_zero, List.getElem_cons_succ, Act.put, List.setIfInBounds_toArray, List.set_cons_zero, List.set_cons_succ]
  refine wpAnyH_take (i := 17) (v := ?_) rfl (by as_aux_lemma => kernel_rfl) (by as_aux_lemma => kernel_rfl) (by as_aux_lemma => kernel_rfl) (fun _ _ _ h => h) (Or.inl ⟨by rfl, ?_⟩) (by assumption) ?_
  rotate_left
  · (intro w hSw; (try dsimp only at hSw); go_simp); (try with_reducible rfl)
  simp only [List.getElem_toArray, List.getElem_cons_zero, List.getElem_cons_succ, Act.put, List.setIfInBounds_toArray, List.set_cons_zero, List.set_cons_succ]
  refine wpAnyH_take (i := 18) (v := ?_) rfl (by as_aux_lemma => kernel_rfl) (by as_aux_lemma => kernel_rfl) (by as_aux_lemma => kernel_rfl) (fun _ _ _ h => h) (Or.inl ⟨by rfl, ?_⟩) (by assumption) ?_
  rotate_left
  · (intro w hSw; (try dsimp only at hSw); go_simp); (try with_reducible rfl)
  simp only [List.getElem_toArray, List.getElem_cons_zero, List.getElem_cons_succ, Act.put, List.setIfInBounds_toArray, List.set_cons_zero, List.set_cons_succ]
  refine wpAnyH_take (i := 19) (v := ?_) rfl (by as_aux_lemma => kernel_rfl) (by as_aux_lemma => kernel_rfl) (by as_aux_lemma => kernel_rfl) (fun _ _ _ h => h) (Or.inl ⟨by rfl, ?_⟩) (by assumption) ?_
  rotate_left
  · (intro w hSw; (try dsimp only at hSw); go_simp); (try with_reducible rfl)
  simp only [List.getElem_toArray, List.getElem_cons_zero, List.getElem_cons_succ, Act.put, List.setIfInBounds_toArray, List.set_cons_zero, List.set_cons_succ]
  refine wpAnyH_take (i := 21) (v := ?_) rfl (by as_aux_lemma => kernel_rfl) (by as_aux_lemma => kernel_rfl) (by as_aux_lemma => kernel_rfl) (fun _ _ _ h => h) (Or.inl ⟨by rfl, ?_⟩) (by assumption) ?_
  rotate_left
  · (intro w hSw; (try dsimp only at hSw); go_simp); (try with_reducible rfl)
  simp only [List.getElem_toArray, List.getElem_cons_zero, List.getElem_cons_succ, Act.put, List.setIfInBounds_toArray, List.set_cons_zero, List.set_cons_succ]
  refine wpAnyH_take (i := 22) (v := ?_) rfl (by as_aux_lemma => kernel_rfl) (by as_aux_lemma => kernel_rfl) (by as_aux_lemma => kernel_rfl) (fun _ _ _ h => h) (Or.inl ⟨by rfl, ?_⟩) (by assumption) ?_
  rotate_left
  · (intro w hSw; (try dsimp only at hSw); go_simp); (try with_reducible rfl)
  simp only [List.getElem_toArray, List.getElem_cons_zero, List.getElem_cons_succ, Act.put, List.setIfInBounds_toArray, List.set_cons_zero, List.set_cons_succ]
  refine wpAnyH_ready (rs := [20]) (by as_aux_lemma => kernel_rfl) (by simp) ?_
  refine AllReadyH.cons rfl (fun K hK => ?_) AllReadyH.nil
  go_simp
  refine (inside_lit _ _ _ la ha lb hb 200 392 200 392 h2 HQ2.out (na.ext F5) (nb.ext F5) rla rha rlb rhb (by omega) (by omega)).mono ?_
  rintro _ u6 ⟨rfl, eu6⟩
  have F6 : Ext V9 u6 := F5.trans eu6
  refine hK.out _ _ ⟨bx6 (Ba.ext F6), bx6 (Bb.ext F6), box3 (Be.ext F6), bx6 (Vir.ext F6), bx6 (Vis.ext F6)⟩ (fun hHeld => ?_)
  clear hK K eu6 F5
  refine wpAnyH_ready (rs := [23]) (by as_aux_lemma => kernel_rfl) (by simp) ?_
  refine AllReadyH.cons rfl (fun K hK => ?_) AllReadyH.nil
  go_simp
  refine (rinside_lit _ _ _ la ha lb hb 200 392 h2 HQ3.out (na.ext F6) (nb.ext F6) rla rha rlb rhb (by omega)).mono ?_
  rintro _ u7 ⟨rfl, eu7⟩
  have F7 : Ext V9 u7 := F6.trans eu7
  refine hK.out _ _ ⟨bx6 (Ba.ext F7), bx6 (Bb.ext F7), box3 (Be.ext F7), bx6 (Vir.ext F7), bx6 (Vis.ext F7)⟩ (fun hHeld => ?_)
  clear hK K eu7 F6
  refine wpAnyH_take (i := 24) (v := ?_) rfl (by as_aux_lemma => kernel_rfl) (by as_aux_lemma => kernel_rfl) (by as_aux_lemma => kernel_rfl) (fun _ _ _ h => h) (Or.inl ⟨by rfl, ?_⟩) (by assumption) ?_
  rotate_left
  · (intro w hSw; (try dsimp only at hSw); go_simp); (try with_reducible rfl)
  simp only [List.getElem_toArray, List.getElem_cons_zero, List.getElem_cons_succ, Act.put, List.setIfInBounds_toArray, List.set_cons_zero, List.set_cons_succ]
  refine wpAnyH_take (i := 25) (v := ?_) rfl (by as_aux_lemma => kernel_rfl) (by as_aux_lemma => kernel_rfl) (by as_aux_lemma => kernel_rfl) (fun _ _ _ h => h) (Or.inl ⟨by rfl, ?_⟩) (by assumption) ?_
  rotate_left
  · (intro w hSw; (try dsimp only at hSw); go_simp); (try with_reducible rfl)
  simp only [List.getElem_toArray, List.getElem_cons_zero, List.getElem_cons_succ, Act.put, List.setIfInBounds_toArray, List.set_cons_zero, List.set_cons_succ]
  refine wpAnyH_take (i := 26) (v := ?_) rfl (by as_aux_lemma => kernel_rfl) (by as_aux_lemma => kernel_rfl) (by as_aux_lemma => kernel_rfl) (fun _ _ _ h => h) (Or.inl ⟨by rfl, ?_⟩) (by assumption) ?_
  rotate_left
  · (intro w hSw; (try dsimp only at hSw); go_simp); (try with_reducible rfl)
  simp only [List.getElem_toArray, List.getElem_cons_zero, List.getElem_cons_succ, Act.put, List.setIfInBounds_toArray, List.set_cons_zero, List.set_cons_succ]
  refine wpAnyH_take (i := 27) (v := ?_) rfl (by as_aux_lemma => kernel_rfl) (by as_aux_lemma => kernel_rfl) (by as_aux_lemma => kernel_rfl) (fun _ _ _ h => h) (Or.inl ⟨by rfl, ?_⟩) (by assumption) ?_
  rotate_left
  · (intro w hSw; (try dsimp only at hSw); go_simp); (try with_reducible rfl)
  simp only [List.getElem_toArray, List.getElem_cons_zero, List.getElem_cons_succ, Act.put, List.setIfInBounds_toArray, List.set_cons_zero, List.set_cons_succ]
  refine wpAnyH_take (i := 29) (v := ?_) rfl (by as_aux_lemma => kernel_rfl) (by as_aux_lemma => kernel_rfl) (by as_aux_lemma => kernel_rfl) (fun _ _ _ h => h) (Or.inl ⟨by rfl, ?_⟩) (by assumption) ?_
  rotate_left
  · (intro w hSw; (try dsimp only at hSw); go_simp); (try with_reducible rfl)
  simp only [List.getElem_toArray, List.getElem_cons_zero, List.getElem_cons_succ, Act.put, List.setIfInBounds_toArray, List.set_cons_zero, List.set_cons_succ]
  refine wpAnyH_ready (rs := [28]) (by as_aux_lemma => kernel_rfl) (by simp) ?_
  refine AllReadyH.cons rfl (fun K hK => ?_) AllReadyH.nil
  go_simp
  refine (iwide_any _ _ la ha 200 392 (na.ext F7) rla rha (by omega) (T.ext F7)).mono ?_
  rintro _ u8 ⟨vu8, rfl, m8, eu8⟩
  have F8 : Ext V9 u8 := F7.trans eu8
  refine hK.out _ _ ⟨bx6 (Ba.ext F8), bx6 (Bb.ext F8), box3 (Be.ext F8), bx6 (Vir.ext F8), bx6 (Vis.ext F8)⟩ (fun hHeld => ?_)
  clear hK K eu8 F7
  refine wpAnyH_ready (rs := [30]) (by as_aux_lemma => kernel_rfl) (by simp) ?_
  refine AllReadyH.cons rfl (fun K hK => ?_) AllReadyH.nil
  go_simp
  refine (rwide_any _ _ la ha 200 392 (na.ext F8) rla rha (by omega)).mono ?_
  rintro _ u9 ⟨vu9, rfl, m9, eu9⟩
  have F9 : Ext V9 u9 := F8.trans eu9
  replace m8 := m8.ext eu9
  refine hK.out _ _ ⟨bx6 (Ba.ext F9), bx6 (Bb.ext F9), box3 (Be.ext F9), bx6 (Vir.ext F9), bx6 (Vis.ext F9)⟩ (fun hHeld => ?_)
  clear hK K eu9 F8
  refine wpAnyH_ready (rs := [31]) (by as_aux_lemma => kernel_rfl) (by simp) ?_
  refine AllReadyH.cons rfl (fun K hK => ?_) AllReadyH.nil
  go_simp
  refine (rsameD_eq _ _ _ (ha + -la) m8 m9).mono ?_
  rintro _ u10 ⟨rfl, eu10⟩
  have F10 : Ext V9 u10 := F9.trans eu10
  replace m8 := m8.ext eu10
  replace m9 := m9.ext eu10
  refine hK.out _ _ ⟨bx6 (Ba.ext F10), bx6 (Bb.ext F10), box3 (Be.ext F10), bx6 (Vir.ext F10), bx6 (Vis.ext F10)⟩ (fun hHeld => ?_)
  clear hK K eu10 F9
  refine wpAnyH_take (i := 32) (v := ?_) rfl (by as_aux_lemma => kernel_rfl) (by as_aux_lemma => kernel_rfl) (by as_aux_lemma => kernel_rfl) (fun _ _ _ h => h) (Or.inl ⟨by rfl, ?_⟩) (by assumption) ?_
  rotate_left
  · (intro w hSw; (try dsimp only at hSw); go_simp); (try with_reducible rfl)
  simp only [List.getElem_toArray, List.getElem_cons_zero, List.getElem_cons_succ, Act.put, List.setIfInBounds_toArray, List.set_cons_zero, List.set_cons_succ]
  refine wpAnyH_take (i := 33) (v := ?_) rfl (by as_aux_lemma => kernel_rfl) (by as_aux_lemma => kernel_rfl) (by as_aux_lemma => kernel_rfl) (fun _ _ _ h => h) (Or.inl ⟨by rfl, ?_⟩) (by assumption) ?_
  rotate_left
  · (intro w hSw; (try dsimp only at hSw); go_simp); (try with_reducible rfl)
  simp only [List.getElem_toArray, List.getElem_cons_zero, List.getElem_cons_succ, Act.put, List.setIfInBounds_toArray, List.set_cons_zero, List.set_cons_succ]
  refine wpAnyH_take (i := 34) (v := ?_) rfl (by as_aux_lemma => kernel_rfl) (by as_aux_lemma => kernel_rfl) (by as_aux_lemma => kernel_rfl) (fun _ _ _ h => h) (Or.inl ⟨by rfl, ?_⟩) (by assumption) ?_
  rotate_left
  · (intro w hSw; (try dsimp only at hSw); go_simp); (try with_reducible rfl)
  simp only [List.getElem_toArray, List.getElem_cons_zero, List.getElem_cons_succ, Act.put, List.setIfInBounds_toArray, List.set_cons_zero, List.set_cons_succ]
  refine wpAnyH_take (i := 36) (v := ?_) rfl (by as_aux_lemma => kernel_rfl) (by as_aux_lemma => kernel_rfl) (by as_aux_lemma => kernel_rfl) (fun _ _ _ h => h) (Or.inl ⟨by rfl, ?_⟩) (by assumption) ?_
  rotate_left
  · (intro w hSw; (try dsimp only at hSw); go_simp); (try with_reducible rfl)
  simp only [List.getElem_toArray, List.getElem_cons_zero, List.getElem_cons_succ, Act.put, List.setIfInBounds_toArray, List.set_cons_zero, List.set_cons_succ]
  refine wpAnyH_ready (rs := [35]) (by as_aux_lemma => kernel_rfl) (by simp) ?_
  refine AllReadyH.cons rfl (fun K hK => ?_) AllReadyH.nil
  go_simp
  refine (iflip_any _ _ la ha 200 392 (na.ext F10) rla rha (by omega) (T.ext F10)).mono ?_
  rintro _ u11 ⟨vu11, rfl, m11, eu11⟩
  have F11 : Ext V9 u11 := F10.trans eu11
  refine hK.out _ _ ⟨bx6 (Ba.ext F11), bx6 (Bb.ext F11), box3 (Be.ext F11), bx6 (Vir.ext F11), bx6 (Vis.ext F11)⟩ (fun hHeld => ?_)
  clear hK K eu11 F10 m8 m9
  refine wpAnyH_ready (rs := [37]) (by as_aux_lemma => kernel_rfl) (by simp) ?_
  refine AllReadyH.cons rfl (fun K hK => ?_) AllReadyH.nil
  go_simp
  refine (riflip_any _ _ la ha (na.ext F11)).mono ?_
  rintro _ u12 ⟨vu12, rfl, m12, eu12⟩
  have F12 : Ext V9 u12 := F11.trans eu12
  replace m11 := m11.ext eu12
  refine hK.out _ _ ⟨bx6 (Ba.ext F12), bx6 (Bb.ext F12), box3 (Be.ext F12), bx6 (Vir.ext F12), bx6 (Vis.ext F12)⟩ (fun hHeld => ?_)
  clear hK K eu12 F11
  refine wpAnyH_ready (rs := [38]) (by as_aux_lemma => kernel_rfl) (by simp) ?_
  refine AllReadyH.cons rfl (fun K hK => ?_) AllReadyH.nil
  go_simp
  refine (risame_eq _ _ _ _ _ _ _ m11 m12 rfl rfl).mono ?_
  rintro _ u13 ⟨rfl, eu13⟩
  have F13 : Ext V9 u13 := F12.trans eu13
  replace m11 := m11.ext eu13
  replace m12 := m12.ext eu13
  refine hK.out _ _ ⟨bx6 (Ba.ext F13), bx6 (Bb.ext F13), box3 (Be.ext F13), bx6 (Vir.ext F13), bx6 (Vis.ext F13)⟩ (fun hHeld => ?_)
  clear hK K eu13 F12
  refine wpAnyH_take (i := 39) (v := ?_) rfl (by as_aux_lemma => kernel_rfl) (by as_aux_lemma => kernel_rfl) (by as_aux_lemma => kernel_rfl) (fun _ _ _ h => h) (Or.inl ⟨by rfl, ?_⟩) (by assumption) ?_
  rotate_left
  · (intro w hSw; (try dsimp only at hSw); go_simp); (try with_reducible rfl)
  simp only [List.getElem_toArray, List.getElem_cons_zero, List.getElem_cons_succ, Act.put, List.setIfInBounds_toArray, List.set_cons_zero, List.set_cons_succ]
  refine wpAnyH_take (i := 40) (v := ?_) rfl (by as_aux_lemma => kernel_rfl) (by as_aux_lemma => kernel_rfl) (by as_aux_lemma => kernel_rfl) (fun _ _ _ h => h) (Or.inl ⟨by rfl, ?_⟩) (by assumption) ?_
  rotate_left
  · (intro w hSw; (try dsimp only at hSw); go_simp); (try with_reducible rfl)
  simp only [List.getElem_toArray, List.getElem_cons_zero, List.getElem_cons_succ, Act.put, List.setIfInBounds_toArray, List.set_cons_zero, List.set_cons_succ]
  refine wpAnyH_take (i := 41) (v := ?_) rfl (by as_aux_lemma => kernel_rfl) (by as_aux_lemma => kernel_rfl) (by as_aux_lemma => kernel_rfl) (fun _ _ _ h => h) (Or.inl ⟨by rfl, ?_⟩) (by assumption) ?_
  rotate_left
  · (intro w hSw; (try dsimp only at hSw); go_simp); (try with_reducible rfl)
  simp only [List.getElem_toArray, List.getElem_cons_zero, List.getElem_cons_succ, Act.put, List.setIfInBounds_toArray, List.set_cons_zero, List.set_cons_succ]
  refine wpAnyH_take (i := 42) (v := ?_) rfl (by as_aux_lemma => kernel_rfl) (by as_aux_lemma => kernel_rfl) (by as_aux_lemma => kernel_rfl) (fun _ _ _ h => h) (Or.inl ⟨by rfl, ?_⟩) (by assumption) ?_
  rotate_left
  · (intro w hSw; (try dsimp only at hSw); go_simp); (try with_reducible rfl)
  simp only [List.getElem_toArray, List.getElem_cons_zero, List.getElem_cons_succ, Act.put, List.setIfInBounds_toArray, List.set_cons_zero, List.set_cons_succ]
  refine wpAnyH_take (i := 44) (v := ?_) rfl (by as_aux_lemma => kernel_rfl) (by as_aux_lemma => kernel_rfl) (by as_aux_lemma => kernel_rfl) (fun _ _ _ h => h) (Or.inl ⟨by rfl, ?_⟩) (by assumption) ?_
  rotate_left
  · (intro w hSw; (try dsimp only at hSw); go_simp); (try with_reducible rfl)
  simp only [List.getElem_toArray, List.getElem_cons_zero, List.getElem_cons_succ, Act.put, List.setIfInBounds_toArray, List.set_cons_zero, List.set_cons_succ]
  refine wpAnyH_take (i := 45) (v := ?_) rfl (by as_aux_lemma => kernel_rfl) (by as_aux_lemma => kernel_rfl) (by as_aux_lemma => kernel_rfl) (fun _ _ _ h => h) (Or.inl ⟨by rfl, ?_⟩) (by assumption) ?_
  rotate_left
  · (intro w hSw; (try dsimp only at hSw); go_simp); (try with_reducible rfl)
  simp only [List.getElem_toArray, List.getElem_cons_zero, List.getElem_cons_succ, Act.put, List.setIfInBounds_toArray, List.set_cons_zero, List.set_cons_succ]
  refine wpAnyH_ready (rs := [43]) (by as_aux_lemma => kernel_rfl) (by simp) ?_
  refine AllReadyH.cons rfl (fun K hK => ?_) AllReadyH.nil
  go_simp
  refine (ishift_any _ _ la ha k 200 392 (na.ext F13) rla rha (by omega) (by omega) (T.ext F13)).mono ?_
  rintro _ u14 ⟨vu14, rfl, m14, eu14⟩
  have F14 : Ext V9 u14 := F13.trans eu14
  refine hK.out _ _ ⟨bx6 (Ba.ext F14), bx6 (Bb.ext F14), box3 (Be.ext F14), bx6 (Vir.ext F14), bx6 (Vis.ext F14)⟩ (fun hHeld => ?_)
  clear hK K eu14 F13 m11 m12
  refine wpAnyH_ready (rs := [46]) (by as_aux_lemma => kernel_rfl) (by simp) ?_
  refine AllReadyH.cons rfl (fun K hK => ?_) AllReadyH.nil
  go_simp
  refine (rishift_any _ _ la ha k 200 392 (na.ext F14) rla rha (by omega) (by omega)).mono ?_
  rintro _ u15 ⟨vu15, rfl, m15, eu15⟩
  have F15 : Ext V9 u15 := F14.trans eu15
  replace m14 := m14.ext eu15
  refine hK.out _ _ ⟨bx6 (Ba.ext F15), bx6 (Bb.ext F15), box3 (Be.ext F15), bx6 (Vir.ext F15), bx6 (Vis.ext F15)⟩ (fun hHeld => ?_)
  clear hK K eu15 F14
  refine wpAnyH_ready (rs := [47]) (by as_aux_lemma => kernel_rfl) (by simp) ?_
  refine AllReadyH.cons rfl (fun K hK => ?_) AllReadyH.nil
  go_simp
  refine (risame_eq _ _ _ _ _ _ _ m14 m15 rfl rfl).mono ?_
  rintro _ u16 ⟨rfl, eu16⟩
  have F16 : Ext V9 u16 := F15.trans eu16
  replace m14 := m14.ext eu16
  replace m15 := m15.ext eu16
  refine hK.out _ _ ⟨bx6 (Ba.ext F16), bx6 (Bb.ext F16), box3 (Be.ext F16), bx6 (Vir.ext F16), bx6 (Vis.ext F16)⟩ (fun hHeld => ?_)
  clear hK K eu16 F15
  refine wpAnyH_take (i := 48) (v := ?_) rfl (by as_aux_lemma => kernel_rfl) (by as_aux_lemma => kernel_rfl) (by as_aux_lemma => kernel_rfl) (fun _ _ _ h => h) (Or.inl ⟨by rfl, ?_⟩) (by assumption) ?_
  rotate_left
  · (intro w hSw; (try dsimp only at hSw); go_simp); (try with_reducible rfl)
  simp only [List.getElem_toArray, List.getElem_cons_zero, List.getElem_cons_succ, Act.put, List.setIfInBounds_toArray, List.set_cons_zero, List.set_cons_succ]
  refine wpAnyH_take (i := 49) (v := ?_) rfl (by as_aux_lemma => kernel_rfl) (by as_aux_lemma => kernel_rfl) (by as_aux_lemma => kernel_rfl) (fun _ _ _ h => h) (Or.inl ⟨by rfl, ?_⟩) (by assumption) ?_
  rotate_left
  · (intro w hSw; (try dsimp only at hSw); go_simp); (try with_reducible rfl)
  simp only [List.getElem_toArray, List.getElem_cons_zero, List.getElem_cons_succ, Act.put, List.setIfInBounds_toArray, List.set_cons_zero, List.set_cons_succ]
  refine wpAnyH_take (i := 50) (v := ?_) rfl (by as_aux_lemma => kernel_rfl) (by as_aux_lemma => kernel_rfl) (by as_aux_lemma => kernel_rfl) (fun _ _ _ h => h) (Or.inl ⟨by rfl, ?_⟩) (by assumption) ?_
  rotate_left
  · (intro w hSw; (try dsimp only at hSw); go_simp); (try with_reducible rfl)
  simp only [List.getElem_toArray, List.getElem_cons_zero, List.getElem_cons_succ, Act.put, List.setIfInBounds_toArray, List.set_cons_zero, List.set_cons_succ]
  refine wpAnyH_take (i := 51) (v := ?_) rfl (by as_aux_lemma => kernel_rfl) (by as_aux_lemma => kernel_rfl) (by as_aux_lemma => kernel_rfl) (fun _ _ _ h => h) (Or.inl ⟨by rfl, ?_⟩) (by assumption) ?_
  rotate_left
  · (intro w hSw; (try dsimp only at hSw); go_simp); (try with_reducible rfl)
  simp only [List.getElem_toArray, List.getElem_cons_zero, List.getElem_cons_succ, Act.put, List.setIfInBounds_toArray, List.set_cons_zero, List.set_cons_succ]
  refine wpAnyH_take (i := 53) (v := ?_) rfl (by as_aux_lemma => kernel_rfl) (by as_aux_lemma => kernel_rfl) (by as_aux_lemma => kernel_rfl) (fun _ _ _ h => h) (Or.inl ⟨by rfl, ?_⟩) (by assumption) ?_
  rotate_left
  · (intro w hSw; (try dsimp only at hSw); go_simp); (try with_reducible rfl)
  simp only [List.getElem_toArray, List.getElem_cons_zero, List.getElem_cons_succ, Act.put, List.setIfInBounds_toArray, List.set_cons_zero, List.set_cons_succ]
  refine wpAnyH_take (i := 54) (v := ?_) rfl (by as_aux_lemma => kernel_rfl) (by as_aux_lemma => kernel_rfl) (by as_aux_lemma => kernel_rfl) (fun _ _ _ h => h) (Or.inl ⟨by rfl, ?_⟩) (by assumption) ?_
  rotate_left
  · (intro w hSw; (try dsimp only at hSw); go_simp); (try with_reducible rfl)
  simp only [List.getElem_toArray, List.getElem_cons_zero, List.getElem_cons_succ, Act.put, List.setIfInBounds_toArray, List.set_cons_zero, List.set_cons_succ]
  refine wpAnyH_ready (rs := [52]) (by as_aux_lemma => kernel_rfl) (by simp) ?_
  refine AllReadyH.cons rfl (fun K hK => ?_) AllReadyH.nil
  go_simp
  refine (iadd_any _ _ _ la ha lb hb 200 392 (na.ext F16) (nb.ext F16) rla rha rlb rhb (by omega) (T.ext F16)).mono ?_
  rintro _ u17 ⟨vu17, rfl, m17, eu17⟩
  have F17 : Ext V9 u17 := F16.trans eu17
  refine hK.out _ _ ⟨bx6 (Ba.ext F17), bx6 (Bb.ext F17), box3 (Be.ext F17), bx6 (Vir.ext F17), bx6 (Vis.ext F17)⟩ (fun hHeld => ?_)
  clear hK K eu17 F16 m14 m15
  refine wpAnyH_ready (rs := [55]) (by as_aux_lemma => kernel_rfl) (by simp) ?_
  refine AllReadyH.cons rfl (fun K hK => ?_) AllReadyH.nil
  go_simp
  refine (riadd_any _ _ _ la ha lb hb 200 392 (na.ext F17) (nb.ext F17) rla rha rlb rhb (by omega)).mono ?_
  rintro _ u18 ⟨vu18, rfl, m18, eu18⟩
  have F18 : Ext V9 u18 := F17.trans eu18
  replace m17 := m17.ext eu18
  refine hK.out _ _ ⟨bx6 (Ba.ext F18), bx6 (Bb.ext F18), box3 (Be.ext F18), bx6 (Vir.ext F18), bx6 (Vis.ext F18)⟩ (fun hHeld => ?_)
  clear hK K eu18 F17
  refine wpAnyH_ready (rs := [56]) (by as_aux_lemma => kernel_rfl) (by simp) ?_
  refine AllReadyH.cons rfl (fun K hK => ?_) AllReadyH.nil
  go_simp
  refine (risame_eq _ _ _ _ _ _ _ m17 m18 rfl rfl).mono ?_
  rintro _ u19 ⟨rfl, eu19⟩
  have F19 : Ext V9 u19 := F18.trans eu19
  replace m17 := m17.ext eu19
  replace m18 := m18.ext eu19
  refine hK.out _ _ ⟨bx6 (Ba.ext F19), bx6 (Bb.ext F19), box3 (Be.ext F19), bx6 (Vir.ext F19), bx6 (Vis.ext F19)⟩ (fun hHeld => ?_)
  clear hK K eu19 F18
  refine wpAnyH_take (i := 57) (v := ?_) rfl (by as_aux_lemma => kernel_rfl) (by as_aux_lemma => kernel_rfl) (by as_aux_lemma => kernel_rfl) (fun _ _ _ h => h) (Or.inl ⟨by rfl, ?_⟩) (by assumption) ?_
  rotate_left
  · (intro w hSw; (try dsimp only at hSw); go_simp); (try with_reducible rfl)
  simp only [List.getElem_toArray, List.getElem_cons_zero, List.getElem_cons_succ, Act.put, List.setIfInBounds_toArray, List.set_cons_zero, List.set_cons_succ]
  refine wpAnyH_take (i := 58) (v := ?_) rfl (by as_aux_lemma => kernel_rfl) (by as_aux_lemma => kernel_rfl) (by as_aux_lemma => kernel_rfl) (fun _ _ _ h => h) (Or.inl ⟨by rfl, ?_⟩) (by assumption) ?_
  rotate_left
  · (intro w hSw; (try dsimp only at hSw); go_simp); (try with_reducible rfl)
  simp only [List.getElem_toArray, List.getElem_cons_zero, List.getElem_cons_succ, Act.put, List.setIfInBounds_toArray, List.set_cons_zero, List.set_cons_succ]
  refine wpAnyH_take (i := 59) (v := ?_) rfl (by as_aux_lemma => kernel_rfl) (by as_aux_lemma => kernel_rfl) (by as_aux_lemma => kernel_rfl) (fun _ _ _ h => h) (Or.inl ⟨by rfl, ?_⟩) (by assumption) ?_
  rotate_left
  · (intro w hSw; (try dsimp only at hSw); go_simp); (try with_reducible rfl)
  simp only [List.getElem_toArray, List.getElem_cons_zero, List.getElem_cons_succ, Act.put, List.setIfInBounds_toArray, List.set_cons_zero, List.set_cons_succ]
  refine wpAnyH_take (i := 60) (v := ?_) rfl (by as_aux_lemma => kernel_rfl) (by as_aux_lemma => kernel_rfl) (by as_aux_lemma => kernel_rfl) (fun _ _ _ h => h) (Or.inl ⟨by rfl, ?_⟩) (by assumption) ?_
  rotate_left
  · (intro w hSw; (try dsimp only at hSw); go_simp); (try with_reducible rfl)
  simp only [List.getElem_toArray, List.getElem_cons_zero, List.getElem_cons_succ, Act.put, List.setIfInBounds_toArray, List.set_cons_zero, List.set_cons_succ]
  refine wpAnyH_take (i := 62) (v := ?_) rfl (by as_aux_lemma => kernel_rfl) (by as_aux_lemma => kernel_rfl) (by as_aux_lemma => kernel_rfl) (fun _ _ _ h => h) (Or.inl ⟨by rfl, ?_⟩) (by assumption) ?_
  rotate_left
  · (intro w hSw; (try dsimp only at hSw); go_simp); (try with_reducible rfl)
  simp only [List.getElem_toArray, List.getElem_cons_zero, List.getElem_cons_succ, Act.put, List.setIfInBounds_toArray, List.set_cons_zero, List.set_cons_succ]
  refine wpAnyH_take (i := 63) (v := ?_) rfl (by as_aux_lemma => kernel_rfl) (by as_aux_lemma => kernel_rfl) (by as_aux_lemma => kernel_rfl) (fun _ _ _ h => h) (Or.inl ⟨by rfl, ?_⟩) (by assumption) ?_
  rotate_left
  · (intro w hSw; (try dsimp only at hSw); go_simp); (try with_reducible rfl)
  simp only [List.getElem_toArray, List.getElem_cons_zero, List.getElem_cons_succ, Act.put, List.setIfInBounds_toArray, List.set_cons_zero, List.set_cons_succ]
  refine wpAnyH_ready (rs := [61]) (by as_aux_lemma => kernel_rfl) (by simp) ?_
  refine AllReadyH.cons rfl (fun K hK => ?_) AllReadyH.nil
  go_simp
  refine (imul_any _ _ _ la ha lb hb 200 392 200 392 (na.ext F19) (nb.ext F19) rla rha rlb rhb (by omega) (T.ext F19)).mono ?_
  rintro _ u20 ⟨vu20, rfl, m20, eu20⟩
  have F20 : Ext V9 u20 := F19.trans eu20
  refine hK.out _ _ ⟨bx6 (Ba.ext F20), bx6 (Bb.ext F20), box3 (Be.ext F20), bx6 (Vir.ext F20), bx6 (Vis.ext F20)⟩ (fun hHeld => ?_)
  clear hK K eu20 F19 m17 m18
  refine wpAnyH_ready (rs := [64]) (by as_aux_lemma => kernel_rfl) (by simp) ?_
  refine AllReadyH.cons rfl (fun K hK => ?_) AllReadyH.nil
  go_simp
  refine (rimul_any _ _ _ la ha lb hb 200 392 200 392 (na.ext F20) (nb.ext F20) rla rha rlb rhb (by omega)).mono ?_
  rintro _ u21 ⟨vu21, rfl, m21, eu21⟩
  have F21 : Ext V9 u21 := F20.trans eu21
  replace m20 := m20.ext eu21
  refine hK.out _ _ ⟨bx6 (Ba.ext F21), bx6 (Bb.ext F21), box3 (Be.ext F21), bx6 (Vir.ext F21), bx6 (Vis.ext F21)⟩ (fun hHeld => ?_)
  clear hK K eu21 F20
  refine wpAnyH_ready (rs := [65]) (by as_aux_lemma => kernel_rfl) (by simp) ?_
  refine AllReadyH.cons rfl (fun K hK => ?_) AllReadyH.nil
  go_simp
  refine (risame_eq _ _ _ _ _ _ _ m20 m21 rfl rfl).mono ?_
  rintro _ u22 ⟨rfl, eu22⟩
  have F22 : Ext V9 u22 := F21.trans eu22
  replace m20 := m20.ext eu22
  replace m21 := m21.ext eu22
  refine hK.out _ _ ⟨bx6 (Ba.ext F22), bx6 (Bb.ext F22), box3 (Be.ext F22), bx6 (Vir.ext F22), bx6 (Vis.ext F22)⟩ (fun hHeld => ?_)
  clear hK K eu22 F21
  refine wpAnyH_take (i := 66) (v := ?_) rfl (by as_aux_lemma => kernel_rfl) (by as_aux_lemma => kernel_rfl) (by as_aux_lemma => kernel_rfl) (fun _ _ _ h => h) (Or.inl ⟨by rfl, ?_⟩) (by assumption) ?_
  rotate_left
  · (intro w hSw; (try dsimp only at hSw); go_simp); (try with_reducible rfl)
  simp only [List.getElem_toArray, List.getElem_cons_zero, List.getElem_cons_succ, Act.put, List.setIfInBounds_toArray, List.set_cons_zero, List.set_cons_succ]
  refine wpAnyH_take (i := 67) (v := ?_) rfl (by as_aux_lemma => kernel_rfl) (by as_aux_lemma => kernel_rfl) (by as_aux_lemma => kernel_rfl) (fun _ _ _ h => h) (Or.inl ⟨by rfl, ?_⟩) (by assumption) ?_
  rotate_left
  · (intro w hSw; (try dsimp only at hSw); go_simp); (try with_reducible rfl)
  simp only [List.getElem_toArray, List.getElem_cons_zero, List.getElem_cons_succ, Act.put, List.setIfInBounds_toArray, List.set_cons_zero, List.set_cons_succ]
  refine wpAnyH_take (i := 68) (v := ?_) rfl (by as_aux_lemma => kernel_rfl) (by as_aux_lemma => kernel_rfl) (by as_aux_lemma => kernel_rfl) (fun _ _ _ h => h) (Or.inl ⟨by rfl, ?_⟩) (by assumption) ?_
  rotate_left
  · (intro w hSw; (try dsimp only at hSw); go_simp); (try with_reducible rfl)
  simp only [List.getElem_toArray, List.getElem_cons_zero, List.getElem_cons_succ, Act.put, List.setIfInBounds_toArray, List.set_cons_zero, List.set_cons_succ]
  refine wpAnyH_take (i := 69) (v := ?_) rfl (by as_aux_lemma => kernel_rfl) (by as_aux_lemma => kernel_rfl) (by as_aux_lemma => kernel_rfl) (fun _ _ _ h => h) (Or.inl ⟨by rfl, ?_⟩) (by assumption) ?_
  rotate_left
  · (intro w hSw; (try dsimp only at hSw); go_simp); (try with_reducible rfl)
  simp only [List.getElem_toArray, List.getElem_cons_zero, List.getElem_cons_succ, Act.put, List.setIfInBounds_toArray, List.set_cons_zero, List.set_cons_succ]
  refine wpAnyH_take (i := 71) (v := ?_) rfl (by as_aux_lemma => kernel_rfl) (by as_aux_lemma => kernel_rfl) (by as_aux_lemma => kernel_rfl) (fun _ _ _ h => h) (Or.inl ⟨by rfl, ?_⟩) (by assumption) ?_
  rotate_left
  · (intro w hSw; (try dsimp only at hSw); go_simp); (try with_reducible rfl)
  simp only [List.getElem_toArray, List.getElem_cons_zero, List.getElem_cons_succ, Act.put, List.setIfInBounds_toArray, List.set_cons_zero, List.set_cons_succ]
  refine wpAnyH_take (i := 72) (v := ?_) rfl (by as_aux_lemma => kernel_rfl) (by as_aux_lemma => kernel_rfl) (by as_aux_lemma => kernel_rfl) (fun _ _ _ h => h) (Or.inl ⟨by rfl, ?_⟩) (by assumption) ?_
  rotate_left
  · (intro w hSw; (try dsimp only at hSw); go_simp); (try with_reducible rfl)
  simp only [List.getElem_toArray, List.getElem_cons_zero, List.getElem_cons_succ, Act.put, List.setIfInBounds_toArray, List.set_cons_zero, List.set_cons_succ]
  refine wpAnyH_ready (rs := [70]) (by as_aux_lemma => kernel_rfl) (by simp) ?_
  refine AllReadyH.cons rfl (fun K hK => ?_) AllReadyH.nil
  go_simp
  refine (icut_any _ _ la ha _ c 200 392 (by first | rfl | omega) (na.ext F22) rla rha (by omega) hc1 (by omega) (T.ext F22)).mono ?_
  rintro _ u23 ⟨vu23, rfl, m23, eu23⟩
  have F23 : Ext V9 u23 := F22.trans eu23
  refine hK.out _ _ ⟨bx6 (Ba.ext F23), bx6 (Bb.ext F23), box3 (Be.ext F23), bx6 (Vir.ext F23), bx6 (Vis.ext F23)⟩ (fun hHeld => ?_)
  clear hK K eu23 F22 m20 m21
  refine wpAnyH_ready (rs := [73]) (by as_aux_lemma => kernel_rfl) (by simp) ?_
  refine AllReadyH.cons rfl (fun K hK => ?_) AllReadyH.nil
  go_simp
  refine (ricut_any _ _ la ha _ c 200 392 (by first | rfl | omega) (na.ext F23) rla rha (by omega) hc1 (by omega)).mono ?_
  rintro _ u24 ⟨vu24, rfl, m24, eu24⟩
  have F24 : Ext V9 u24 := F23.trans eu24
  replace m23 := m23.ext eu24
  refine hK.out _ _ ⟨bx6 (Ba.ext F24), bx6 (Bb.ext F24), box3 (Be.ext F24), bx6 (Vir.ext F24), bx6 (Vis.ext F24)⟩ (fun hHeld => ?_)
  clear hK K eu24 F23
  refine wpAnyH_ready (rs := [74]) (by as_aux_lemma => kernel_rfl) (by simp) ?_
  refine AllReadyH.cons rfl (fun K hK => ?_) AllReadyH.nil
  go_simp
  refine (risame_eq _ _ _ _ _ _ _ m23 m24 rfl rfl).mono ?_
  rintro _ u25 ⟨rfl, eu25⟩
  have F25 : Ext V9 u25 := F24.trans eu25
  replace m23 := m23.ext eu25
  replace m24 := m24.ext eu25
  refine hK.out _ _ ⟨bx6 (Ba.ext F25), bx6 (Bb.ext F25), box3 (Be.ext F25), bx6 (Vir.ext F25), bx6 (Vis.ext F25)⟩ (fun hHeld => ?_)
  clear hK K eu25 F24
  refine wpAnyH_take (i := 75) (v := ?_) rfl (by as_aux_lemma => kernel_rfl) (by as_aux_lemma => kernel_rfl) (by as_aux_lemma => kernel_rfl) (fun _ _ _ h => h) (Or.inl ⟨by rfl, ?_⟩) (by assumption) ?_
  rotate_left
  · (intro w hSw; (try dsimp only at hSw); go_simp); (try with_reducible rfl)
  simp only [List.getElem_toArray, List.getElem_cons_zero, List.getElem_cons_succ, Act.put, List.setIfInBounds_toArray, List.set_cons_zero, List.set_cons_succ]
  refine wpAnyH_take (i := 76) (v := ?_) rfl (by as_aux_lemma => kernel_rfl) (by as_aux_lemma => kernel_rfl) (by as_aux_lemma => kernel_rfl) (fun _ _ _ h => h) (Or.inl ⟨by rfl, ?_⟩) (by assumption) ?_
  rotate_left
  · (intro w hSw; (try dsimp only at hSw); go_simp); (try with_reducible rfl)
  simp only [List.getElem_toArray, List.getElem_cons_zero, List.getElem_cons_succ, Act.put, List.setIfInBounds_toArray, List.set_cons_zero, List.set_cons_succ]
  refine wpAnyH_take (i := 77) (v := ?_) rfl (by as_aux_lemma => kernel_rfl) (by as_aux_lemma => kernel_rfl) (by as_aux_lemma => kernel_rfl) (fun _ _ _ h => h) (Or.inl ⟨by rfl, ?_⟩) (by assumption) ?_
  rotate_left
  · (intro w hSw; (try dsimp only at hSw); go_simp); (try with_reducible rfl)
  simp only [List.getElem_toArray, List.getElem_cons_zero, List.getElem_cons_succ, Act.put, List.setIfInBounds_toArray, List.set_cons_zero, List.set_cons_succ]
  refine wpAnyH_take (i := 78) (v := ?_) rfl (by as_aux_lemma => kernel_rfl) (by as_aux_lemma => kernel_rfl) (by as_aux_lemma => kernel_rfl) (fun _ _ _ h => h) (Or.inl ⟨by rfl, ?_⟩) (by assumption) ?_
  rotate_left
  · (intro w hSw; (try dsimp only at hSw); go_simp); (try with_reducible rfl)
  simp only [List.getElem_toArray, List.getElem_cons_zero, List.getElem_cons_succ, Act.put, List.setIfInBounds_toArray, List.set_cons_zero, List.set_cons_succ]
  refine wpAnyH_ready (rs := [79]) (by as_aux_lemma => kernel_rfl) (by simp) ?_
  refine AllReadyH.cons rfl (fun K hK => ?_) AllReadyH.nil
  go_simp
  refine (risame_eq _ _ _ _ _ _ _ (ir.ext F25) (is.ext F25) rfl rfl).mono ?_
  rintro _ u26 ⟨rfl, eu26⟩
  have F26 : Ext V9 u26 := F25.trans eu26
  refine hK.out _ _ ⟨bx6 (Ba.ext F26), bx6 (Bb.ext F26), box3 (Be.ext F26), bx6 (Vir.ext F26), bx6 (Vis.ext F26)⟩ (fun hHeld => ?_)
  clear hK K eu26 F25 m23 m24
  refine wpAnyH_take (i := 80) (v := ?_) rfl (by as_aux_lemma => kernel_rfl) (by as_aux_lemma => kernel_rfl) (by as_aux_lemma => kernel_rfl) (fun _ _ _ h => h) (Or.inl ⟨by rfl, ?_⟩) (by assumption) ?_
  rotate_left
  · (intro w hSw; (try dsimp only at hSw); go_simp); (try with_reducible rfl)
  simp only [List.getElem_toArray, List.getElem_cons_zero, List.getElem_cons_succ, Act.put, List.setIfInBounds_toArray, List.set_cons_zero, List.set_cons_succ]
  refine wpAnyH_take (i := 81) (v := ?_) rfl (by as_aux_lemma => kernel_rfl) (by as_aux_lemma => kernel_rfl) (by as_aux_lemma => kernel_rfl) (fun _ _ _ h => h) (Or.inl ⟨by rfl, ?_⟩) (by assumption) ?_
  rotate_left
  · (intro w hSw; (try dsimp only at hSw); go_simp); (try with_reducible rfl)
  simp only [List.getElem_toArray, List.getElem_cons_zero, List.getElem_cons_succ, Act.put, List.setIfInBounds_toArray, List.set_cons_zero, List.set_cons_succ]
  refine wpAnyH_take (i := 82) (v := ?_) rfl (by as_aux_lemma => kernel_rfl) (by as_aux_lemma => kernel_rfl) (by as_aux_lemma => kernel_rfl) (fun _ _ _ h => h) (Or.inl ⟨by rfl, ?_⟩) (by assumption) ?_
  rotate_left
  · (intro w hSw; (try dsimp only at hSw); go_simp); (try with_reducible rfl)
  simp only [List.getElem_toArray, List.getElem_cons_zero, List.getElem_cons_succ, Act.put, List.setIfInBounds_toArray, List.set_cons_zero, List.set_cons_succ]
  refine wpAnyH_take (i := 83) (v := ?_) rfl (by as_aux_lemma => kernel_rfl) (by as_aux_lemma => kernel_rfl) (by as_aux_lemma => kernel_rfl) (fun _ _ _ h => h) (Or.inl ⟨by rfl, ?_⟩) (by assumption) ?_
  rotate_left
  · (intro w hSw; (try dsimp only at hSw); go_simp); (try with_reducible rfl)
  simp only [List.getElem_toArray, List.getElem_cons_zero, List.getElem_cons_succ, Act.put, List.setIfInBounds_toArray, List.set_cons_zero, List.set_cons_succ]
  refine wpAnyH_take (i := 84) (v := ?_) rfl (by as_aux_lemma => kernel_rfl) (by as_aux_lemma => kernel_rfl) (by as_aux_lemma => kernel_rfl) (fun _ _ _ h => h) (Or.inl ⟨by rfl, ?_⟩) (by assumption) ?_
  rotate_left
  · (intro w hSw; (try dsimp only at hSw); go_simp); (try with_reducible rfl)
  simp only [List.getElem_toArray, List.getElem_cons_zero, List.getElem_cons_succ, Act.put, List.setIfInBounds_toArray, List.set_cons_zero, List.set_cons_succ]
  refine wpAnyH_take (i := 85) (v := ?_) rfl (by as_aux_lemma => kernel_rfl) (by as_aux_lemma => kernel_rfl) (by as_aux_lemma => kernel_rfl) (fun _ _ _ h => h) (Or.inl ⟨by rfl, ?_⟩) (by assumption) ?_
  rotate_left
  · (intro w hSw; (try dsimp only at hSw); go_simp); (try with_reducible rfl)
  simp only [List.getElem_toArray, List.getElem_cons_zero, List.getElem_cons_succ, Act.put, List.setIfInBounds_toArray, List.set_cons_zero, List.set_cons_succ]
  refine wpAnyH_take (i := 86) (v := ?_) rfl (by as_aux_lemma => kernel_rfl) (by as_aux_lemma => kernel_rfl) (by as_aux_lemma => kernel_rfl) (fun _ _ _ h => h) (Or.inl ⟨by rfl, ?_⟩) (by assumption) ?_
  rotate_left
  · (intro w hSw; (try dsimp only at hSw); go_simp); (try with_reducible rfl)
  simp only [List.getElem_toArray, List.getElem_cons_zero, List.getElem_cons_succ, Act.put, List.setIfInBounds_toArray, List.set_cons_zero, List.set_cons_succ]
  refine wpAnyH_done (by as_aux_lemma => kernel_rfl) ?_ _
  go_wp2
  go_ret
  exact ⟨rfl, EV9.trans F26⟩
end Go.Proofs.YtimdglgianheiaaGreatDoor
