/- The walk of IvlPoint. -/
import Derived.Test.YtimdglgianheiaaDoorPE
namespace Go.Proofs.YtimdglgianheiaaDoor
open Go.RowKit
set_option maxRecDepth 100000 in
set_option maxHeartbeats 4000000 in
theorem point_no (w : World) (T : Tb w) (nbg : Bool) (Mg : Value) (xg : List Int) (ig : Int) (rowg : Row w Mg xg) (bdg : -9223372036854775808 ≤ ig ∧ ig ≤ 9223372036854775807) (nbh : Bool) (Mh : Value) (xh : List Int) (ih : Int) (rowh : Row w Mh xh) (bdh : -9223372036854775808 ≤ ih ∧ ih ≤ 9223372036854775807) (hg : goodAll 2 (pk nbg nbh nbh) (pk xg xh xh) (pk ig ih ih) = false) :
    Calls Tryd.prog 7 #[.agg #[.bool nbg, Mg, .int .i64 ig], .agg #[.bool nbh, Mh, .int .i64 ih]] w (RetE w (.bool true)) := by
  go_enter Tryd.func7, Tryd.ntmps7
  go_wp2_with fail
  refine (headI_any _ (T.ext (((Ext.refl w).alloc _).alloc _))).mono ?_
  rintro _ w1 ⟨rfl, f1⟩
  have Bg : Box w1 (w.heap.size) (.bool nbg) (Mg) (.int .i64 ig) := Box.at (((Ext.refl _).alloc _).trans f1) (by simp)
  have Bh : Box w1 (w.heap.size + 1) (.bool nbh) (Mh) (.int .i64 ih) := Box.at ((Ext.refl _).trans f1) (by simp)
  have e1 : Ext w w1 := (((Ext.refl w).alloc _).alloc _).trans f1
  replace T := T.ext e1
  replace rowg := rowg.ext e1
  replace rowh := rowh.ext e1
  have E1 : Ext w w1 := e1
  clear f1
  obtain ⟨Bg_0, Bg_1, Bg_2⟩ := id Bg
  have Bg_l := World.block_lt_of_cell? _ _ Bg_0
  obtain ⟨Bh_0, Bh_1, Bh_2⟩ := id Bh
  have Bh_l := World.block_lt_of_cell? _ _ Bh_0
  have HG := Lib.hid (good_any _ _ 2 2 _ _ _ _ (by omega) (many2 w1 24 nbg nbh Mg Mh xg xh ig ih rowg rowh bdg bdh))
  rw [hg] at HG
  clear hg
  go_wp2_with fail
  refine (HG.out).mono ?_
  rintro _ w2 ⟨rfl, f2⟩
  clear Bg_0 Bg_1 Bg_2 Bg_l Bh_0 Bh_1 Bh_2 Bh_l
  have e2 : Ext w1 w2 := ((Ext.refl w1).alloc _).trans f2
  replace T := T.ext e2
  replace rowg := rowg.ext e2
  replace rowh := rowh.ext e2
  replace Bg := Bg.ext e2
  replace Bh := Bh.ext e2
  have E2 : Ext w w2 := E1.trans e2
  clear e2 f2 E1
  clear HG
  go_wp2
  go_ret
  exact ⟨rfl, E2⟩
set_option maxRecDepth 100000 in
set_option maxHeartbeats 4000000 in
theorem point_yes (w : World) (T : Tb w) (nbg : Bool) (Mg : Value) (xg : List Int) (ig : Int) (rowg : Row w Mg xg) (bdg : -9223372036854775808 ≤ ig ∧ ig ≤ 9223372036854775807) (nbh : Bool) (Mh : Value) (xh : List Int) (ih : Int) (rowh : Row w Mh xh) (bdh : -9223372036854775808 ≤ ih ∧ ih ≤ 9223372036854775807) (hg : goodAll 2 (pk nbg nbh nbh) (pk xg xh xh) (pk ig ih ih) = true) (X Y : Dyadic) (nd : Dn w (.agg #[.bool nbg, Mg, .int .i64 ig]) X) (ne : Dn w (.agg #[.bool nbh, Mh, .int .i64 ih]) Y) (rd : Rg 200 392 X) (re : Rg 200 392 Y) :
    Calls Tryd.prog 7 #[.agg #[.bool nbg, Mg, .int .i64 ig], .agg #[.bool nbh, Mh, .int .i64 ih]] w (RetE w (.bool true)) := by
  go_enter Tryd.func7, Tryd.ntmps7
  go_wp2_with fail
  refine (headI_any _ (T.ext (((Ext.refl w).alloc _).alloc _))).mono ?_
  rintro _ w1 ⟨rfl, f1⟩
  have Bg : Box w1 (w.heap.size) (.bool nbg) (Mg) (.int .i64 ig) := Box.at (((Ext.refl _).alloc _).trans f1) (by simp)
  have Bh : Box w1 (w.heap.size + 1) (.bool nbh) (Mh) (.int .i64 ih) := Box.at ((Ext.refl _).trans f1) (by simp)
  have e1 : Ext w w1 := (((Ext.refl w).alloc _).alloc _).trans f1
  replace T := T.ext e1
  replace rowg := rowg.ext e1
  replace rowh := rowh.ext e1
  replace nd := nd.ext e1
  replace ne := ne.ext e1
  have E1 : Ext w w1 := e1
  clear f1
  obtain ⟨Bg_0, Bg_1, Bg_2⟩ := id Bg
  have Bg_l := World.block_lt_of_cell? _ _ Bg_0
  obtain ⟨Bh_0, Bh_1, Bh_2⟩ := id Bh
  have Bh_l := World.block_lt_of_cell? _ _ Bh_0
  have HG := Lib.hid (good_any _ _ 2 2 _ _ _ _ (by omega) (many2 w1 24 nbg nbh Mg Mh xg xh ig ih rowg rowh bdg bdh))
  rw [hg] at HG
  clear hg
  go_wp2_with fail
  refine (HG.out).mono ?_
  rintro _ w2 ⟨rfl, f2⟩
  clear Bg_0 Bg_1 Bg_2 Bg_l Bh_0 Bh_1 Bh_2 Bh_l
  have e2 : Ext w1 w2 := ((Ext.refl w1).alloc _).trans f2
  replace T := T.ext e2
  replace rowg := rowg.ext e2
  replace rowh := rowh.ext e2
  replace nd := nd.ext e2
  replace ne := ne.ext e2
  replace Bg := Bg.ext e2
  replace Bh := Bh.ext e2
  have E2 : Ext w w2 := E1.trans e2
  clear e2 f2 E1
  clear HG
  clear rowg rowh
  clear bdg bdh
  obtain ⟨Bg_0, Bg_1, Bg_2⟩ := id Bg
  have Bg_l := World.block_lt_of_cell? _ _ Bg_0
  go_wp2_with fail
  refine (ipoint_any _ _ X 200 392 nd rd (by omega) T).mono ?_
  rintro _ w3 ⟨v3, rfl, ia, f3⟩
  clear Bg_0 Bg_1 Bg_2 Bg_l
  have e3 : Ext w2 w3 := (Ext.refl w2).trans f3
  replace T := T.ext e3
  replace nd := nd.ext e3
  replace ne := ne.ext e3
  replace Bg := Bg.ext e3
  replace Bh := Bh.ext e3
  have E3 : Ext w w3 := E2.trans e3
  clear e3 f3 E2
  obtain ⟨bia, Aia, lia, cia, jia, bia', Aia', lia', cia', jia', rfl, ia_l, ia_h⟩ := ia
  obtain ⟨Bh_0, Bh_1, Bh_2⟩ := id Bh
  have Bh_l := World.block_lt_of_cell? _ _ Bh_0
  go_wp2_with fail
  refine (ipoint_any _ _ Y 200 392 (ne.ext ((Ext.refl w3).alloc _)) re (by omega) (T.ext ((Ext.refl w3).alloc _))).mono ?_
  rintro _ w4 ⟨v4, rfl, ib, f4⟩
  clear Bh_0 Bh_1 Bh_2 Bh_l
  have Va : Bx w4 (w3.heap.size) (.bool bia) (.slice Aia lia cia) (.int .i64 jia) (.bool bia') (.slice Aia' lia' cia') (.int .i64 jia') := Bx.at ((Ext.refl _).trans f4) (by simp)
  have e4 : Ext w3 w4 := ((Ext.refl w3).alloc _).trans f4
  replace T := T.ext e4
  replace nd := nd.ext e4
  replace ne := ne.ext e4
  replace ia_l := ia_l.ext e4
  replace ia_h := ia_h.ext e4
  replace Bg := Bg.ext e4
  replace Bh := Bh.ext e4
  have E4 : Ext w w4 := E3.trans e4
  clear e4 f4 E3
  obtain ⟨bib, Aib, lib, cib, jib, bib', Aib', lib', cib', jib', rfl, ib_l, ib_h⟩ := ib
  have ia := In.mk ia_l ia_h
  have ib := In.mk ib_l ib_h
  clear ia_l ia_h ib_l ib_h
  have rs := rd.add re
  have rp := rd.mul re
  have HQ := Lib.hid (And.intro (mlo_point X Y) (And.intro (mhi_point X Y) (And.intro (cmp_self0 X) (And.intro (has_point X Y) (show (hasB Y Y X && hasB Y Y X) = decide (X = Y) by rw [Bool.and_self, has_point]; exact decide_eq_decide.2 ⟨Eq.symm, Eq.symm⟩)))))
  obtain ⟨q, hq⟩ : ∃ q, decide (X = Y) = q := ⟨_, rfl⟩
  rw [hq] at HQ
  have HD := Lib.hid hq
  clear hq
  go_wp2
  try simp only [List.append_eq, List.cons_append, List.nil_append]
  have Vb : Bx (w4.alloc (.cells #[.bool bib, .slice Aib lib cib, .int .i64 jib, .bool bib', .slice Aib' lib' cib', .int .i64 jib'] 26)) w4.heap.size (.bool bib) (.slice Aib lib cib) (.int .i64 jib) (.bool bib') (.slice Aib' lib' cib') (.int .i64 jib') := Bx.at (Ext.refl _) rfl
  have eV9 : Ext w4 (w4.alloc (.cells #[.bool bib, .slice Aib lib cib, .int .i64 jib, .bool bib', .slice Aib' lib' cib', .int .i64 jib'] 26)) := (Ext.refl _).alloc _
  replace T := T.ext eV9
  replace nd := nd.ext eV9
  replace ne := ne.ext eV9
  replace ia := ia.ext eV9
  replace ib := ib.ext eV9
  replace Bg := Bg.ext eV9
  replace Bh := Bh.ext eV9
  replace Va := Va.ext eV9
  have EV9 := E4.trans eV9
  clear eV9 E4
  generalize hgen : (w4.alloc (.cells #[.bool bib, .slice Aib lib cib, .int .i64 jib, .bool bib', .slice Aib' lib' cib', .int .i64 jib'] 26)) = V9 at *
  clear hgen
  obtain ⟨Va_0, Va_1, Va_2, Va_3, Va_4, Va_5⟩ := id Va
  have Va_l := World.block_lt_of_cell? _ _ Va_0
  obtain ⟨Vb_0, Vb_1, Vb_2, Vb_3, Vb_4, Vb_5⟩ := id Vb
  have Vb_l := World.block_lt_of_cell? _ _ Vb_0
  obtain ⟨Bg_0, Bg_1, Bg_2⟩ := id Bg
  have Bg_l := World.block_lt_of_cell? _ _ Bg_0
  obtain ⟨Bh_0, Bh_1, Bh_2⟩ := id Bh
  have Bh_l := World.block_lt_of_cell? _ _ Bh_0
  refine wp_region_held_drew (S := (fun w' => (w'.cell? ⟨w3.heap.size, 0, none⟩ = some (.bool bia) ∧ w'.cell? ⟨w3.heap.size, 1, none⟩ = some (.slice Aia lia cia) ∧ w'.cell? ⟨w3.heap.size, 2, none⟩ = some (.int .i64 jia) ∧ w'.cell? ⟨w3.heap.size, 3, none⟩ = some (.bool bia') ∧ w'.cell? ⟨w3.heap.size, 4, none⟩ = some (.slice Aia' lia' cia') ∧ w'.cell? ⟨w3.heap.size, 5, none⟩ = some (.int .i64 jia')) ∧ (w'.cell? ⟨w4.heap.size, 0, none⟩ = some (.bool bib) ∧ w'.cell? ⟨w4.heap.size, 1, none⟩ = some (.slice Aib lib cib) ∧ w'.cell? ⟨w4.heap.size, 2, none⟩ = some (.int .i64 jib) ∧ w'.cell? ⟨w4.heap.size, 3, none⟩ = some (.bool bib') ∧ w'.cell? ⟨w4.heap.size, 4, none⟩ = some (.slice Aib' lib' cib') ∧ w'.cell? ⟨w4.heap.size, 5, none⟩ = some (.int .i64 jib')) ∧ (w'.cell? ⟨w.heap.size, 0, none⟩ = some (.bool nbg) ∧ w'.cell? ⟨w.heap.size, 1, none⟩ = some (Mg) ∧ w'.cell? ⟨w.heap.size, 2, none⟩ = some (.int .i64 ig)) ∧ (w'.cell? ⟨w.heap.size + 1, 0, none⟩ = some (.bool nbh) ∧ w'.cell? ⟨w.heap.size + 1, 1, none⟩ = some (Mh) ∧ w'.cell? ⟨w.heap.size + 1, 2, none⟩ = some (.int .i64 ih)))) (by kernel_rfl) ⟨bx6 (Va.ext (Ext.refl V9).drew), bx6 (Vb.ext (Ext.refl V9).drew), box3 (Bg.ext (Ext.refl V9).drew), box3 (Bh.ext (Ext.refl V9).drew)⟩ (fun hHeld => ?_)
  refine wpAnyH_take (i := 0) (v := ?_) rfl (by kernel_rfl) (by kernel_rfl) (by kernel_rfl) (fun _ _ _ h => h) (Or.inl ⟨by rfl, ?_⟩) (by assumption) ?_
  rotate_left
  · (intro w hSw; (try dsimp only at hSw); go_simp); (try with_reducible rfl)
  simp only [List.getElem_toArray, List.getElem_cons_zero, Act.put, List.setIfInBounds_toArray, List.set_cons_zero, List.set_cons_succ]
  refine wpAnyH_take (i := 1) (v := ?_) rfl (by kernel_rfl) (by kernel_rfl) (by kernel_rfl) (fun _ _ _ h => h) (Or.inl ⟨by rfl, ?_⟩) (by assumption) ?_
  rotate_left
  · (intro w hSw; (try dsimp only at hSw); go_simp); (try with_reducible rfl)
  simp only [List.getElem_toArray, List.getElem_cons_zero, List.getElem_cons_succ, Act.put, List.setIfInBounds_toArray, List.set_cons_zero, List.set_cons_succ]
  refine wpAnyH_take (i := 2) (v := ?_) rfl (by kernel_rfl) (by kernel_rfl) (by kernel_rfl) (fun _ _ _ h => h) (Or.inl ⟨by rfl, ?_⟩) (by assumption) ?_
  rotate_left
  · (intro w hSw; (try dsimp only at hSw); go_simp); (try with_reducible rfl)
  simp only [List.getElem_toArray, List.getElem_cons_zero, List.getElem_cons_succ, Act.put, List.setIfInBounds_toArray, List.set_cons_zero, List.set_cons_succ]
  refine wpAnyH_take (i := 3) (v := ?_) rfl (by kernel_rfl) (by kernel_rfl) (by kernel_rfl) (fun _ _ _ h => h) (Or.inl ⟨by rfl, ?_⟩) (by assumption) ?_
  rotate_left
  · (intro w hSw; (try dsimp only at hSw); go_simp); (try with_reducible rfl)
  simp only [List.getElem_toArray, List.getElem_cons_zero, List.getElem_cons_succ, Act.put, List.setIfInBounds_toArray, List.set_cons_zero, List.set_cons_succ]
  refine wpAnyH_take (i := 5) (v := ?_) rfl (by kernel_rfl) (by kernel_rfl) (by kernel_rfl) (fun _ _ _ h => h) (Or.inl ⟨by rfl, ?_⟩) (by assumption) ?_
  rotate_left
  · (intro w hSw; (try dsimp only at hSw); go_simp); (try with_reducible rfl)
  simp only [List.getElem_toArray, List.getElem_cons_zero, List.getElem_cons_succ, Act.put, List.setIfInBounds_toArray, List.set_cons_zero, List.set_cons_succ]
  refine wpAnyH_take (i := 6) (v := ?_) rfl (by kernel_rfl) (by kernel_rfl) (by kernel_rfl) (fun _ _ _ h => h) (Or.inl ⟨by rfl, ?_⟩) (by assumption) ?_
  rotate_left
  · (intro w hSw; (try dsimp only at hSw); go_simp); (try with_reducible rfl)
  simp only [List.getElem_toArray, List.getElem_cons_zero, List.getElem_cons_succ, Act.put, List.setIfInBounds_toArray, List.set_cons_zero, List.set_cons_succ]
  refine wpAnyH_ready (rs := [4]) (by kernel_rfl) (by simp) ?_
  refine AllReadyH.cons rfl (fun K hK => ?_) AllReadyH.nil
  go_simp
  refine (iadd_any _ _ _ X X Y Y 200 392 (ia.ext (Ext.refl V9).drew) (ib.ext (Ext.refl V9).drew) rd rd re re (by omega) (T.ext (Ext.refl V9).drew)).mono ?_
  rintro _ u1 ⟨vu1, rfl, m1, eu1⟩
  have F1 : Ext V9 u1 := (Ext.refl V9).drew.trans eu1
  refine hK.out _ _ ⟨bx6 (Va.ext F1), bx6 (Vb.ext F1), box3 (Bg.ext F1), box3 (Bh.ext F1)⟩ (fun hHeld => ?_)
  clear hK K eu1
  refine wpAnyH_ready (rs := [7]) (by kernel_rfl) (by simp) ?_
  refine AllReadyH.cons rfl (fun K hK => ?_) AllReadyH.nil
  go_simp
  refine (raddD_any _ _ _ X Y 200 392 (nd.ext F1) (ne.ext F1) rd re (by omega)).mono ?_
  rintro _ u2 ⟨vu2, rfl, m2, eu2⟩
  have F2 : Ext V9 u2 := F1.trans eu2
  replace m1 := m1.ext eu2
  refine hK.out _ _ ⟨bx6 (Va.ext F2), bx6 (Vb.ext F2), box3 (Bg.ext F2), box3 (Bh.ext F2)⟩ (fun hHeld => ?_)
  clear hK K eu2 F1
  refine wpAnyH_ready (rs := [8]) (by kernel_rfl) (by simp) ?_
  refine AllReadyH.cons rfl (fun K hK => ?_) AllReadyH.nil
  go_simp
  refine (rpoint_any _ _ _ m2).mono ?_
  rintro _ u3 ⟨vu3, rfl, m3, eu3⟩
  have F3 : Ext V9 u3 := F2.trans eu3
  replace m1 := m1.ext eu3
  replace m2 := m2.ext eu3
  refine hK.out _ _ ⟨bx6 (Va.ext F3), bx6 (Vb.ext F3), box3 (Bg.ext F3), box3 (Bh.ext F3)⟩ (fun hHeld => ?_)
  clear hK K eu3 F2
  refine wpAnyH_ready (rs := [9]) (by kernel_rfl) (by simp) ?_
  refine AllReadyH.cons rfl (fun K hK => ?_) AllReadyH.nil
  go_simp
  refine (risame_eq _ _ _ _ _ _ _ m1 m3 rfl rfl).mono ?_
  rintro _ u4 ⟨rfl, eu4⟩
  have F4 : Ext V9 u4 := F3.trans eu4
  replace m1 := m1.ext eu4
  replace m3 := m3.ext eu4
  refine hK.out _ _ ⟨bx6 (Va.ext F4), bx6 (Vb.ext F4), box3 (Bg.ext F4), box3 (Bh.ext F4)⟩ (fun hHeld => ?_)
  clear hK K eu4 F3 m2
  refine wpAnyH_take (i := 10) (v := ?_) rfl (by kernel_rfl) (by kernel_rfl) (by kernel_rfl) (fun _ _ _ h => h) (Or.inl ⟨by rfl, ?_⟩) (by assumption) ?_
  rotate_left
  · (intro w hSw; (try dsimp only at hSw); go_simp); (try with_reducible rfl)
  simp only [List.getElem_toArray, List.getElem_cons_zero, List.getElem_cons_succ, Act.put, List.setIfInBounds_toArray, List.set_cons_zero, List.set_cons_succ]
  refine wpAnyH_take (i := 11) (v := ?_) rfl (by kernel_rfl) (by kernel_rfl) (by kernel_rfl) (fun _ _ _ h => h) (Or.inl ⟨by rfl, ?_⟩) (by assumption) ?_
  rotate_left
  · (intro w hSw; (try dsimp only at hSw); go_simp); (try with_reducible rfl)
  simp only [List.getElem_toArray, List.getElem_cons_zero, List.getElem_cons_succ, Act.put, List.setIfInBounds_toArray, List.set_cons_zero, List.set_cons_succ]
  refine wpAnyH_take (i := 12) (v := ?_) rfl (by kernel_rfl) (by kernel_rfl) (by kernel_rfl) (fun _ _ _ h => h) (Or.inl ⟨by rfl, ?_⟩) (by assumption) ?_
  rotate_left
  · (intro w hSw; (try dsimp only at hSw); go_simp); (try with_reducible rfl)
  simp only [List.getElem_toArray, List.getElem_cons_zero, List.getElem_cons_succ, Act.put, List.setIfInBounds_toArray, List.set_cons_zero, List.set_cons_succ]
  refine wpAnyH_take (i := 13) (v := ?_) rfl (by kernel_rfl) (by kernel_rfl) (by kernel_rfl) (fun _ _ _ h => h) (Or.inl ⟨by rfl, ?_⟩) (by assumption) ?_
  rotate_left
  · (intro w hSw; (try dsimp only at hSw); go_simp); (try with_reducible rfl)
  simp only [List.getElem_toArray, List.getElem_cons_zero, List.getElem_cons_succ, Act.put, List.setIfInBounds_toArray, List.set_cons_zero, List.set_cons_succ]
  refine wpAnyH_take (i := 15) (v := ?_) rfl (by kernel_rfl) (by kernel_rfl) (by kernel_rfl) (fun _ _ _ h => h) (Or.inl ⟨by rfl, ?_⟩) (by assumption) ?_
  rotate_left
  · (intro w hSw; (try dsimp only at hSw); go_simp); (try with_reducible rfl)
  simp only [List.getElem_toArray, List.getElem_cons_zero, List.getElem_cons_succ, Act.put, List.setIfInBounds_toArray, List.set_cons_zero, List.set_cons_succ]
  refine wpAnyH_take (i := 16) (v := ?_) rfl (by kernel_rfl) (by kernel_rfl) (by kernel_rfl) (fun _ _ _ h => h) (Or.inl ⟨by rfl, ?_⟩) (by assumption) ?_
  rotate_left
  · (intro w hSw; (try dsimp only at hSw); go_simp); (try with_reducible rfl)
  simp only [List.getElem_toArray, List.getElem_cons_zero, List.getElem_cons_succ, Act.put, List.setIfInBounds_toArray, List.set_cons_zero, List.set_cons_succ]
  refine wpAnyH_ready (rs := [14]) (by kernel_rfl) (by simp) ?_
  refine AllReadyH.cons rfl (fun K hK => ?_) AllReadyH.nil
  go_simp
  refine (imul_lit _ _ _ X X Y Y (X * Y) (X * Y) 200 392 200 392 HQ.out.1 HQ.out.2.1 (ia.ext F4) (ib.ext F4) rd rd re re (by omega) (T.ext F4)).mono ?_
  rintro _ u5 ⟨vu5, rfl, m5, eu5⟩
  have F5 : Ext V9 u5 := F4.trans eu5
  refine hK.out _ _ ⟨bx6 (Va.ext F5), bx6 (Vb.ext F5), box3 (Bg.ext F5), box3 (Bh.ext F5)⟩ (fun hHeld => ?_)
  clear hK K eu5 F4 m1 m3
  refine wpAnyH_ready (rs := [17]) (by kernel_rfl) (by simp) ?_
  refine AllReadyH.cons rfl (fun K hK => ?_) AllReadyH.nil
  go_simp
  refine (rmulD_any _ _ _ X Y 200 392 200 392 (nd.ext F5) (ne.ext F5) rd re (by omega) (by omega)).mono ?_
  rintro _ u6 ⟨vu6, rfl, m6, eu6⟩
  have F6 : Ext V9 u6 := F5.trans eu6
  replace m5 := m5.ext eu6
  refine hK.out _ _ ⟨bx6 (Va.ext F6), bx6 (Vb.ext F6), box3 (Bg.ext F6), box3 (Bh.ext F6)⟩ (fun hHeld => ?_)
  clear hK K eu6 F5
  refine wpAnyH_ready (rs := [18]) (by kernel_rfl) (by simp) ?_
  refine AllReadyH.cons rfl (fun K hK => ?_) AllReadyH.nil
  go_simp
  refine (rpoint_any _ _ _ m6).mono ?_
  rintro _ u7 ⟨vu7, rfl, m7, eu7⟩
  have F7 : Ext V9 u7 := F6.trans eu7
  replace m5 := m5.ext eu7
  replace m6 := m6.ext eu7
  refine hK.out _ _ ⟨bx6 (Va.ext F7), bx6 (Vb.ext F7), box3 (Bg.ext F7), box3 (Bh.ext F7)⟩ (fun hHeld => ?_)
  clear hK K eu7 F6
  refine wpAnyH_ready (rs := [19]) (by kernel_rfl) (by simp) ?_
  refine AllReadyH.cons rfl (fun K hK => ?_) AllReadyH.nil
  go_simp
  refine (risame_eq _ _ _ _ _ _ _ m5 m7 rfl rfl).mono ?_
  rintro _ u8 ⟨rfl, eu8⟩
  have F8 : Ext V9 u8 := F7.trans eu8
  replace m5 := m5.ext eu8
  replace m7 := m7.ext eu8
  refine hK.out _ _ ⟨bx6 (Va.ext F8), bx6 (Vb.ext F8), box3 (Bg.ext F8), box3 (Bh.ext F8)⟩ (fun hHeld => ?_)
  clear hK K eu8 F7 m6
  refine wpAnyH_take (i := 20) (v := ?_) rfl (by kernel_rfl) (by kernel_rfl) (by kernel_rfl) (fun _ _ _ h => h) (Or.inl ⟨by rfl, ?_⟩) (by assumption) ?_
  rotate_left
  · (intro w hSw; (try dsimp only at hSw); go_simp); (try with_reducible rfl)
  simp only [List.getElem_toArray, List.getElem_cons_zero, List.getElem_cons_succ, Act.put, List.setIfInBounds_toArray, List.set_cons_zero, List.set_cons_succ]
  refine wpAnyH_take (i := 21) (v := ?_) rfl (by kernel_rfl) (by kernel_rfl) (by kernel_rfl) (fun _ _ _ h => h) (Or.inl ⟨by rfl, ?_⟩) (by assumption) ?_
  rotate_left
  · (intro w hSw; (try dsimp only at hSw); go_simp); (try with_reducible rfl)
  simp only [List.getElem_toArray, List.getElem_cons_zero, List.getElem_cons_succ, Act.put, List.setIfInBounds_toArray, List.set_cons_zero, List.set_cons_succ]
  refine wpAnyH_take (i := 22) (v := ?_) rfl (by kernel_rfl) (by kernel_rfl) (by kernel_rfl) (fun _ _ _ h => h) (Or.inl ⟨by rfl, ?_⟩) (by assumption) ?_
  rotate_left
  · (intro w hSw; (try dsimp only at hSw); go_simp); (try with_reducible rfl)
  simp only [List.getElem_toArray, List.getElem_cons_zero, List.getElem_cons_succ, Act.put, List.setIfInBounds_toArray, List.set_cons_zero, List.set_cons_succ]
  refine wpAnyH_take (i := 24) (v := ?_) rfl (by kernel_rfl) (by kernel_rfl) (by kernel_rfl) (fun _ _ _ h => h) (Or.inl ⟨by rfl, ?_⟩) (by assumption) ?_
  rotate_left
  · (intro w hSw; (try dsimp only at hSw); go_simp); (try with_reducible rfl)
  simp only [List.getElem_toArray, List.getElem_cons_zero, List.getElem_cons_succ, Act.put, List.setIfInBounds_toArray, List.set_cons_zero, List.set_cons_succ]
  refine wpAnyH_ready (rs := [23]) (by kernel_rfl) (by simp) ?_
  refine AllReadyH.cons rfl (fun K hK => ?_) AllReadyH.nil
  go_simp
  refine (iflip_any _ _ X X 200 392 (ia.ext F8) rd rd (by omega) (T.ext F8)).mono ?_
  rintro _ u9 ⟨vu9, rfl, m9, eu9⟩
  have F9 : Ext V9 u9 := F8.trans eu9
  refine hK.out _ _ ⟨bx6 (Va.ext F9), bx6 (Vb.ext F9), box3 (Bg.ext F9), box3 (Bh.ext F9)⟩ (fun hHeld => ?_)
  clear hK K eu9 F8 m5 m7
  refine wpAnyH_ready (rs := [25]) (by kernel_rfl) (by simp) ?_
  refine AllReadyH.cons rfl (fun K hK => ?_) AllReadyH.nil
  go_simp
  refine (rflip_any _ _ X (nd.ext F9)).mono ?_
  rintro _ u10 ⟨vu10, rfl, m10, eu10⟩
  have F10 : Ext V9 u10 := F9.trans eu10
  replace m9 := m9.ext eu10
  refine hK.out _ _ ⟨bx6 (Va.ext F10), bx6 (Vb.ext F10), box3 (Bg.ext F10), box3 (Bh.ext F10)⟩ (fun hHeld => ?_)
  clear hK K eu10 F9
  refine wpAnyH_ready (rs := [26]) (by kernel_rfl) (by simp) ?_
  refine AllReadyH.cons rfl (fun K hK => ?_) AllReadyH.nil
  go_simp
  refine (rpoint_any _ _ _ m10).mono ?_
  rintro _ u11 ⟨vu11, rfl, m11, eu11⟩
  have F11 : Ext V9 u11 := F10.trans eu11
  replace m9 := m9.ext eu11
  replace m10 := m10.ext eu11
  refine hK.out _ _ ⟨bx6 (Va.ext F11), bx6 (Vb.ext F11), box3 (Bg.ext F11), box3 (Bh.ext F11)⟩ (fun hHeld => ?_)
  clear hK K eu11 F10
  refine wpAnyH_ready (rs := [27]) (by kernel_rfl) (by simp) ?_
  refine AllReadyH.cons rfl (fun K hK => ?_) AllReadyH.nil
  go_simp
  refine (risame_eq _ _ _ _ _ _ _ m9 m11 rfl rfl).mono ?_
  rintro _ u12 ⟨rfl, eu12⟩
  have F12 : Ext V9 u12 := F11.trans eu12
  replace m9 := m9.ext eu12
  replace m11 := m11.ext eu12
  refine hK.out _ _ ⟨bx6 (Va.ext F12), bx6 (Vb.ext F12), box3 (Bg.ext F12), box3 (Bh.ext F12)⟩ (fun hHeld => ?_)
  clear hK K eu12 F11 m10
  refine wpAnyH_take (i := 28) (v := ?_) rfl (by kernel_rfl) (by kernel_rfl) (by kernel_rfl) (fun _ _ _ h => h) (Or.inl ⟨by rfl, ?_⟩) (by assumption) ?_
  rotate_left
  · (intro w hSw; (try dsimp only at hSw); go_simp); (try with_reducible rfl)
  simp only [List.getElem_toArray, List.getElem_cons_zero, List.getElem_cons_succ, Act.put, List.setIfInBounds_toArray, List.set_cons_zero, List.set_cons_succ]
  refine wpAnyH_take (i := 29) (v := ?_) rfl (by kernel_rfl) (by kernel_rfl) (by kernel_rfl) (fun _ _ _ h => h) (Or.inl ⟨by rfl, ?_⟩) (by assumption) ?_
  rotate_left
  · (intro w hSw; (try dsimp only at hSw); go_simp); (try with_reducible rfl)
  simp only [List.getElem_toArray, List.getElem_cons_zero, List.getElem_cons_succ, Act.put, List.setIfInBounds_toArray, List.set_cons_zero, List.set_cons_succ]
  refine wpAnyH_take (i := 30) (v := ?_) rfl (by kernel_rfl) (by kernel_rfl) (by kernel_rfl) (fun _ _ _ h => h) (Or.inl ⟨by rfl, ?_⟩) (by assumption) ?_
  rotate_left
  · (intro w hSw; (try dsimp only at hSw); go_simp); (try with_reducible rfl)
  simp only [List.getElem_toArray, List.getElem_cons_zero, List.getElem_cons_succ, Act.put, List.setIfInBounds_toArray, List.set_cons_zero, List.set_cons_succ]
  refine wpAnyH_ready (rs := [31]) (by kernel_rfl) (by simp) ?_
  refine AllReadyH.cons rfl (fun K hK => ?_) AllReadyH.nil
  go_simp
  refine (iwide_any _ _ X X 200 392 (ia.ext F12) rd rd (by omega) (T.ext F12)).mono ?_
  rintro _ u13 ⟨vu13, rfl, m13, eu13⟩
  have F13 : Ext V9 u13 := F12.trans eu13
  refine hK.out _ _ ⟨bx6 (Va.ext F13), bx6 (Vb.ext F13), box3 (Bg.ext F13), box3 (Bh.ext F13)⟩ (fun hHeld => ?_)
  clear hK K eu13 F12 m9 m11
  refine wpAnyH_ready (rs := [32]) (by kernel_rfl) (by simp) ?_
  refine AllReadyH.cons rfl (fun K hK => ?_) AllReadyH.nil
  go_simp
  refine (rsign_lit _ _ _ 0 HQ.out.2.2.1 m13).mono ?_
  rintro _ u14 ⟨rfl, eu14⟩
  have F14 : Ext V9 u14 := F13.trans eu14
  replace m13 := m13.ext eu14
  refine hK.out _ _ ⟨bx6 (Va.ext F14), bx6 (Vb.ext F14), box3 (Bg.ext F14), box3 (Bh.ext F14)⟩ (fun hHeld => ?_)
  clear hK K eu14 F13
  refine wpAnyH_take (i := 33) (v := ?_) rfl (by kernel_rfl) (by kernel_rfl) (by kernel_rfl) (fun _ _ _ h => h) (Or.inl ⟨by rfl, ?_⟩) (by assumption) ?_
  rotate_left
  · (intro w hSw; (try dsimp only at hSw); go_simp); (try with_reducible rfl)
  simp only [List.getElem_toArray, List.getElem_cons_zero, List.getElem_cons_succ, Act.put, List.setIfInBounds_toArray, List.set_cons_zero, List.set_cons_succ]
  refine wpAnyH_take (i := 34) (v := ?_) rfl (by kernel_rfl) (by kernel_rfl) (by kernel_rfl) (fun _ _ _ h => h) (Or.inl ⟨by rfl, ?_⟩) (by assumption) ?_
  rotate_left
  · (intro w hSw; (try dsimp only at hSw); go_simp); (try with_reducible rfl)
  simp only [List.getElem_toArray, List.getElem_cons_zero, List.getElem_cons_succ, Act.put, List.setIfInBounds_toArray, List.set_cons_zero, List.set_cons_succ]
  refine wpAnyH_take (i := 35) (v := ?_) rfl (by kernel_rfl) (by kernel_rfl) (by kernel_rfl) (fun _ _ _ h => h) (Or.inl ⟨by rfl, ?_⟩) (by assumption) ?_
  rotate_left
  · (intro w hSw; (try dsimp only at hSw); go_simp); (try with_reducible rfl)
  simp only [List.getElem_toArray, List.getElem_cons_zero, List.getElem_cons_succ, Act.put, List.setIfInBounds_toArray, List.set_cons_zero, List.set_cons_succ]
  refine wpAnyH_take (i := 36) (v := ?_) rfl (by kernel_rfl) (by kernel_rfl) (by kernel_rfl) (fun _ _ _ h => h) (Or.inl ⟨by rfl, ?_⟩) (by assumption) ?_
  rotate_left
  · (intro w hSw; (try dsimp only at hSw); go_simp); (try with_reducible rfl)
  simp only [List.getElem_toArray, List.getElem_cons_zero, List.getElem_cons_succ, Act.put, List.setIfInBounds_toArray, List.set_cons_zero, List.set_cons_succ]
  refine wpAnyH_take (i := 37) (v := ?_) rfl (by kernel_rfl) (by kernel_rfl) (by kernel_rfl) (fun _ _ _ h => h) (Or.inl ⟨by rfl, ?_⟩) (by assumption) ?_
  rotate_left
  · (intro w hSw; (try dsimp only at hSw); go_simp); (try with_reducible rfl)
  simp only [List.getElem_toArray, List.getElem_cons_zero, List.getElem_cons_succ, Act.put, List.setIfInBounds_toArray, List.set_cons_zero, List.set_cons_succ]
  refine wpAnyH_take (i := 39) (v := ?_) rfl (by kernel_rfl) (by kernel_rfl) (by kernel_rfl) (fun _ _ _ h => h) (Or.inl ⟨by rfl, ?_⟩) (by assumption) ?_
  rotate_left
  · (intro w hSw; (try dsimp only at hSw); go_simp); (try with_reducible rfl)
  simp only [List.getElem_toArray, List.getElem_cons_zero, List.getElem_cons_succ, Act.put, List.setIfInBounds_toArray, List.set_cons_zero, List.set_cons_succ]
  refine wpAnyH_take (i := 40) (v := ?_) rfl (by kernel_rfl) (by kernel_rfl) (by kernel_rfl) (fun _ _ _ h => h) (Or.inl ⟨by rfl, ?_⟩) (by assumption) ?_
  rotate_left
  · (intro w hSw; (try dsimp only at hSw); go_simp); (try with_reducible rfl)
  simp only [List.getElem_toArray, List.getElem_cons_zero, List.getElem_cons_succ, Act.put, List.setIfInBounds_toArray, List.set_cons_zero, List.set_cons_succ]
  refine wpAnyH_ready (rs := [38]) (by kernel_rfl) (by simp) ?_
  refine AllReadyH.cons rfl (fun K hK => ?_) AllReadyH.nil
  go_simp
  refine (has_lit _ _ _ X X Y 200 392 200 392 q HQ.out.2.2.2.1 (ia.ext F14) (ne.ext F14) rd rd re (by omega) (by omega)).mono ?_
  rintro _ u15 ⟨rfl, eu15⟩
  have F15 : Ext V9 u15 := F14.trans eu15
  refine hK.out _ _ ⟨bx6 (Va.ext F15), bx6 (Vb.ext F15), box3 (Bg.ext F15), box3 (Bh.ext F15)⟩ (fun hHeld => ?_)
  clear hK K eu15 F14 m13
  refine wpAnyH_ready (rs := [41]) (by kernel_rfl) (by simp) ?_
  refine AllReadyH.cons rfl (fun K hK => ?_) AllReadyH.nil
  go_simp
  refine (rsame_lit _ _ _ X Y q HD.out (nd.ext F15) (ne.ext F15)).mono ?_
  rintro _ u16 ⟨rfl, eu16⟩
  have F16 : Ext V9 u16 := F15.trans eu16
  refine hK.out _ _ ⟨bx6 (Va.ext F16), bx6 (Vb.ext F16), box3 (Bg.ext F16), box3 (Bh.ext F16)⟩ (fun hHeld => ?_)
  clear hK K eu16 F15
  refine wpAnyH_take (i := 42) (v := ?_) rfl (by kernel_rfl) (by kernel_rfl) (by kernel_rfl) (fun _ _ _ h => h) (Or.inl ⟨by rfl, ?_⟩) (by assumption) ?_
  rotate_left
  · (intro w hSw; (try dsimp only at hSw); go_simp); (try with_reducible rfl)
  simp only [List.getElem_toArray, List.getElem_cons_zero, List.getElem_cons_succ, Act.put, List.setIfInBounds_toArray, List.set_cons_zero, List.set_cons_succ]
  refine wpAnyH_take (i := 43) (v := ?_) rfl (by kernel_rfl) (by kernel_rfl) (by kernel_rfl) (fun _ _ _ h => h) (Or.inl ⟨by rfl, ?_⟩) (by assumption) ?_
  rotate_left
  · (intro w hSw; (try dsimp only at hSw); go_simp); (try with_reducible rfl)
  simp only [List.getElem_toArray, List.getElem_cons_zero, List.getElem_cons_succ, Act.put, List.setIfInBounds_toArray, List.set_cons_zero, List.set_cons_succ]
  refine wpAnyH_take (i := 44) (v := ?_) rfl (by kernel_rfl) (by kernel_rfl) (by kernel_rfl) (fun _ _ _ h => h) (Or.inl ⟨by rfl, ?_⟩) (by assumption) ?_
  rotate_left
  · (intro w hSw; (try dsimp only at hSw); go_simp); (try with_reducible rfl)
  simp only [List.getElem_toArray, List.getElem_cons_zero, List.getElem_cons_succ, Act.put, List.setIfInBounds_toArray, List.set_cons_zero, List.set_cons_succ]
  refine wpAnyH_take (i := 45) (v := ?_) rfl (by kernel_rfl) (by kernel_rfl) (by kernel_rfl) (fun _ _ _ h => h) (Or.inl ⟨by rfl, ?_⟩) (by assumption) ?_
  rotate_left
  · (intro w hSw; (try dsimp only at hSw); go_simp); (try with_reducible rfl)
  simp only [List.getElem_toArray, List.getElem_cons_zero, List.getElem_cons_succ, Act.put, List.setIfInBounds_toArray, List.set_cons_zero, List.set_cons_succ]
  refine wpAnyH_take (i := 46) (v := ?_) rfl (by kernel_rfl) (by kernel_rfl) (by kernel_rfl) (fun _ _ _ h => h) (Or.inl ⟨by rfl, ?_⟩) (by assumption) ?_
  rotate_left
  · (intro w hSw; (try dsimp only at hSw); go_simp); (try with_reducible rfl)
  simp only [List.getElem_toArray, List.getElem_cons_zero, List.getElem_cons_succ, Act.put, List.setIfInBounds_toArray, List.set_cons_zero, List.set_cons_succ]
  refine wpAnyH_take (i := 48) (v := ?_) rfl (by kernel_rfl) (by kernel_rfl) (by kernel_rfl) (fun _ _ _ h => h) (Or.inl ⟨by rfl, ?_⟩) (by assumption) ?_
  rotate_left
  · (intro w hSw; (try dsimp only at hSw); go_simp); (try with_reducible rfl)
  simp only [List.getElem_toArray, List.getElem_cons_zero, List.getElem_cons_succ, Act.put, List.setIfInBounds_toArray, List.set_cons_zero, List.set_cons_succ]
  refine wpAnyH_take (i := 49) (v := ?_) rfl (by kernel_rfl) (by kernel_rfl) (by kernel_rfl) (fun _ _ _ h => h) (Or.inl ⟨by rfl, ?_⟩) (by assumption) ?_
  rotate_left
  · (intro w hSw; (try dsimp only at hSw); go_simp); (try with_reducible rfl)
  simp only [List.getElem_toArray, List.getElem_cons_zero, List.getElem_cons_succ, Act.put, List.setIfInBounds_toArray, List.set_cons_zero, List.set_cons_succ]
  refine wpAnyH_ready (rs := [47]) (by kernel_rfl) (by simp) ?_
  refine AllReadyH.cons rfl (fun K hK => ?_) AllReadyH.nil
  go_simp
  refine (inside_lit _ _ _ X X Y Y 200 392 200 392 q HQ.out.2.2.2.2 (ia.ext F16) (ib.ext F16) rd rd re re (by omega) (by omega)).mono ?_
  rintro _ u17 ⟨rfl, eu17⟩
  have F17 : Ext V9 u17 := F16.trans eu17
  refine hK.out _ _ ⟨bx6 (Va.ext F17), bx6 (Vb.ext F17), box3 (Bg.ext F17), box3 (Bh.ext F17)⟩ (fun hHeld => ?_)
  clear hK K eu17 F16
  refine wpAnyH_ready (rs := [50]) (by kernel_rfl) (by simp) ?_
  refine AllReadyH.cons rfl (fun K hK => ?_) AllReadyH.nil
  go_simp
  refine (rsame_lit _ _ _ X Y q HD.out (nd.ext F17) (ne.ext F17)).mono ?_
  rintro _ u18 ⟨rfl, eu18⟩
  have F18 : Ext V9 u18 := F17.trans eu18
  refine hK.out _ _ ⟨bx6 (Va.ext F18), bx6 (Vb.ext F18), box3 (Bg.ext F18), box3 (Bh.ext F18)⟩ (fun hHeld => ?_)
  clear hK K eu18 F17
  refine wpAnyH_take (i := 51) (v := ?_) rfl (by kernel_rfl) (by kernel_rfl) (by kernel_rfl) (fun _ _ _ h => h) (Or.inl ⟨by rfl, ?_⟩) (by assumption) ?_
  rotate_left
  · (intro w hSw; (try dsimp only at hSw); go_simp); (try with_reducible rfl)
  simp only [List.getElem_toArray, List.getElem_cons_zero, List.getElem_cons_succ, Act.put, List.setIfInBounds_toArray, List.set_cons_zero, List.set_cons_succ]
  refine wpAnyH_take (i := 52) (v := ?_) rfl (by kernel_rfl) (by kernel_rfl) (by kernel_rfl) (fun _ _ _ h => h) (Or.inl ⟨by rfl, ?_⟩) (by assumption) ?_
  rotate_left
  · (intro w hSw; (try dsimp only at hSw); go_simp); (try with_reducible rfl)
  simp only [List.getElem_toArray, List.getElem_cons_zero, List.getElem_cons_succ, Act.put, List.setIfInBounds_toArray, List.set_cons_zero, List.set_cons_succ]
  refine wpAnyH_take (i := 53) (v := ?_) rfl (by kernel_rfl) (by kernel_rfl) (by kernel_rfl) (fun _ _ _ h => h) (Or.inl ⟨by rfl, ?_⟩) (by assumption) ?_
  rotate_left
  · (intro w hSw; (try dsimp only at hSw); go_simp); (try with_reducible rfl)
  simp only [List.getElem_toArray, List.getElem_cons_zero, List.getElem_cons_succ, Act.put, List.setIfInBounds_toArray, List.set_cons_zero, List.set_cons_succ]
  refine wpAnyH_done (by kernel_rfl) ?_ _
  go_wp2
  go_ret
  exact ⟨rfl, EV9.trans F18⟩
theorem walk_IvlPoint (w : World) (T : Tb w) (nbg : Bool) (Mg : Value) (xg : List Int) (ig : Int) (rowg : Row w Mg xg) (bdg : -9223372036854775808 ≤ ig ∧ ig ≤ 9223372036854775807) (nbh : Bool) (Mh : Value) (xh : List Int) (ih : Int) (rowh : Row w Mh xh) (bdh : -9223372036854775808 ≤ ih ∧ ih ≤ 9223372036854775807) : Calls Tryd.prog 7 #[.agg #[.bool nbg, Mg, .int .i64 ig], .agg #[.bool nbh, Mh, .int .i64 ih]] w (RetE w (.bool true)) := by
  cases hg : goodAll 2 (pk nbg nbh nbh) (pk xg xh xh) (pk ig ih ih)
  · exact point_no w T nbg Mg xg ig rowg bdg nbh Mh xh ih rowh bdh hg
  · have hall := pk_all (goodAll_true hg)
    obtain ⟨z1, n1, _, _, _, _, r1⟩ := good_num rowg (hall.1 (by omega))
    obtain ⟨z2, n2, _, _, _, _, r2⟩ := good_num rowh (hall.2.1 (by omega))
    exact point_yes w T nbg Mg xg ig rowg bdg nbh Mh xh ih rowh bdh hg _ _ n1 n2 r1 r2
end Go.Proofs.YtimdglgianheiaaDoor
