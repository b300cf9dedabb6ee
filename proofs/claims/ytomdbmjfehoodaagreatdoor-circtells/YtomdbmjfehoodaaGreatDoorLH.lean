/- The head of the laws on circ. -/
import Derived.Test.YtomdbmjfehoodaaGreatDoorLM
set_option maxRecDepth 8000
namespace Go.Proofs.YtomdbmjfehoodaaGreatDoor
open Go.RowKit
set_option linter.unusedVariables false
set_option linter.unusedSimpArgs false
theorem nat_at (w : World) (x : Int) (t : TypeId) (m g : Nat) (hg : w.heap.size = g) (h0 : 0 < x) (h1 : x < 16777216) (hm : x = (m : Int)) : N (w.alloc (.cells #[.int .i64 x] t)) (.slice (some ⟨g, 0, none⟩) 1 1) m := by
  subst hg; exact nat_one w x t m h0 h1 hm
theorem fm_lit8 : Fm 137438953472 1 3 := ⟨.inr ⟨by decide, by decide, by decide, by decide, by decide⟩⟩
theorem fm_lit2 : Fm 549755813888 1 1 := ⟨.inr ⟨by decide, by decide, by decide, by decide, by decide⟩⟩
theorem fm_lit4 : Fm 274877906944 1 2 := ⟨.inr ⟨by decide, by decide, by decide, by decide, by decide⟩⟩
theorem fm_lit16 : Fm 68719476736 1 4 := ⟨.inr ⟨by decide, by decide, by decide, by decide, by decide⟩⟩
/-- The head's enclosures and numbers, by name. -/
structure HeadN (C1 C2 S1 S2 Z1 Z2 D1 D2 X Y G O M B236 B237 : Dyadic) : Prop where
  c1 : tlo 1 (cv 137438953472).1 = C1
  c2 : thi 1 (cv 137438953472).1 = C2
  s1 : tlo 9 (cv 549755813888).1 = S1
  s2 : thi 9 (cv 549755813888).1 = S2
  z1 : tlo 5 (cv 274877906944).1 = Z1
  z2 : thi 5 (cv 274877906944).1 = Z2
  d1 : tlo 8 (cv 68719476736).1 = D1
  d2 : thi 8 (cv 68719476736).1 = D2
  e1 : C1 = dy 1 (-1)
  e2 : C2 = O
  e3 : S1 = M
  e4 : S2 = M
  e5 : Z1 = 0
  e6 : Z2 = 0
  e7 : D1 = B236
  e8 : D2 = B237
  oO : dy 1 0 = O
  oM : dy (-1) 0 = M
  oG : dy (-7) 0 = G
  oX : dy (sg true (5 : Int).toNat) (-2) = X
  oY : dy (sg true (3 : Int).toNat) (-1) = Y
  b6 : dy (sg false (236 : Int).toNat) (-8) = B236
  b7 : dy (sg false (237 : Int).toNat) (-8) = B237
  fX : flo 1 X = Y
  fG : flo 1 G = G
  rM : Rg 20 31 M
  rX : Rg 20 31 X
  rG : Rg 20 31 G
theorem headN_math : HeadN (tlo 1 (cv 137438953472).1) (thi 1 (cv 137438953472).1) (tlo 9 (cv 549755813888).1) (thi 9 (cv 549755813888).1) (tlo 5 (cv 274877906944).1) (thi 5 (cv 274877906944).1) (tlo 8 (cv 68719476736).1) (thi 8 (cv 68719476736).1) (dy (-5) (-2)) (dy (-3) (-1)) (dy (-7) 0) (dy 1 0) (dy (-1) 0) (dy 236 (-8)) (dy 237 (-8)) :=
  have h := headC_math
  ⟨rfl, rfl, rfl, rfl, rfl, rfl, rfl, rfl, h.c1, h.c2, h.s1, h.s2, h.z1, h.z2, h.d1, h.d2, rfl, rfl, rfl, rfl, rfl, rfl, rfl, flo_five, flo_seven, rg_lit _ _ (by omega) (by omega), rg_lit _ _ (by omega) (by omega), rg_lit _ _ (by omega) (by omega)⟩
set_option maxRecDepth 100000 in
set_option maxHeartbeats 40000000 in
theorem headC_main (w : World) (C1 C2 S1 S2 Z1 Z2 D1 D2 X Y G O M B236 B237 : Dyadic) (h : HeadN C1 C2 S1 S2 Z1 Z2 D1 D2 X Y G O M B236 B237) (T : Tb w) (P : Pl w) :
    Calls Tryz.prog 9 #[] w (RetE w (.bool true)) := by
  have H := Lib.hid h
  clear h
  go_enter Tryz.func9, Tryz.ntmps9
  go_wp2_with fail
  refine (ccos_lit _ (1) 3 1 1 137438953472 3 3 1 C1 C2 (by rfl) (by rfl) H.out.c1 H.out.c2 (by omega) (by omega) (by decide) fm_lit8 (by omega) (by omega) (by omega) T P).mono ?_
  rintro _ w1 ⟨v1, rfl, ic, f1⟩
  have e1 : Ext w w1 := (Ext.refl w).trans f1
  replace T := T.ext e1
  replace P := P.ext e1
  have E1 : Ext w w1 := e1
  clear f1
  obtain ⟨bic, Aic, lic, cic, jic, bic', Aic', lic', cic', jic', rfl, ic_l, ic_h⟩ := ic
  have ic := In.mk ic_l ic_h
  clear ic_l ic_h
  go_wp2_with fail
  refine (csin_lit _ (3) 2 9 1 549755813888 2 1 9 S1 S2 (by rfl) (by rfl) H.out.s1 H.out.s2 (by omega) (by omega) (by decide) fm_lit2 (by omega) (by omega) (by omega) (T.ext ((Ext.refl w1).alloc _)) (P.ext ((Ext.refl w1).alloc _))).mono ?_
  rintro _ w2 ⟨v2, rfl, is, f2⟩
  have Vc : Bx w2 (w1.heap.size) (.bool bic) (.slice Aic lic cic) (.int .i64 jic) (.bool bic') (.slice Aic' lic' cic') (.int .i64 jic') := Bx.at ((Ext.refl _).trans f2) (by simp)
  have e2 : Ext w1 w2 := ((Ext.refl w1).alloc _).trans f2
  replace T := T.ext e2
  replace P := P.ext e2
  replace ic := ic.ext e2
  have E2 : Ext w w2 := E1.trans e2
  clear e2 f2 E1
  obtain ⟨bis, Ais, lis, cis, jis, bis', Ais', lis', cis', jis', rfl, is_l, is_h⟩ := is
  have is := In.mk is_l is_h
  clear is_l is_h
  go_wp2_with fail
  refine (ccos_lit _ (1) 2 5 1 274877906944 2 2 5 Z1 Z2 (by rfl) (by rfl) H.out.z1 H.out.z2 (by omega) (by omega) (by decide) fm_lit4 (by omega) (by omega) (by omega) (T.ext ((Ext.refl w2).alloc _)) (P.ext ((Ext.refl w2).alloc _))).mono ?_
  rintro _ w3 ⟨v3, rfl, iz, f3⟩
  have Vs : Bx w3 (w2.heap.size) (.bool bis) (.slice Ais lis cis) (.int .i64 jis) (.bool bis') (.slice Ais' lis' cis') (.int .i64 jis') := Bx.at ((Ext.refl _).trans f3) (by simp)
  have e3 : Ext w2 w3 := ((Ext.refl w2).alloc _).trans f3
  replace T := T.ext e3
  replace P := P.ext e3
  replace ic := ic.ext e3
  replace is := is.ext e3
  replace Vc := Vc.ext e3
  have E3 : Ext w w3 := E2.trans e3
  clear e3 f3 E2
  obtain ⟨biz, Aiz, liz, ciz, jiz, biz', Aiz', liz', ciz', jiz', rfl, iz_l, iz_h⟩ := iz
  have iz := In.mk iz_l iz_h
  clear iz_l iz_h
  go_wp2_with fail
  refine (ccos_lit _ (1) 4 8 1 68719476736 4 4 8 D1 D2 (by rfl) (by rfl) H.out.d1 H.out.d2 (by omega) (by omega) (by decide) fm_lit16 (by omega) (by omega) (by omega) (T.ext ((Ext.refl w3).alloc _)) (P.ext ((Ext.refl w3).alloc _))).mono ?_
  rintro _ w4 ⟨v4, rfl, ie, f4⟩
  have Vz : Bx w4 (w3.heap.size) (.bool biz) (.slice Aiz liz ciz) (.int .i64 jiz) (.bool biz') (.slice Aiz' liz' ciz') (.int .i64 jiz') := Bx.at ((Ext.refl _).trans f4) (by simp)
  have e4 : Ext w3 w4 := ((Ext.refl w3).alloc _).trans f4
  replace T := T.ext e4
  replace P := P.ext e4
  replace ic := ic.ext e4
  replace is := is.ext e4
  replace iz := iz.ext e4
  replace Vc := Vc.ext e4
  replace Vs := Vs.ext e4
  have E4 : Ext w w4 := E3.trans e4
  clear e4 f4 E3
  obtain ⟨bie, Aie, lie, cie, jie, bie', Aie', lie', cie', jie', rfl, ie_l, ie_h⟩ := ie
  have ie := In.mk ie_l ie_h
  clear ie_l ie_h
  go_upto_region 5 with fail
  try simp only [List.append_eq, List.cons_append, List.nil_append]
  have Ve : Bx (w4.alloc (.cells #[.bool bie, .slice Aie lie cie, .int .i64 jie, .bool bie', .slice Aie' lie' cie', .int .i64 jie'] 33)) w4.heap.size (.bool bie) (.slice Aie lie cie) (.int .i64 jie) (.bool bie') (.slice Aie' lie' cie') (.int .i64 jie') := Bx.at (Ext.refl _) rfl
  have eW9 : Ext w4 (w4.alloc (.cells #[.bool bie, .slice Aie lie cie, .int .i64 jie, .bool bie', .slice Aie' lie' cie', .int .i64 jie'] 33)) := (Ext.refl _).alloc _
  replace T := T.ext eW9
  replace P := P.ext eW9
  replace ic := ic.ext eW9
  replace is := is.ext eW9
  replace iz := iz.ext eW9
  replace ie := ie.ext eW9
  replace Vc := Vc.ext eW9
  replace Vs := Vs.ext eW9
  replace Vz := Vz.ext eW9
  have EW9 := E4.trans eW9
  clear eW9 E4
  generalize hgen : (w4.alloc (.cells #[.bool bie, .slice Aie lie cie, .int .i64 jie, .bool bie', .slice Aie' lie' cie', .int .i64 jie'] 33)) = W9 at *
  clear hgen
  obtain ⟨Vc_0, Vc_1, Vc_2, Vc_3, Vc_4, Vc_5⟩ := id Vc
  have Vc_l := World.block_lt_of_cell? _ _ Vc_0
  obtain ⟨Vs_0, Vs_1, Vs_2, Vs_3, Vs_4, Vs_5⟩ := id Vs
  have Vs_l := World.block_lt_of_cell? _ _ Vs_0
  obtain ⟨Vz_0, Vz_1, Vz_2, Vz_3, Vz_4, Vz_5⟩ := id Vz
  have Vz_l := World.block_lt_of_cell? _ _ Vz_0
  obtain ⟨Ve_0, Ve_1, Ve_2, Ve_3, Ve_4, Ve_5⟩ := id Ve
  have Ve_l := World.block_lt_of_cell? _ _ Ve_0
  refine wp_region_held_drew (S := (fun w' => (w'.cell? ⟨w1.heap.size, 0, none⟩ = some (.bool bic) ∧ w'.cell? ⟨w1.heap.size, 1, none⟩ = some (.slice Aic lic cic) ∧ w'.cell? ⟨w1.heap.size, 2, none⟩ = some (.int .i64 jic) ∧ w'.cell? ⟨w1.heap.size, 3, none⟩ = some (.bool bic') ∧ w'.cell? ⟨w1.heap.size, 4, none⟩ = some (.slice Aic' lic' cic') ∧ w'.cell? ⟨w1.heap.size, 5, none⟩ = some (.int .i64 jic')) ∧ (w'.cell? ⟨w2.heap.size, 0, none⟩ = some (.bool bis) ∧ w'.cell? ⟨w2.heap.size, 1, none⟩ = some (.slice Ais lis cis) ∧ w'.cell? ⟨w2.heap.size, 2, none⟩ = some (.int .i64 jis) ∧ w'.cell? ⟨w2.heap.size, 3, none⟩ = some (.bool bis') ∧ w'.cell? ⟨w2.heap.size, 4, none⟩ = some (.slice Ais' lis' cis') ∧ w'.cell? ⟨w2.heap.size, 5, none⟩ = some (.int .i64 jis')) ∧ (w'.cell? ⟨w3.heap.size, 0, none⟩ = some (.bool biz) ∧ w'.cell? ⟨w3.heap.size, 1, none⟩ = some (.slice Aiz liz ciz) ∧ w'.cell? ⟨w3.heap.size, 2, none⟩ = some (.int .i64 jiz) ∧ w'.cell? ⟨w3.heap.size, 3, none⟩ = some (.bool biz') ∧ w'.cell? ⟨w3.heap.size, 4, none⟩ = some (.slice Aiz' liz' ciz') ∧ w'.cell? ⟨w3.heap.size, 5, none⟩ = some (.int .i64 jiz')) ∧ (w'.cell? ⟨w4.heap.size, 0, none⟩ = some (.bool bie) ∧ w'.cell? ⟨w4.heap.size, 1, none⟩ = some (.slice Aie lie cie) ∧ w'.cell? ⟨w4.heap.size, 2, none⟩ = some (.int .i64 jie) ∧ w'.cell? ⟨w4.heap.size, 3, none⟩ = some (.bool bie') ∧ w'.cell? ⟨w4.heap.size, 4, none⟩ = some (.slice Aie' lie' cie') ∧ w'.cell? ⟨w4.heap.size, 5, none⟩ = some (.int .i64 jie')))) (by as_aux_lemma => kernel_rfl) ⟨bx6 (Vc.ext (Ext.refl W9).drew), bx6 (Vs.ext (Ext.refl W9).drew), bx6 (Vz.ext (Ext.refl W9).drew), bx6 (Ve.ext (Ext.refl W9).drew)⟩ (fun hHeld => ?_)
  have F0 : Ext W9 (World.drew W9) := (Ext.refl _).drew
  generalize hgen : World.drew W9 = U0 at *
  clear hgen
  refine wpAnyH_take (i := 0) (v := ?_) rfl (by as_aux_lemma => kernel_rfl) (by as_aux_lemma => kernel_rfl) (by as_aux_lemma => kernel_rfl) (fun _ _ _ h => h) (Or.inl ⟨by rfl, ?_⟩) (by assumption) ?_
  rotate_left
  · (intro w hSw; (try dsimp only at hSw); go_simp); (try with_reducible rfl)
  simp only [List.getElem_toArray, List.getElem_cons_zero, Act.put, List.setIfInBounds_toArray, List.set_cons_zero, List.set_cons_succ]
  apply cutG
  · intro REST
    refine wpAnyH_ready (rs := [1, 3]) (by as_aux_lemma => kernel_rfl) (by simp) ?_
    refine AllReadyH.cons rfl (fun K hK => ?_) (AllReadyH.cons rfl (fun K hK => ?_) AllReadyH.nil)
    · go_simp
      refine hK.out _ _ ⟨bx6 (Vc.ext (F0.alloc _)), bx6 (Vs.ext (F0.alloc _)), bx6 (Vz.ext (F0.alloc _)), bx6 (Ve.ext (F0.alloc _))⟩ (fun hHeld => ?_)
      clear hK K
      refine wpAnyH_take (i := 2) (v := ?_) rfl (by as_aux_lemma => kernel_rfl) (by as_aux_lemma => kernel_rfl) (by as_aux_lemma => kernel_rfl) (fun _ _ _ h => h) (Or.inl ⟨by rfl, ?_⟩) (by assumption) ?_
      rotate_left
      · (intro w hSw; (try dsimp only at hSw); go_simp); (try with_reducible rfl)
      simp only [List.getElem_toArray, List.getElem_cons_zero, List.getElem_cons_succ, Act.put, List.setIfInBounds_toArray, List.set_cons_zero, List.set_cons_succ]
      refine wpAnyH_ready (rs := [3]) (by as_aux_lemma => kernel_rfl) (by simp) ?_
      refine AllReadyH.cons rfl (fun K hK => ?_) AllReadyH.nil
      go_simp
      refine (rof_lit _ 1 _ H.out.oO (by omega)).mono ?_
      rintro _ u1 ⟨v1, rfl, m1, e1⟩
      have F1 : Ext W9 u1 := (F0.alloc _).trans e1
      obtain ⟨y1, Y1, p1, q1, x1, rfl⟩ := m1.form
      refine hK.out _ _ ⟨bx6 (Vc.ext F1), bx6 (Vs.ext F1), bx6 (Vz.ext F1), bx6 (Ve.ext F1)⟩ (fun hHeld => ?_)
      clear hK K
      refine wpAnyH_take (i := 4) (v := ?_) rfl (by as_aux_lemma => kernel_rfl) (by as_aux_lemma => kernel_rfl) (by as_aux_lemma => kernel_rfl) (fun _ _ _ h => h) (Or.inl ⟨by rfl, ?_⟩) (by assumption) ?_
      rotate_left
      · (intro w hSw; (try dsimp only at hSw); go_simp); (try with_reducible rfl)
      simp only [List.getElem_toArray, List.getElem_cons_zero, List.getElem_cons_succ, Act.put, List.setIfInBounds_toArray, List.set_cons_zero, List.set_cons_succ]
      refine wpAnyH_ready (rs := [5]) (by as_aux_lemma => kernel_rfl) (by simp) ?_
      refine AllReadyH.cons rfl (fun K hK => ?_) AllReadyH.nil
      go_simp
      refine (risame_eq _ _ _ _ _ _ _ (ic.ext F1) (In.mk ((lit_dn _ 1 (-1) 1 false _ (by omega) (by omega) (by omega) (by rfl)).ext ((Ext.refl _).trans e1)) (m1.ext (Ext.refl _))) H.out.e1 H.out.e2).mono ?_
      rintro _ u2 ⟨rfl, e2⟩
      have F2 : Ext W9 u2 := F1.trans e2
      refine hK.out _ _ ⟨bx6 (Vc.ext F2), bx6 (Vs.ext F2), bx6 (Vz.ext F2), bx6 (Ve.ext F2)⟩ (fun hHeld => ?_)
      clear hK K e2
      generalize Value.agg #[.bool false, Value.slice (some ⟨U0.heap.size, 0, none⟩) 1 1, .int .i64 (-1), .bool y1, .slice Y1 p1 q1, .int .i64 x1] = z0
      generalize Value.agg #[.bool false, Value.slice (some ⟨U0.heap.size, 0, none⟩) 1 1, .int .i64 (-1)] = z1
      generalize Value.slice (some ⟨U0.heap.size, 0, none⟩) 1 1 = z2
      generalize Value.agg #[.bool y1, .slice Y1 p1 q1, .int .i64 x1] = z3
      revert z0 z1 z2 z3
      revert hHeld F2 u2
      exact REST.out
    · go_simp
      refine (rof_lit _ 1 _ H.out.oO (by omega)).mono ?_
      rintro _ u3 ⟨v3, rfl, m3, e3⟩
      have F3 : Ext W9 u3 := F0.trans e3
      obtain ⟨y3, Y3, p3, q3, x3, rfl⟩ := m3.form
      refine hK.out _ _ ⟨bx6 (Vc.ext F3), bx6 (Vs.ext F3), bx6 (Vz.ext F3), bx6 (Ve.ext F3)⟩ (fun hHeld => ?_)
      clear hK K
      refine wpAnyH_ready (rs := [1]) (by as_aux_lemma => kernel_rfl) (by simp) ?_
      refine AllReadyH.cons rfl (fun K hK => ?_) AllReadyH.nil
      go_simp
      refine hK.out _ _ ⟨bx6 (Vc.ext (F3.alloc _)), bx6 (Vs.ext (F3.alloc _)), bx6 (Vz.ext (F3.alloc _)), bx6 (Ve.ext (F3.alloc _))⟩ (fun hHeld => ?_)
      clear hK K
      refine wpAnyH_take (i := 2) (v := ?_) rfl (by as_aux_lemma => kernel_rfl) (by as_aux_lemma => kernel_rfl) (by as_aux_lemma => kernel_rfl) (fun _ _ _ h => h) (Or.inl ⟨by rfl, ?_⟩) (by assumption) ?_
      rotate_left
      · (intro w hSw; (try dsimp only at hSw); go_simp); (try with_reducible rfl)
      simp only [List.getElem_toArray, List.getElem_cons_zero, List.getElem_cons_succ, Act.put, List.setIfInBounds_toArray, List.set_cons_zero, List.set_cons_succ]
      refine wpAnyH_take (i := 4) (v := ?_) rfl (by as_aux_lemma => kernel_rfl) (by as_aux_lemma => kernel_rfl) (by as_aux_lemma => kernel_rfl) (fun _ _ _ h => h) (Or.inl ⟨by rfl, ?_⟩) (by assumption) ?_
      rotate_left
      · (intro w hSw; (try dsimp only at hSw); go_simp); (try with_reducible rfl)
      simp only [List.getElem_toArray, List.getElem_cons_zero, List.getElem_cons_succ, Act.put, List.setIfInBounds_toArray, List.set_cons_zero, List.set_cons_succ]
      refine wpAnyH_ready (rs := [5]) (by as_aux_lemma => kernel_rfl) (by simp) ?_
      refine AllReadyH.cons rfl (fun K hK => ?_) AllReadyH.nil
      go_simp
      refine (risame_eq _ _ _ _ _ _ _ (ic.ext (F3.alloc _)) (In.mk ((lit_dn _ 1 (-1) 1 false _ (by omega) (by omega) (by omega) (by rfl)).ext (Ext.refl _)) (m3.ext ((Ext.refl _).alloc _))) H.out.e1 H.out.e2).mono ?_
      rintro _ u4 ⟨rfl, e4⟩
      have F4 : Ext W9 u4 := (F3.alloc _).trans e4
      refine hK.out _ _ ⟨bx6 (Vc.ext F4), bx6 (Vs.ext F4), bx6 (Vz.ext F4), bx6 (Ve.ext F4)⟩ (fun hHeld => ?_)
      clear hK K e4
      generalize Value.agg #[.bool false, Value.slice (some ⟨u3.heap.size, 0, none⟩) 1 1, .int .i64 (-1), .bool y3, .slice Y3 p3 q3, .int .i64 x3] = z0
      generalize Value.agg #[.bool false, Value.slice (some ⟨u3.heap.size, 0, none⟩) 1 1, .int .i64 (-1)] = z1
      generalize Value.slice (some ⟨u3.heap.size, 0, none⟩) 1 1 = z2
      generalize Value.agg #[.bool y3, .slice Y3 p3 q3, .int .i64 x3] = z3
      revert z0 z1 z2 z3
      revert hHeld F4 u4
      exact REST.out
  clear hHeld F0
  intro u5 F5 hHeld z3 z2 z1 z0
  refine wpAnyH_take (i := 6) (v := ?_) rfl (by as_aux_lemma => kernel_rfl) (by as_aux_lemma => kernel_rfl) (by as_aux_lemma => kernel_rfl) (fun _ _ _ h => h) (Or.inl ⟨by rfl, ?_⟩) (by assumption) ?_
  rotate_left
  · (intro w hSw; (try dsimp only at hSw); go_simp); (try with_reducible rfl)
  simp only [List.getElem_toArray, List.getElem_cons_zero, List.getElem_cons_succ, Act.put, List.setIfInBounds_toArray, List.set_cons_zero, List.set_cons_succ]
  refine wpAnyH_take (i := 7) (v := ?_) rfl (by as_aux_lemma => kernel_rfl) (by as_aux_lemma => kernel_rfl) (by as_aux_lemma => kernel_rfl) (fun _ _ _ h => h) (Or.inl ⟨by rfl, ?_⟩) (by assumption) ?_
  rotate_left
  · (intro w hSw; (try dsimp only at hSw); go_simp); (try with_reducible rfl)
  simp only [List.getElem_toArray, List.getElem_cons_zero, List.getElem_cons_succ, Act.put, List.setIfInBounds_toArray, List.set_cons_zero, List.set_cons_succ]
  refine wpAnyH_ready (rs := [8]) (by as_aux_lemma => kernel_rfl) (by simp) ?_
  refine AllReadyH.cons rfl (fun K hK => ?_) AllReadyH.nil
  go_simp
  refine (rof_lit _ (-1) _ H.out.oM (by omega)).mono ?_
  rintro _ u6 ⟨v6, rfl, a1, e6⟩
  have F6 : Ext W9 u6 := F5.trans e6
  refine hK.out _ _ ⟨bx6 (Vc.ext F6), bx6 (Vs.ext F6), bx6 (Vz.ext F6), bx6 (Ve.ext F6)⟩ (fun hHeld => ?_)
  clear hK K e6 F5
  refine wpAnyH_ready (rs := [9]) (by as_aux_lemma => kernel_rfl) (by simp) ?_
  refine AllReadyH.cons rfl (fun K hK => ?_) AllReadyH.nil
  go_simp
  refine (rpoint_any _ _ M a1).mono ?_
  rintro _ u7 ⟨v7, rfl, a2, e7⟩
  have F7 : Ext W9 u7 := F6.trans e7
  replace a1 := a1.ext e7
  refine hK.out _ _ ⟨bx6 (Vc.ext F7), bx6 (Vs.ext F7), bx6 (Vz.ext F7), bx6 (Ve.ext F7)⟩ (fun hHeld => ?_)
  clear hK K e7 F6
  refine wpAnyH_ready (rs := [10]) (by as_aux_lemma => kernel_rfl) (by simp) ?_
  refine AllReadyH.cons rfl (fun K hK => ?_) AllReadyH.nil
  go_simp
  refine (risame_eq _ _ _ _ _ _ _ (is.ext F7) a2 H.out.e3 H.out.e4).mono ?_
  rintro _ u8 ⟨rfl, e8⟩
  have F8 : Ext W9 u8 := F7.trans e8
  replace a1 := a1.ext e8
  replace a2 := a2.ext e8
  refine hK.out _ _ ⟨bx6 (Vc.ext F8), bx6 (Vs.ext F8), bx6 (Vz.ext F8), bx6 (Ve.ext F8)⟩ (fun hHeld => ?_)
  clear hK K e8 F7
  clear a1 a2
  refine wpAnyH_take (i := 11) (v := ?_) rfl (by as_aux_lemma => kernel_rfl) (by as_aux_lemma => kernel_rfl) (by as_aux_lemma => kernel_rfl) (fun _ _ _ h => h) (Or.inl ⟨by rfl, ?_⟩) (by assumption) ?_
  rotate_left
  · (intro w hSw; (try dsimp only at hSw); go_simp); (try with_reducible rfl)
  simp only [List.getElem_toArray, List.getElem_cons_zero, List.getElem_cons_succ, Act.put, List.setIfInBounds_toArray, List.set_cons_zero, List.set_cons_succ]
  refine wpAnyH_take (i := 12) (v := ?_) rfl (by as_aux_lemma => kernel_rfl) (by as_aux_lemma => kernel_rfl) (by as_aux_lemma => kernel_rfl) (fun _ _ _ h => h) (Or.inl ⟨by rfl, ?_⟩) (by assumption) ?_
  rotate_left
  · (intro w hSw; (try dsimp only at hSw); go_simp); (try with_reducible rfl)
  simp only [List.getElem_toArray, List.getElem_cons_zero, List.getElem_cons_succ, Act.put, List.setIfInBounds_toArray, List.set_cons_zero, List.set_cons_succ]
  refine wpAnyH_take (i := 13) (v := ?_) rfl (by as_aux_lemma => kernel_rfl) (by as_aux_lemma => kernel_rfl) (by as_aux_lemma => kernel_rfl) (fun _ _ _ h => h) (Or.inl ⟨by rfl, ?_⟩) (by assumption) ?_
  rotate_left
  · (intro w hSw; (try dsimp only at hSw); go_simp); (try with_reducible rfl)
  simp only [List.getElem_toArray, List.getElem_cons_zero, List.getElem_cons_succ, Act.put, List.setIfInBounds_toArray, List.set_cons_zero, List.set_cons_succ]
  refine wpAnyH_take (i := 14) (v := ?_) rfl (by as_aux_lemma => kernel_rfl) (by as_aux_lemma => kernel_rfl) (by as_aux_lemma => kernel_rfl) (fun _ _ _ h => h) (Or.inl ⟨by rfl, ?_⟩) (by assumption) ?_
  rotate_left
  · (intro w hSw; (try dsimp only at hSw); go_simp); (try with_reducible rfl)
  simp only [List.getElem_toArray, List.getElem_cons_zero, List.getElem_cons_succ, Act.put, List.setIfInBounds_toArray, List.set_cons_zero, List.set_cons_succ]
  refine wpAnyH_ready (rs := [15]) (by as_aux_lemma => kernel_rfl) (by simp) ?_
  refine AllReadyH.cons rfl (fun K hK => ?_) AllReadyH.nil
  go_simp
  refine (risame_eq _ _ _ _ _ _ _ (iz.ext F8) (In.zero _) H.out.e5 H.out.e6).mono ?_
  rintro _ u9 ⟨rfl, e9⟩
  have F9 : Ext W9 u9 := F8.trans e9
  refine hK.out _ _ ⟨bx6 (Vc.ext F9), bx6 (Vs.ext F9), bx6 (Vz.ext F9), bx6 (Ve.ext F9)⟩ (fun hHeld => ?_)
  clear hK K e9 F8
  refine wpAnyH_take (i := 16) (v := ?_) rfl (by as_aux_lemma => kernel_rfl) (by as_aux_lemma => kernel_rfl) (by as_aux_lemma => kernel_rfl) (fun _ _ _ h => h) (Or.inl ⟨by rfl, ?_⟩) (by assumption) ?_
  rotate_left
  · (intro w hSw; (try dsimp only at hSw); go_simp); (try with_reducible rfl)
  simp only [List.getElem_toArray, List.getElem_cons_zero, List.getElem_cons_succ, Act.put, List.setIfInBounds_toArray, List.set_cons_zero, List.set_cons_succ]
  refine wpAnyH_take (i := 17) (v := ?_) rfl (by as_aux_lemma => kernel_rfl) (by as_aux_lemma => kernel_rfl) (by as_aux_lemma => kernel_rfl) (fun _ _ _ h => h) (Or.inl ⟨by rfl, ?_⟩) (by assumption) ?_
  rotate_left
  · (intro w hSw; (try dsimp only at hSw); go_simp); (try with_reducible rfl)
  simp only [List.getElem_toArray, List.getElem_cons_zero, List.getElem_cons_succ, Act.put, List.setIfInBounds_toArray, List.set_cons_zero, List.set_cons_succ]
  refine wpAnyH_take (i := 18) (v := ?_) rfl (by as_aux_lemma => kernel_rfl) (by as_aux_lemma => kernel_rfl) (by as_aux_lemma => kernel_rfl) (fun _ _ _ h => h) (Or.inl ⟨by rfl, ?_⟩) (by assumption) ?_
  rotate_left
  · (intro w hSw; (try dsimp only at hSw); go_simp); (try with_reducible rfl)
  simp only [List.getElem_toArray, List.getElem_cons_zero, List.getElem_cons_succ, Act.put, List.setIfInBounds_toArray, List.set_cons_zero, List.set_cons_succ]
  apply cutG
  · intro REST
    refine wpAnyH_ready (rs := [19, 21]) (by as_aux_lemma => kernel_rfl) (by simp) ?_
    refine AllReadyH.cons rfl (fun K hK => ?_) (AllReadyH.cons rfl (fun K hK => ?_) AllReadyH.nil)
    · go_simp
      refine hK.out _ _ ⟨bx6 (Vc.ext (F9.alloc _)), bx6 (Vs.ext (F9.alloc _)), bx6 (Vz.ext (F9.alloc _)), bx6 (Ve.ext (F9.alloc _))⟩ (fun hHeld => ?_)
      clear hK K
      refine wpAnyH_ready (rs := [20, 21]) (by as_aux_lemma => kernel_rfl) (by simp) ?_
      refine AllReadyH.cons rfl (fun K hK => ?_) (AllReadyH.cons rfl (fun K hK => ?_) AllReadyH.nil)
      · go_simp
        refine (rmake_lit _ false _ _ (-8) _ H.out.b6 ((nat_at _ 236 _ (236 : Int).toNat _ (by simp) (by omega) (by omega) (by omega)).ext (Ext.refl _)) (lt_lit (by decide)) (by omega)).mono ?_
        rintro _ u10 ⟨v10, rfl, m10, e10⟩
        have F10 : Ext W9 u10 := (F9.alloc _).trans e10
        obtain ⟨y10, Y10, p10, q10, x10, rfl⟩ := m10.form
        refine hK.out _ _ ⟨bx6 (Vc.ext F10), bx6 (Vs.ext F10), bx6 (Vz.ext F10), bx6 (Ve.ext F10)⟩ (fun hHeld => ?_)
        clear hK K
        refine wpAnyH_ready (rs := [21]) (by as_aux_lemma => kernel_rfl) (by simp) ?_
        refine AllReadyH.cons rfl (fun K hK => ?_) AllReadyH.nil
        go_simp
        refine hK.out _ _ ⟨bx6 (Vc.ext (F10.alloc _)), bx6 (Vs.ext (F10.alloc _)), bx6 (Vz.ext (F10.alloc _)), bx6 (Ve.ext (F10.alloc _))⟩ (fun hHeld => ?_)
        clear hK K
        refine wpAnyH_ready (rs := [22]) (by as_aux_lemma => kernel_rfl) (by simp) ?_
        refine AllReadyH.cons rfl (fun K hK => ?_) AllReadyH.nil
        go_simp
        refine (rmake_lit _ false _ _ (-8) _ H.out.b7 ((nat_at _ 237 _ (237 : Int).toNat _ (by simp) (by omega) (by omega) (by omega)).ext (Ext.refl _)) (lt_lit (by decide)) (by omega)).mono ?_
        rintro _ u11 ⟨v11, rfl, m11, e11⟩
        have F11 : Ext W9 u11 := (F10.alloc _).trans e11
        obtain ⟨y11, Y11, p11, q11, x11, rfl⟩ := m11.form
        refine hK.out _ _ ⟨bx6 (Vc.ext F11), bx6 (Vs.ext F11), bx6 (Vz.ext F11), bx6 (Ve.ext F11)⟩ (fun hHeld => ?_)
        clear hK K
        refine wpAnyH_take (i := 23) (v := ?_) rfl (by as_aux_lemma => kernel_rfl) (by as_aux_lemma => kernel_rfl) (by as_aux_lemma => kernel_rfl) (fun _ _ _ h => h) (Or.inl ⟨by rfl, ?_⟩) (by assumption) ?_
        rotate_left
        · (intro w hSw; (try dsimp only at hSw); go_simp); (try with_reducible rfl)
        simp only [List.getElem_toArray, List.getElem_cons_zero, List.getElem_cons_succ, Act.put, List.setIfInBounds_toArray, List.set_cons_zero, List.set_cons_succ]
        refine wpAnyH_ready (rs := [24]) (by as_aux_lemma => kernel_rfl) (by simp) ?_
        refine AllReadyH.cons rfl (fun K hK => ?_) AllReadyH.nil
        go_simp
        refine (risame_eq _ _ _ _ _ _ _ (ie.ext F11) (In.mk (m10.ext (((Ext.refl _).alloc _).trans e11)) (m11.ext (Ext.refl _))) H.out.e7 H.out.e8).mono ?_
        rintro _ u12 ⟨rfl, e12⟩
        have F12 : Ext W9 u12 := F11.trans e12
        refine hK.out _ _ ⟨bx6 (Vc.ext F12), bx6 (Vs.ext F12), bx6 (Vz.ext F12), bx6 (Ve.ext F12)⟩ (fun hHeld => ?_)
        clear hK K e12
        generalize Value.agg #[.bool y10, .slice Y10 p10 q10, .int .i64 x10, .bool y11, .slice Y11 p11 q11, .int .i64 x11] = z0
        generalize Value.agg #[.bool y10, .slice Y10 p10 q10, .int .i64 x10] = z1
        generalize Value.agg #[.bool y11, .slice Y11 p11 q11, .int .i64 x11] = z2
        generalize Value.slice (some ⟨u9.heap.size, 0, none⟩) 1 1 = z3
        generalize Value.slice (some ⟨u10.heap.size, 0, none⟩) 1 1 = z4
        revert z0 z1 z2 z3 z4
        revert hHeld F12 u12
        exact REST.out
      · go_simp
        refine hK.out _ _ ⟨bx6 (Vc.ext ((F9.alloc _).alloc _)), bx6 (Vs.ext ((F9.alloc _).alloc _)), bx6 (Vz.ext ((F9.alloc _).alloc _)), bx6 (Ve.ext ((F9.alloc _).alloc _))⟩ (fun hHeld => ?_)
        clear hK K
        refine wpAnyH_ready (rs := [20]) (by as_aux_lemma => kernel_rfl) (by simp) ?_
        refine AllReadyH.cons rfl (fun K hK => ?_) AllReadyH.nil
        go_simp
        refine (rmake_lit _ false _ _ (-8) _ H.out.b6 ((nat_at _ 236 _ (236 : Int).toNat _ (by simp) (by omega) (by omega) (by omega)).ext ((Ext.refl _).alloc _)) (lt_lit (by decide)) (by omega)).mono ?_
        rintro _ u13 ⟨v13, rfl, m13, e13⟩
        have F13 : Ext W9 u13 := ((F9.alloc _).alloc _).trans e13
        obtain ⟨y13, Y13, p13, q13, x13, rfl⟩ := m13.form
        refine hK.out _ _ ⟨bx6 (Vc.ext F13), bx6 (Vs.ext F13), bx6 (Vz.ext F13), bx6 (Ve.ext F13)⟩ (fun hHeld => ?_)
        clear hK K
        refine wpAnyH_ready (rs := [22]) (by as_aux_lemma => kernel_rfl) (by simp) ?_
        refine AllReadyH.cons rfl (fun K hK => ?_) AllReadyH.nil
        go_simp
        refine (rmake_lit _ false _ _ (-8) _ H.out.b7 ((nat_at _ 237 _ (237 : Int).toNat _ (by simp) (by omega) (by omega) (by omega)).ext ((Ext.refl _).trans e13)) (lt_lit (by decide)) (by omega)).mono ?_
        rintro _ u14 ⟨v14, rfl, m14, e14⟩
        have F14 : Ext W9 u14 := F13.trans e14
        obtain ⟨y14, Y14, p14, q14, x14, rfl⟩ := m14.form
        refine hK.out _ _ ⟨bx6 (Vc.ext F14), bx6 (Vs.ext F14), bx6 (Vz.ext F14), bx6 (Ve.ext F14)⟩ (fun hHeld => ?_)
        clear hK K
        refine wpAnyH_take (i := 23) (v := ?_) rfl (by as_aux_lemma => kernel_rfl) (by as_aux_lemma => kernel_rfl) (by as_aux_lemma => kernel_rfl) (fun _ _ _ h => h) (Or.inl ⟨by rfl, ?_⟩) (by assumption) ?_
        rotate_left
        · (intro w hSw; (try dsimp only at hSw); go_simp); (try with_reducible rfl)
        simp only [List.getElem_toArray, List.getElem_cons_zero, List.getElem_cons_succ, Act.put, List.setIfInBounds_toArray, List.set_cons_zero, List.set_cons_succ]
        refine wpAnyH_ready (rs := [24]) (by as_aux_lemma => kernel_rfl) (by simp) ?_
        refine AllReadyH.cons rfl (fun K hK => ?_) AllReadyH.nil
        go_simp
        refine (risame_eq _ _ _ _ _ _ _ (ie.ext F14) (In.mk (m13.ext ((Ext.refl _).trans e14)) (m14.ext (Ext.refl _))) H.out.e7 H.out.e8).mono ?_
        rintro _ u15 ⟨rfl, e15⟩
        have F15 : Ext W9 u15 := F14.trans e15
        refine hK.out _ _ ⟨bx6 (Vc.ext F15), bx6 (Vs.ext F15), bx6 (Vz.ext F15), bx6 (Ve.ext F15)⟩ (fun hHeld => ?_)
        clear hK K e15
        generalize Value.agg #[.bool y13, .slice Y13 p13 q13, .int .i64 x13, .bool y14, .slice Y14 p14 q14, .int .i64 x14] = z0
        generalize Value.agg #[.bool y13, .slice Y13 p13 q13, .int .i64 x13] = z1
        generalize Value.agg #[.bool y14, .slice Y14 p14 q14, .int .i64 x14] = z2
        generalize Value.slice (some ⟨u9.heap.size, 0, none⟩) 1 1 = z3
        generalize Value.slice (some ⟨u9.heap.size + 1, 0, none⟩) 1 1 = z4
        revert z0 z1 z2 z3 z4
        revert hHeld F15 u15
        exact REST.out
    · go_simp
      refine hK.out _ _ ⟨bx6 (Vc.ext (F9.alloc _)), bx6 (Vs.ext (F9.alloc _)), bx6 (Vz.ext (F9.alloc _)), bx6 (Ve.ext (F9.alloc _))⟩ (fun hHeld => ?_)
      clear hK K
      refine wpAnyH_ready (rs := [19]) (by as_aux_lemma => kernel_rfl) (by simp) ?_
      refine AllReadyH.cons rfl (fun K hK => ?_) AllReadyH.nil
      go_simp
      refine hK.out _ _ ⟨bx6 (Vc.ext ((F9.alloc _).alloc _)), bx6 (Vs.ext ((F9.alloc _).alloc _)), bx6 (Vz.ext ((F9.alloc _).alloc _)), bx6 (Ve.ext ((F9.alloc _).alloc _))⟩ (fun hHeld => ?_)
      clear hK K
      refine wpAnyH_ready (rs := [20]) (by as_aux_lemma => kernel_rfl) (by simp) ?_
      refine AllReadyH.cons rfl (fun K hK => ?_) AllReadyH.nil
      go_simp
      refine (rmake_lit _ false _ _ (-8) _ H.out.b6 ((nat_at _ 236 _ (236 : Int).toNat _ (by simp) (by omega) (by omega) (by omega)).ext (Ext.refl _)) (lt_lit (by decide)) (by omega)).mono ?_
      rintro _ u16 ⟨v16, rfl, m16, e16⟩
      have F16 : Ext W9 u16 := ((F9.alloc _).alloc _).trans e16
      obtain ⟨y16, Y16, p16, q16, x16, rfl⟩ := m16.form
      refine hK.out _ _ ⟨bx6 (Vc.ext F16), bx6 (Vs.ext F16), bx6 (Vz.ext F16), bx6 (Ve.ext F16)⟩ (fun hHeld => ?_)
      clear hK K
      refine wpAnyH_ready (rs := [22]) (by as_aux_lemma => kernel_rfl) (by simp) ?_
      refine AllReadyH.cons rfl (fun K hK => ?_) AllReadyH.nil
      go_simp
      refine (rmake_lit _ false _ _ (-8) _ H.out.b7 ((nat_at _ 237 _ (237 : Int).toNat _ (by simp) (by omega) (by omega) (by omega)).ext (((Ext.refl _).alloc _).trans e16)) (lt_lit (by decide)) (by omega)).mono ?_
      rintro _ u17 ⟨v17, rfl, m17, e17⟩
      have F17 : Ext W9 u17 := F16.trans e17
      obtain ⟨y17, Y17, p17, q17, x17, rfl⟩ := m17.form
      refine hK.out _ _ ⟨bx6 (Vc.ext F17), bx6 (Vs.ext F17), bx6 (Vz.ext F17), bx6 (Ve.ext F17)⟩ (fun hHeld => ?_)
      clear hK K
      refine wpAnyH_take (i := 23) (v := ?_) rfl (by as_aux_lemma => kernel_rfl) (by as_aux_lemma => kernel_rfl) (by as_aux_lemma => kernel_rfl) (fun _ _ _ h => h) (Or.inl ⟨by rfl, ?_⟩) (by assumption) ?_
      rotate_left
      · (intro w hSw; (try dsimp only at hSw); go_simp); (try with_reducible rfl)
      simp only [List.getElem_toArray, List.getElem_cons_zero, List.getElem_cons_succ, Act.put, List.setIfInBounds_toArray, List.set_cons_zero, List.set_cons_succ]
      refine wpAnyH_ready (rs := [24]) (by as_aux_lemma => kernel_rfl) (by simp) ?_
      refine AllReadyH.cons rfl (fun K hK => ?_) AllReadyH.nil
      go_simp
      refine (risame_eq _ _ _ _ _ _ _ (ie.ext F17) (In.mk (m16.ext ((Ext.refl _).trans e17)) (m17.ext (Ext.refl _))) H.out.e7 H.out.e8).mono ?_
      rintro _ u18 ⟨rfl, e18⟩
      have F18 : Ext W9 u18 := F17.trans e18
      refine hK.out _ _ ⟨bx6 (Vc.ext F18), bx6 (Vs.ext F18), bx6 (Vz.ext F18), bx6 (Ve.ext F18)⟩ (fun hHeld => ?_)
      clear hK K e18
      generalize Value.agg #[.bool y16, .slice Y16 p16 q16, .int .i64 x16, .bool y17, .slice Y17 p17 q17, .int .i64 x17] = z0
      generalize Value.agg #[.bool y16, .slice Y16 p16 q16, .int .i64 x16] = z1
      generalize Value.agg #[.bool y17, .slice Y17 p17 q17, .int .i64 x17] = z2
      generalize Value.slice (some ⟨u9.heap.size + 1, 0, none⟩) 1 1 = z3
      generalize Value.slice (some ⟨u9.heap.size, 0, none⟩) 1 1 = z4
      revert z0 z1 z2 z3 z4
      revert hHeld F18 u18
      exact REST.out
  clear hHeld F9
  intro u19 F19 hHeld z4 z3 z2 z1 z0
  refine wpAnyH_take (i := 25) (v := ?_) rfl (by as_aux_lemma => kernel_rfl) (by as_aux_lemma => kernel_rfl) (by as_aux_lemma => kernel_rfl) (fun _ _ _ h => h) (Or.inl ⟨by rfl, ?_⟩) (by assumption) ?_
  rotate_left
  · (intro w hSw; (try dsimp only at hSw); go_simp); (try with_reducible rfl)
  simp only [List.getElem_toArray, List.getElem_cons_zero, List.getElem_cons_succ, Act.put, List.setIfInBounds_toArray, List.set_cons_zero, List.set_cons_succ]
  refine wpAnyH_take (i := 26) (v := ?_) rfl (by as_aux_lemma => kernel_rfl) (by as_aux_lemma => kernel_rfl) (by as_aux_lemma => kernel_rfl) (fun _ _ _ h => h) (Or.inl ⟨by rfl, ?_⟩) (by assumption) ?_
  rotate_left
  · (intro w hSw; (try dsimp only at hSw); go_simp); (try with_reducible rfl)
  simp only [List.getElem_toArray, List.getElem_cons_zero, List.getElem_cons_succ, Act.put, List.setIfInBounds_toArray, List.set_cons_zero, List.set_cons_succ]
  apply cutG
  · intro REST
    refine wpAnyH_ready (rs := [27, 30]) (by as_aux_lemma => kernel_rfl) (by simp) ?_
    refine AllReadyH.cons rfl (fun K hK => ?_) (AllReadyH.cons rfl (fun K hK => ?_) AllReadyH.nil)
    · go_simp
      refine hK.out _ _ ⟨bx6 (Vc.ext (F19.alloc _)), bx6 (Vs.ext (F19.alloc _)), bx6 (Vz.ext (F19.alloc _)), bx6 (Ve.ext (F19.alloc _))⟩ (fun hHeld => ?_)
      clear hK K
      refine wpAnyH_ready (rs := [28, 30]) (by as_aux_lemma => kernel_rfl) (by simp) ?_
      refine AllReadyH.cons rfl (fun K hK => ?_) (AllReadyH.cons rfl (fun K hK => ?_) AllReadyH.nil)
      · go_simp
        refine (rmake_lit _ true _ _ (-2) _ H.out.oX ((nat_at _ 5 _ (5 : Int).toNat _ (by simp) (by omega) (by omega) (by omega)).ext (Ext.refl _)) (lt_lit (by decide)) (by omega)).mono ?_
        rintro _ u20 ⟨v20, rfl, m20, e20⟩
        have F20 : Ext W9 u20 := (F19.alloc _).trans e20
        obtain ⟨y20, Y20, p20, q20, x20, rfl⟩ := m20.form
        refine hK.out _ _ ⟨bx6 (Vc.ext F20), bx6 (Vs.ext F20), bx6 (Vz.ext F20), bx6 (Ve.ext F20)⟩ (fun hHeld => ?_)
        clear hK K
        refine wpAnyH_ready (rs := [29, 30]) (by as_aux_lemma => kernel_rfl) (by simp) ?_
        refine AllReadyH.cons rfl (fun K hK => ?_) (AllReadyH.cons rfl (fun K hK => ?_) AllReadyH.nil)
        · go_simp
          refine (floor_lit _ _ X Y _ 1 20 31 (by rfl) H.out.fX (m20.ext (Ext.refl _)) H.out.rX (by omega) (by omega) (T.ext F20)).mono ?_
          rintro _ u21 ⟨v21, rfl, m21, e21⟩
          have F21 : Ext W9 u21 := F20.trans e21
          obtain ⟨y21, Y21, p21, q21, x21, rfl⟩ := m21.form
          refine hK.out _ _ ⟨bx6 (Vc.ext F21), bx6 (Vs.ext F21), bx6 (Vz.ext F21), bx6 (Ve.ext F21)⟩ (fun hHeld => ?_)
          clear hK K
          refine wpAnyH_ready (rs := [30]) (by as_aux_lemma => kernel_rfl) (by simp) ?_
          refine AllReadyH.cons rfl (fun K hK => ?_) AllReadyH.nil
          go_simp
          refine hK.out _ _ ⟨bx6 (Vc.ext (F21.alloc _)), bx6 (Vs.ext (F21.alloc _)), bx6 (Vz.ext (F21.alloc _)), bx6 (Ve.ext (F21.alloc _))⟩ (fun hHeld => ?_)
          clear hK K
          refine wpAnyH_ready (rs := [31]) (by as_aux_lemma => kernel_rfl) (by simp) ?_
          refine AllReadyH.cons rfl (fun K hK => ?_) AllReadyH.nil
          go_simp
          refine (rmake_lit _ true _ _ (-1) _ H.out.oY ((nat_at _ 3 _ (3 : Int).toNat _ (by simp) (by omega) (by omega) (by omega)).ext (Ext.refl _)) (lt_lit (by decide)) (by omega)).mono ?_
          rintro _ u22 ⟨v22, rfl, m22, e22⟩
          have F22 : Ext W9 u22 := (F21.alloc _).trans e22
          obtain ⟨y22, Y22, p22, q22, x22, rfl⟩ := m22.form
          refine hK.out _ _ ⟨bx6 (Vc.ext F22), bx6 (Vs.ext F22), bx6 (Vz.ext F22), bx6 (Ve.ext F22)⟩ (fun hHeld => ?_)
          clear hK K
          refine wpAnyH_ready (rs := [32]) (by as_aux_lemma => kernel_rfl) (by simp) ?_
          refine AllReadyH.cons rfl (fun K hK => ?_) AllReadyH.nil
          go_simp
          refine (rsameD_eq _ _ _ Y (m21.ext (((Ext.refl _).alloc _).trans e22)) (m22.ext (Ext.refl _))).mono ?_
          rintro _ u23 ⟨rfl, e23⟩
          have F23 : Ext W9 u23 := F22.trans e23
          refine hK.out _ _ ⟨bx6 (Vc.ext F23), bx6 (Vs.ext F23), bx6 (Vz.ext F23), bx6 (Ve.ext F23)⟩ (fun hHeld => ?_)
          clear hK K e23
          generalize Value.agg #[.bool y20, .slice Y20 p20 q20, .int .i64 x20] = z0
          generalize Value.agg #[.bool y21, .slice Y21 p21 q21, .int .i64 x21] = z1
          generalize Value.agg #[.bool y22, .slice Y22 p22 q22, .int .i64 x22] = z2
          generalize Value.slice (some ⟨u19.heap.size, 0, none⟩) 1 1 = z3
          generalize Value.slice (some ⟨u21.heap.size, 0, none⟩) 1 1 = z4
          revert z0 z1 z2 z3 z4
          revert hHeld F23 u23
          exact REST.out
        · go_simp
          refine hK.out _ _ ⟨bx6 (Vc.ext (F20.alloc _)), bx6 (Vs.ext (F20.alloc _)), bx6 (Vz.ext (F20.alloc _)), bx6 (Ve.ext (F20.alloc _))⟩ (fun hHeld => ?_)
          clear hK K
          refine wpAnyH_ready (rs := [29]) (by as_aux_lemma => kernel_rfl) (by simp) ?_
          refine AllReadyH.cons rfl (fun K hK => ?_) AllReadyH.nil
          go_simp
          refine (floor_lit _ _ X Y _ 1 20 31 (by rfl) H.out.fX (m20.ext ((Ext.refl _).alloc _)) H.out.rX (by omega) (by omega) (T.ext (F20.alloc _))).mono ?_
          rintro _ u24 ⟨v24, rfl, m24, e24⟩
          have F24 : Ext W9 u24 := (F20.alloc _).trans e24
          obtain ⟨y24, Y24, p24, q24, x24, rfl⟩ := m24.form
          refine hK.out _ _ ⟨bx6 (Vc.ext F24), bx6 (Vs.ext F24), bx6 (Vz.ext F24), bx6 (Ve.ext F24)⟩ (fun hHeld => ?_)
          clear hK K
          refine wpAnyH_ready (rs := [31]) (by as_aux_lemma => kernel_rfl) (by simp) ?_
          refine AllReadyH.cons rfl (fun K hK => ?_) AllReadyH.nil
          go_simp
          refine (rmake_lit _ true _ _ (-1) _ H.out.oY ((nat_at _ 3 _ (3 : Int).toNat _ (by simp) (by omega) (by omega) (by omega)).ext ((Ext.refl _).trans e24)) (lt_lit (by decide)) (by omega)).mono ?_
          rintro _ u25 ⟨v25, rfl, m25, e25⟩
          have F25 : Ext W9 u25 := F24.trans e25
          obtain ⟨y25, Y25, p25, q25, x25, rfl⟩ := m25.form
          refine hK.out _ _ ⟨bx6 (Vc.ext F25), bx6 (Vs.ext F25), bx6 (Vz.ext F25), bx6 (Ve.ext F25)⟩ (fun hHeld => ?_)
          clear hK K
          refine wpAnyH_ready (rs := [32]) (by as_aux_lemma => kernel_rfl) (by simp) ?_
          refine AllReadyH.cons rfl (fun K hK => ?_) AllReadyH.nil
          go_simp
          refine (rsameD_eq _ _ _ Y (m24.ext ((Ext.refl _).trans e25)) (m25.ext (Ext.refl _))).mono ?_
          rintro _ u26 ⟨rfl, e26⟩
          have F26 : Ext W9 u26 := F25.trans e26
          refine hK.out _ _ ⟨bx6 (Vc.ext F26), bx6 (Vs.ext F26), bx6 (Vz.ext F26), bx6 (Ve.ext F26)⟩ (fun hHeld => ?_)
          clear hK K e26
          generalize Value.agg #[.bool y20, .slice Y20 p20 q20, .int .i64 x20] = z0
          generalize Value.agg #[.bool y24, .slice Y24 p24 q24, .int .i64 x24] = z1
          generalize Value.agg #[.bool y25, .slice Y25 p25 q25, .int .i64 x25] = z2
          generalize Value.slice (some ⟨u19.heap.size, 0, none⟩) 1 1 = z3
          generalize Value.slice (some ⟨u20.heap.size, 0, none⟩) 1 1 = z4
          revert z0 z1 z2 z3 z4
          revert hHeld F26 u26
          exact REST.out
      · go_simp
        refine hK.out _ _ ⟨bx6 (Vc.ext ((F19.alloc _).alloc _)), bx6 (Vs.ext ((F19.alloc _).alloc _)), bx6 (Vz.ext ((F19.alloc _).alloc _)), bx6 (Ve.ext ((F19.alloc _).alloc _))⟩ (fun hHeld => ?_)
        clear hK K
        refine wpAnyH_ready (rs := [28]) (by as_aux_lemma => kernel_rfl) (by simp) ?_
        refine AllReadyH.cons rfl (fun K hK => ?_) AllReadyH.nil
        go_simp
        refine (rmake_lit _ true _ _ (-2) _ H.out.oX ((nat_at _ 5 _ (5 : Int).toNat _ (by simp) (by omega) (by omega) (by omega)).ext ((Ext.refl _).alloc _)) (lt_lit (by decide)) (by omega)).mono ?_
        rintro _ u27 ⟨v27, rfl, m27, e27⟩
        have F27 : Ext W9 u27 := ((F19.alloc _).alloc _).trans e27
        obtain ⟨y27, Y27, p27, q27, x27, rfl⟩ := m27.form
        refine hK.out _ _ ⟨bx6 (Vc.ext F27), bx6 (Vs.ext F27), bx6 (Vz.ext F27), bx6 (Ve.ext F27)⟩ (fun hHeld => ?_)
        clear hK K
        refine wpAnyH_ready (rs := [29]) (by as_aux_lemma => kernel_rfl) (by simp) ?_
        refine AllReadyH.cons rfl (fun K hK => ?_) AllReadyH.nil
        go_simp
        refine (floor_lit _ _ X Y _ 1 20 31 (by rfl) H.out.fX (m27.ext (Ext.refl _)) H.out.rX (by omega) (by omega) (T.ext F27)).mono ?_
        rintro _ u28 ⟨v28, rfl, m28, e28⟩
        have F28 : Ext W9 u28 := F27.trans e28
        obtain ⟨y28, Y28, p28, q28, x28, rfl⟩ := m28.form
        refine hK.out _ _ ⟨bx6 (Vc.ext F28), bx6 (Vs.ext F28), bx6 (Vz.ext F28), bx6 (Ve.ext F28)⟩ (fun hHeld => ?_)
        clear hK K
        refine wpAnyH_ready (rs := [31]) (by as_aux_lemma => kernel_rfl) (by simp) ?_
        refine AllReadyH.cons rfl (fun K hK => ?_) AllReadyH.nil
        go_simp
        refine (rmake_lit _ true _ _ (-1) _ H.out.oY ((nat_at _ 3 _ (3 : Int).toNat _ (by simp) (by omega) (by omega) (by omega)).ext (((Ext.refl _).trans e27).trans e28)) (lt_lit (by decide)) (by omega)).mono ?_
        rintro _ u29 ⟨v29, rfl, m29, e29⟩
        have F29 : Ext W9 u29 := F28.trans e29
        obtain ⟨y29, Y29, p29, q29, x29, rfl⟩ := m29.form
        refine hK.out _ _ ⟨bx6 (Vc.ext F29), bx6 (Vs.ext F29), bx6 (Vz.ext F29), bx6 (Ve.ext F29)⟩ (fun hHeld => ?_)
        clear hK K
        refine wpAnyH_ready (rs := [32]) (by as_aux_lemma => kernel_rfl) (by simp) ?_
        refine AllReadyH.cons rfl (fun K hK => ?_) AllReadyH.nil
        go_simp
        refine (rsameD_eq _ _ _ Y (m28.ext ((Ext.refl _).trans e29)) (m29.ext (Ext.refl _))).mono ?_
        rintro _ u30 ⟨rfl, e30⟩
        have F30 : Ext W9 u30 := F29.trans e30
        refine hK.out _ _ ⟨bx6 (Vc.ext F30), bx6 (Vs.ext F30), bx6 (Vz.ext F30), bx6 (Ve.ext F30)⟩ (fun hHeld => ?_)
        clear hK K e30
        generalize Value.agg #[.bool y27, .slice Y27 p27 q27, .int .i64 x27] = z0
        generalize Value.agg #[.bool y28, .slice Y28 p28 q28, .int .i64 x28] = z1
        generalize Value.agg #[.bool y29, .slice Y29 p29 q29, .int .i64 x29] = z2
        generalize Value.slice (some ⟨u19.heap.size, 0, none⟩) 1 1 = z3
        generalize Value.slice (some ⟨u19.heap.size + 1, 0, none⟩) 1 1 = z4
        revert z0 z1 z2 z3 z4
        revert hHeld F30 u30
        exact REST.out
    · go_simp
      refine hK.out _ _ ⟨bx6 (Vc.ext (F19.alloc _)), bx6 (Vs.ext (F19.alloc _)), bx6 (Vz.ext (F19.alloc _)), bx6 (Ve.ext (F19.alloc _))⟩ (fun hHeld => ?_)
      clear hK K
      refine wpAnyH_ready (rs := [27]) (by as_aux_lemma => kernel_rfl) (by simp) ?_
      refine AllReadyH.cons rfl (fun K hK => ?_) AllReadyH.nil
      go_simp
      refine hK.out _ _ ⟨bx6 (Vc.ext ((F19.alloc _).alloc _)), bx6 (Vs.ext ((F19.alloc _).alloc _)), bx6 (Vz.ext ((F19.alloc _).alloc _)), bx6 (Ve.ext ((F19.alloc _).alloc _))⟩ (fun hHeld => ?_)
      clear hK K
      refine wpAnyH_ready (rs := [28]) (by as_aux_lemma => kernel_rfl) (by simp) ?_
      refine AllReadyH.cons rfl (fun K hK => ?_) AllReadyH.nil
      go_simp
      refine (rmake_lit _ true _ _ (-2) _ H.out.oX ((nat_at _ 5 _ (5 : Int).toNat _ (by simp) (by omega) (by omega) (by omega)).ext (Ext.refl _)) (lt_lit (by decide)) (by omega)).mono ?_
      rintro _ u31 ⟨v31, rfl, m31, e31⟩
      have F31 : Ext W9 u31 := ((F19.alloc _).alloc _).trans e31
      obtain ⟨y31, Y31, p31, q31, x31, rfl⟩ := m31.form
      refine hK.out _ _ ⟨bx6 (Vc.ext F31), bx6 (Vs.ext F31), bx6 (Vz.ext F31), bx6 (Ve.ext F31)⟩ (fun hHeld => ?_)
      clear hK K
      refine wpAnyH_ready (rs := [29]) (by as_aux_lemma => kernel_rfl) (by simp) ?_
      refine AllReadyH.cons rfl (fun K hK => ?_) AllReadyH.nil
      go_simp
      refine (floor_lit _ _ X Y _ 1 20 31 (by rfl) H.out.fX (m31.ext (Ext.refl _)) H.out.rX (by omega) (by omega) (T.ext F31)).mono ?_
      rintro _ u32 ⟨v32, rfl, m32, e32⟩
      have F32 : Ext W9 u32 := F31.trans e32
      obtain ⟨y32, Y32, p32, q32, x32, rfl⟩ := m32.form
      refine hK.out _ _ ⟨bx6 (Vc.ext F32), bx6 (Vs.ext F32), bx6 (Vz.ext F32), bx6 (Ve.ext F32)⟩ (fun hHeld => ?_)
      clear hK K
      refine wpAnyH_ready (rs := [31]) (by as_aux_lemma => kernel_rfl) (by simp) ?_
      refine AllReadyH.cons rfl (fun K hK => ?_) AllReadyH.nil
      go_simp
      refine (rmake_lit _ true _ _ (-1) _ H.out.oY ((nat_at _ 3 _ (3 : Int).toNat _ (by simp) (by omega) (by omega) (by omega)).ext ((((Ext.refl _).alloc _).trans e31).trans e32)) (lt_lit (by decide)) (by omega)).mono ?_
      rintro _ u33 ⟨v33, rfl, m33, e33⟩
      have F33 : Ext W9 u33 := F32.trans e33
      obtain ⟨y33, Y33, p33, q33, x33, rfl⟩ := m33.form
      refine hK.out _ _ ⟨bx6 (Vc.ext F33), bx6 (Vs.ext F33), bx6 (Vz.ext F33), bx6 (Ve.ext F33)⟩ (fun hHeld => ?_)
      clear hK K
      refine wpAnyH_ready (rs := [32]) (by as_aux_lemma => kernel_rfl) (by simp) ?_
      refine AllReadyH.cons rfl (fun K hK => ?_) AllReadyH.nil
      go_simp
      refine (rsameD_eq _ _ _ Y (m32.ext ((Ext.refl _).trans e33)) (m33.ext (Ext.refl _))).mono ?_
      rintro _ u34 ⟨rfl, e34⟩
      have F34 : Ext W9 u34 := F33.trans e34
      refine hK.out _ _ ⟨bx6 (Vc.ext F34), bx6 (Vs.ext F34), bx6 (Vz.ext F34), bx6 (Ve.ext F34)⟩ (fun hHeld => ?_)
      clear hK K e34
      generalize Value.agg #[.bool y31, .slice Y31 p31 q31, .int .i64 x31] = z0
      generalize Value.agg #[.bool y32, .slice Y32 p32 q32, .int .i64 x32] = z1
      generalize Value.agg #[.bool y33, .slice Y33 p33 q33, .int .i64 x33] = z2
      generalize Value.slice (some ⟨u19.heap.size + 1, 0, none⟩) 1 1 = z3
      generalize Value.slice (some ⟨u19.heap.size, 0, none⟩) 1 1 = z4
      revert z0 z1 z2 z3 z4
      revert hHeld F34 u34
      exact REST.out
  clear hHeld F19
  intro u35 F35 hHeld z4 z3 z2 z1 z0
  refine wpAnyH_take (i := 33) (v := ?_) rfl (by as_aux_lemma => kernel_rfl) (by as_aux_lemma => kernel_rfl) (by as_aux_lemma => kernel_rfl) (fun _ _ _ h => h) (Or.inl ⟨by rfl, ?_⟩) (by assumption) ?_
  rotate_left
  · (intro w hSw; (try dsimp only at hSw); go_simp); (try with_reducible rfl)
  simp only [List.getElem_toArray, List.getElem_cons_zero, List.getElem_cons_succ, Act.put, List.setIfInBounds_toArray, List.set_cons_zero, List.set_cons_succ]
  refine wpAnyH_take (i := 34) (v := ?_) rfl (by as_aux_lemma => kernel_rfl) (by as_aux_lemma => kernel_rfl) (by as_aux_lemma => kernel_rfl) (fun _ _ _ h => h) (Or.inl ⟨by rfl, ?_⟩) (by assumption) ?_
  rotate_left
  · (intro w hSw; (try dsimp only at hSw); go_simp); (try with_reducible rfl)
  simp only [List.getElem_toArray, List.getElem_cons_zero, List.getElem_cons_succ, Act.put, List.setIfInBounds_toArray, List.set_cons_zero, List.set_cons_succ]
  refine wpAnyH_ready (rs := [35]) (by as_aux_lemma => kernel_rfl) (by simp) ?_
  refine AllReadyH.cons rfl (fun K hK => ?_) AllReadyH.nil
  go_simp
  refine (rof_lit _ (-7) _ H.out.oG (by omega)).mono ?_
  rintro _ u36 ⟨v36, rfl, a1, e36⟩
  have F36 : Ext W9 u36 := F35.trans e36
  refine hK.out _ _ ⟨bx6 (Vc.ext F36), bx6 (Vs.ext F36), bx6 (Vz.ext F36), bx6 (Ve.ext F36)⟩ (fun hHeld => ?_)
  clear hK K e36 F35
  refine wpAnyH_ready (rs := [36]) (by as_aux_lemma => kernel_rfl) (by simp) ?_
  refine AllReadyH.cons rfl (fun K hK => ?_) AllReadyH.nil
  go_simp
  refine (floor_lit _ _ G G _ 1 20 31 (by rfl) H.out.fG a1 H.out.rG (by omega) (by omega) (T.ext F36)).mono ?_
  rintro _ u37 ⟨v37, rfl, a2, e37⟩
  have F37 : Ext W9 u37 := F36.trans e37
  replace a1 := a1.ext e37
  refine hK.out _ _ ⟨bx6 (Vc.ext F37), bx6 (Vs.ext F37), bx6 (Vz.ext F37), bx6 (Ve.ext F37)⟩ (fun hHeld => ?_)
  clear hK K e37 F36
  refine wpAnyH_ready (rs := [37]) (by as_aux_lemma => kernel_rfl) (by simp) ?_
  refine AllReadyH.cons rfl (fun K hK => ?_) AllReadyH.nil
  go_simp
  refine (rof_lit _ (-7) _ H.out.oG (by omega)).mono ?_
  rintro _ u38 ⟨v38, rfl, a3, e38⟩
  have F38 : Ext W9 u38 := F37.trans e38
  replace a1 := a1.ext e38
  replace a2 := a2.ext e38
  refine hK.out _ _ ⟨bx6 (Vc.ext F38), bx6 (Vs.ext F38), bx6 (Vz.ext F38), bx6 (Ve.ext F38)⟩ (fun hHeld => ?_)
  clear hK K e38 F37
  refine wpAnyH_ready (rs := [38]) (by as_aux_lemma => kernel_rfl) (by simp) ?_
  refine AllReadyH.cons rfl (fun K hK => ?_) AllReadyH.nil
  go_simp
  refine (rsameD_eq _ _ _ G a2 a3).mono ?_
  rintro _ u39 ⟨rfl, e39⟩
  have F39 : Ext W9 u39 := F38.trans e39
  replace a1 := a1.ext e39
  replace a2 := a2.ext e39
  replace a3 := a3.ext e39
  refine hK.out _ _ ⟨bx6 (Vc.ext F39), bx6 (Vs.ext F39), bx6 (Vz.ext F39), bx6 (Ve.ext F39)⟩ (fun hHeld => ?_)
  clear hK K e39 F38
  refine wpAnyH_take (i := 39) (v := ?_) rfl (by as_aux_lemma => kernel_rfl) (by as_aux_lemma => kernel_rfl) (by as_aux_lemma => kernel_rfl) (fun _ _ _ h => h) (Or.inl ⟨by rfl, ?_⟩) (by assumption) ?_
  rotate_left
  · (intro w hSw; (try dsimp only at hSw); go_simp); (try with_reducible rfl)
  simp only [List.getElem_toArray, List.getElem_cons_zero, List.getElem_cons_succ, Act.put, List.setIfInBounds_toArray, List.set_cons_zero, List.set_cons_succ]
  refine wpAnyH_take (i := 40) (v := ?_) rfl (by as_aux_lemma => kernel_rfl) (by as_aux_lemma => kernel_rfl) (by as_aux_lemma => kernel_rfl) (fun _ _ _ h => h) (Or.inl ⟨by rfl, ?_⟩) (by assumption) ?_
  rotate_left
  · (intro w hSw; (try dsimp only at hSw); go_simp); (try with_reducible rfl)
  simp only [List.getElem_toArray, List.getElem_cons_zero, List.getElem_cons_succ, Act.put, List.setIfInBounds_toArray, List.set_cons_zero, List.set_cons_succ]
  refine wpAnyH_done (by as_aux_lemma => kernel_rfl) ?_ _
  go_wp2
  go_ret
  exact ⟨rfl, EW9.trans F39⟩
theorem headC_any (w : World) (T : Tb w) (P : Pl w) : Calls Tryz.prog 9 #[] w (RetE w (.bool true)) := headC_main w _ _ _ _ _ _ _ _ _ _ _ _ _ _ _ headN_math T P
end Go.Proofs.YtomdbmjfehoodaaGreatDoor
