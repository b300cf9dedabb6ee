/- The walk of CircOne. -/
import Derived.Test.YtomdbmjfehoodaaGreatDoorLH
import Derived.Test.YtomdbmjfehoodaaGreatDoorLG
set_option maxRecDepth 8000
namespace Go.Proofs.YtomdbmjfehoodaaGreatDoor
open Go.RowKit
set_option linter.unusedVariables false
set_option linter.unusedSimpArgs false
theorem one_math {n : Nat} {v : Int} {P Q S : Nat} : hasB (mlo (tlo n (cv v).1) (thi n (cv v).1) (tlo n (cv v).1) (thi n (cv v).1) + mlo (tlo n (cv v).2) (thi n (cv v).2) (tlo n (cv v).2) (thi n (cv v).2)) (mhi (tlo n (cv v).1) (thi n (cv v).1) (tlo n (cv v).1) (thi n (cv v).1) + mhi (tlo n (cv v).2) (thi n (cv v).2) (tlo n (cv v).2) (thi n (cv v).2)) 1 = true := by
  obtain ⟨r1, r2⟩ := cv_range v
  have a := (tgt_at n r1.1 r1.2).en
  have b := (tgt_at n r2.1 r2.2).en
  have c := (a.mul a).add (b.mul b)
  have u := cv_unit v
  unfold Unit at u
  rw [u, ← RR.of_one] at c
  have h1 := RR.of_le.1 c.l
  have h2 := RR.of_le.1 c.h
  exact has_of h1 h2
set_option maxRecDepth 100000 in
set_option maxHeartbeats 4000000 in
theorem one_no (w : World) (T0 : Tu w) (K Q n j : Int) (bK : -9223372036854775808 ≤ K ∧ K ≤ 9223372036854775807) (bQ : -9223372036854775808 ≤ Q ∧ Q ≤ 9223372036854775807) (hn : 0 ≤ n ∧ n ≤ 255) (hr : goodT K Q = false) :
    Calls Tryz.prog 5 #[.agg #[.int .i64 K, .int .i64 Q], .int .u8 n] w (RetE w (.bool true)) := by
  have T := T0.tb
  have P := T0.pl
  clear T0
  go_enter Tryz.func5, Tryz.ntmps5
  go_wp2_with fail
  refine (headC_any _ (T.ext ((Ext.refl w).alloc _)) (P.ext ((Ext.refl w).alloc _))).mono ?_
  rintro _ w1 ⟨rfl, f1⟩
  have Bt0 : B2 w1 (w.heap.size) (.int .i64 K) (.int .i64 Q) := B2.at ((Ext.refl _).trans f1) (by simp)
  have e1 : Ext w w1 := ((Ext.refl w).alloc _).trans f1
  replace T := T.ext e1
  replace P := P.ext e1
  have E1 : Ext w w1 := e1
  clear f1
  obtain ⟨Bt0_0, Bt0_1⟩ := _root_.id Bt0
  have Bt0_l := World.block_lt_of_cell? _ _ Bt0_0
  go_wp2_with fail
  refine (good1_any _ w1.heap.size K Q false hr bK bQ (B2.at (Ext.refl _) rfl)).mono ?_
  rintro _ w2 ⟨rfl, f2⟩
  clear Bt0_0 Bt0_1 Bt0_l
  have e2 : Ext w1 w2 := ((Ext.refl w1).alloc _).trans f2
  replace T := T.ext e2
  replace P := P.ext e2
  replace Bt0 := Bt0.ext e2
  have E2 : Ext w w2 := E1.trans e2
  clear e2 f2 E1
  go_wp2
  go_ret
  exact ⟨rfl, E2⟩
set_option maxRecDepth 100000 in
set_option maxHeartbeats 4000000 in
theorem one_yes (w : World) (T0 : Tu w) (K n j : Int) (Q N : Nat) (c1 c2 s1 s2 : Dyadic) (bK : -9223372036854775808 ≤ K ∧ K ≤ 9223372036854775807) (hK : -1099511627776 ≤ K ∧ K ≤ 1099511627776) (q14 : Q ≤ 14) (hr : goodT K (Q : Int) = true) (hn : 0 ≤ n ∧ n ≤ 255) (hj : n % 70 + 1 = j) (hN : j = (N : Int)) (N1 : 1 ≤ N) (N2 : N ≤ 70)
    (e1 : tlo N (cv (tv K Q)).1 = c1) (e2 : thi N (cv (tv K Q)).1 = c2) (e3 : tlo N (cv (tv K Q)).2 = s1) (e4 : thi N (cv (tv K Q)).2 = s2) (rc1 : Rg N 1 c1) (rc2 : Rg N 1 c2) (rs1 : Rg N 1 s1) (rs2 : Rg N 1 s2) (oc : c1 ≤ c2) (os : s1 ≤ s2)
    (hh : hasB (mlo c1 c2 c1 c2 + mlo s1 s2 s1 s2) (mhi c1 c2 c1 c2 + mhi s1 s2 s1 s2) 1 = true) :
    Calls Tryz.prog 5 #[.agg #[.int .i64 K, .int .i64 (Q : Int)], .int .u8 n] w (RetE w (.bool true)) := by
  have bQ : -9223372036854775808 ≤ (Q : Int) ∧ (Q : Int) ≤ 9223372036854775807 := by omega
  have HC := Lib.hid (fun w' T' P' => ccos_good w' K Q N j c1 c2 hN e1 e2 hK q14 N1 (by omega) T' P')
  have HS := Lib.hid (fun w' T' P' => csin_good w' K Q N j s1 s2 hN e3 e4 hK q14 N1 (by omega) T' P')
  have hcc := rg_mul4 rc1 rc2 rc1 rc2
  have hss := rg_mul4 rs1 rs2 rs1 rs2
  have HM := Lib.hid (And.intro hcc hss)
  clear hcc hss e1 e2 e3 e4 hN hK
  have T := T0.tb
  have P := T0.pl
  clear T0
  go_enter Tryz.func5, Tryz.ntmps5
  go_wp2_with fail
  refine (headC_any _ (T.ext ((Ext.refl w).alloc _)) (P.ext ((Ext.refl w).alloc _))).mono ?_
  rintro _ w1 ⟨rfl, f1⟩
  have Bt0 : B2 w1 (w.heap.size) (.int .i64 K) (.int .i64 (Q : Int)) := B2.at ((Ext.refl _).trans f1) (by simp)
  have e1 : Ext w w1 := ((Ext.refl w).alloc _).trans f1
  replace T := T.ext e1
  replace P := P.ext e1
  have E1 : Ext w w1 := e1
  clear f1
  obtain ⟨Bt0_0, Bt0_1⟩ := _root_.id Bt0
  have Bt0_l := World.block_lt_of_cell? _ _ Bt0_0
  go_wp2_with fail
  refine (good1_any _ w1.heap.size K (Q : Int) true hr bK bQ (B2.at (Ext.refl _) rfl)).mono ?_
  rintro _ w2 ⟨rfl, f2⟩
  clear Bt0_0 Bt0_1 Bt0_l
  have e2 : Ext w1 w2 := ((Ext.refl w1).alloc _).trans f2
  replace T := T.ext e2
  replace P := P.ext e2
  replace Bt0 := Bt0.ext e2
  have E2 : Ext w w2 := E1.trans e2
  clear e2 f2 E1
  go_wp2_with fail
  refine (bits_any _ n j hn hj).mono ?_
  rintro _ w3 ⟨rfl, f3⟩
  have e3 : Ext w2 w3 := (Ext.refl w2).trans f3
  replace T := T.ext e3
  replace P := P.ext e3
  replace Bt0 := Bt0.ext e3
  have E3 : Ext w w3 := E2.trans e3
  clear e3 f3 E2
  obtain ⟨Bt0_0, Bt0_1⟩ := _root_.id Bt0
  have Bt0_l := World.block_lt_of_cell? _ _ Bt0_0
  go_wp2_with fail
  refine (HC.out _ T P).mono ?_
  rintro _ w4 ⟨v4, rfl, ic, f4⟩
  clear Bt0_0 Bt0_1 Bt0_l
  have e4 : Ext w3 w4 := (Ext.refl w3).trans f4
  replace T := T.ext e4
  replace P := P.ext e4
  replace Bt0 := Bt0.ext e4
  have E4 : Ext w w4 := E3.trans e4
  clear e4 f4 E3
  obtain ⟨bic, Aic, lic, cic, jic, bic', Aic', lic', cic', jic', rfl, ic_l, ic_h⟩ := ic
  have ic := In.mk ic_l ic_h
  clear ic_l ic_h
  obtain ⟨Bt0_0, Bt0_1⟩ := _root_.id Bt0
  have Bt0_l := World.block_lt_of_cell? _ _ Bt0_0
  go_wp2_with fail
  refine (HS.out _ (T.ext ((Ext.refl w4).alloc _)) (P.ext ((Ext.refl w4).alloc _))).mono ?_
  rintro _ w5 ⟨v5, rfl, is, f5⟩
  clear Bt0_0 Bt0_1 Bt0_l
  have Vc : Bx w5 (w4.heap.size) (.bool bic) (.slice Aic lic cic) (.int .i64 jic) (.bool bic') (.slice Aic' lic' cic') (.int .i64 jic') := Bx.at ((Ext.refl _).trans f5) (by simp)
  have e5 : Ext w4 w5 := ((Ext.refl w4).alloc _).trans f5
  replace T := T.ext e5
  replace P := P.ext e5
  replace ic := ic.ext e5
  replace Bt0 := Bt0.ext e5
  have E5 : Ext w w5 := E4.trans e5
  clear e5 f5 E4
  obtain ⟨bis, Ais, lis, cis, jis, bis', Ais', lis', cis', jis', rfl, is_l, is_h⟩ := is
  have is := In.mk is_l is_h
  clear is_l is_h
  obtain ⟨Vc_0, Vc_1, Vc_2, Vc_3, Vc_4, Vc_5⟩ := _root_.id Vc
  have Vc_l := World.block_lt_of_cell? _ _ Vc_0
  clear HC HS
  go_wp2_with fail
  refine (riright_lit _ _ c1 c2 N 1 true (decide_eq_true oc) (ic.ext ((Ext.refl w5).alloc _)) rc1 rc2 (by omega)).mono ?_
  rintro _ w6 ⟨rfl, f6⟩
  clear Vc_0 Vc_1 Vc_2 Vc_3 Vc_4 Vc_5 Vc_l
  have Vs : Bx w6 (w5.heap.size) (.bool bis) (.slice Ais lis cis) (.int .i64 jis) (.bool bis') (.slice Ais' lis' cis') (.int .i64 jis') := Bx.at ((Ext.refl _).trans f6) (by simp)
  have e6 : Ext w5 w6 := ((Ext.refl w5).alloc _).trans f6
  replace T := T.ext e6
  replace P := P.ext e6
  replace ic := ic.ext e6
  replace is := is.ext e6
  replace Bt0 := Bt0.ext e6
  replace Vc := Vc.ext e6
  have E6 : Ext w w6 := E5.trans e6
  clear e6 f6 E5
  obtain ⟨Vs_0, Vs_1, Vs_2, Vs_3, Vs_4, Vs_5⟩ := _root_.id Vs
  have Vs_l := World.block_lt_of_cell? _ _ Vs_0
  go_wp2_with fail
  refine (riright_lit _ _ s1 s2 N 1 true (decide_eq_true os) is rs1 rs2 (by omega)).mono ?_
  rintro _ w7 ⟨rfl, f7⟩
  clear Vs_0 Vs_1 Vs_2 Vs_3 Vs_4 Vs_5 Vs_l
  have e7 : Ext w6 w7 := (Ext.refl w6).trans f7
  replace T := T.ext e7
  replace P := P.ext e7
  replace ic := ic.ext e7
  replace is := is.ext e7
  replace Bt0 := Bt0.ext e7
  replace Vc := Vc.ext e7
  replace Vs := Vs.ext e7
  have E7 : Ext w w7 := E6.trans e7
  clear e7 f7 E6
  have k1 := dn_limbs ic.lo rc1 (by omega)
  have k2 := dn_limbs ic.hi rc2 (by omega)
  have k3 := dn_limbs is.lo rs1 (by omega)
  have k4 := dn_limbs is.hi rs2 (by omega)
  have k1' : ¬ (9 : Int) < (lic : Int) := by omega
  have k2' : ¬ (9 : Int) < (lic' : Int) := by omega
  have k3' : ¬ (9 : Int) < (lis : Int) := by omega
  have k4' : ¬ (9 : Int) < (lis' : Int) := by omega
  obtain ⟨Vc_0, Vc_1, Vc_2, Vc_3, Vc_4, Vc_5⟩ := _root_.id Vc
  have Vc_l := World.block_lt_of_cell? _ _ Vc_0
  obtain ⟨Vs_0, Vs_1, Vs_2, Vs_3, Vs_4, Vs_5⟩ := _root_.id Vs
  have Vs_l := World.block_lt_of_cell? _ _ Vs_0
  go_upto_region 9 with fail
  refine wp_region_held_drew (S := (fun w' => (w'.cell? ⟨w4.heap.size, 0, none⟩ = some (.bool bic) ∧ w'.cell? ⟨w4.heap.size, 1, none⟩ = some (.slice Aic lic cic) ∧ w'.cell? ⟨w4.heap.size, 2, none⟩ = some (.int .i64 jic) ∧ w'.cell? ⟨w4.heap.size, 3, none⟩ = some (.bool bic') ∧ w'.cell? ⟨w4.heap.size, 4, none⟩ = some (.slice Aic' lic' cic') ∧ w'.cell? ⟨w4.heap.size, 5, none⟩ = some (.int .i64 jic')) ∧ (w'.cell? ⟨w5.heap.size, 0, none⟩ = some (.bool bis) ∧ w'.cell? ⟨w5.heap.size, 1, none⟩ = some (.slice Ais lis cis) ∧ w'.cell? ⟨w5.heap.size, 2, none⟩ = some (.int .i64 jis) ∧ w'.cell? ⟨w5.heap.size, 3, none⟩ = some (.bool bis') ∧ w'.cell? ⟨w5.heap.size, 4, none⟩ = some (.slice Ais' lis' cis') ∧ w'.cell? ⟨w5.heap.size, 5, none⟩ = some (.int .i64 jis')))) (by as_aux_lemma => kernel_rfl) ⟨bx6 (Vc.ext (Ext.refl w7).drew), bx6 (Vs.ext (Ext.refl w7).drew)⟩ (fun hHeld => ?_)
  refine wpAnyH_take (i := 0) (v := ?_) rfl (by as_aux_lemma => kernel_rfl) (by as_aux_lemma => kernel_rfl) (by as_aux_lemma => kernel_rfl) (fun _ _ _ h => h) (Or.inl ⟨by rfl, ?_⟩) (by assumption) ?_
  rotate_left
  · (intro w hSw; (try dsimp only at hSw); go_simp); (try with_reducible rfl)
  simp only [List.getElem_toArray, List.getElem_cons_zero, Act.put, List.setIfInBounds_toArray, List.set_cons_zero, List.set_cons_succ]
  refine wpAnyH_take (i := 1) (v := ?_) rfl (by as_aux_lemma => kernel_rfl) (by as_aux_lemma => kernel_rfl) (by as_aux_lemma => kernel_rfl) (fun _ _ _ h => h) (Or.inl ⟨by rfl, ?_⟩) (by assumption) ?_
  rotate_left
  · (intro w hSw; (try dsimp only at hSw); go_simp); (try with_reducible rfl)
  simp only [List.getElem_toArray, List.getElem_cons_zero, List.getElem_cons_succ, Act.put, List.setIfInBounds_toArray, List.set_cons_zero, List.set_cons_succ]
  refine wpAnyH_take (i := 2) (v := ?_) rfl (by as_aux_lemma => kernel_rfl) (by as_aux_lemma => kernel_rfl) (by as_aux_lemma => kernel_rfl) (fun _ _ _ h => h) (Or.inl ⟨by rfl, ?_⟩) (by assumption) ?_
  rotate_left
  · (intro w hSw; (try dsimp only at hSw); go_simp); (try with_reducible rfl)
  simp only [List.getElem_toArray, List.getElem_cons_zero, List.getElem_cons_succ, Act.put, List.setIfInBounds_toArray, List.set_cons_zero, List.set_cons_succ]
  refine wpAnyH_take (i := 3) (v := ?_) rfl (by as_aux_lemma => kernel_rfl) (by as_aux_lemma => kernel_rfl) (by as_aux_lemma => kernel_rfl) (fun _ _ _ h => h) (Or.inl ⟨by rfl, ?_⟩) (by assumption) ?_
  rotate_left
  · (intro w hSw; (try dsimp only at hSw); go_simp); (try with_reducible rfl)
  simp only [List.getElem_toArray, List.getElem_cons_zero, List.getElem_cons_succ, Act.put, List.setIfInBounds_toArray, List.set_cons_zero, List.set_cons_succ]
  refine wpAnyH_take (i := 5) (v := ?_) rfl (by as_aux_lemma => kernel_rfl) (by as_aux_lemma => kernel_rfl) (by as_aux_lemma => kernel_rfl) (fun _ _ _ h => h) (Or.inl ⟨by rfl, ?_⟩) (by assumption) ?_
  rotate_left
  · (intro w hSw; (try dsimp only at hSw); go_simp); (try with_reducible rfl)
  simp only [List.getElem_toArray, List.getElem_cons_zero, List.getElem_cons_succ, Act.put, List.setIfInBounds_toArray, List.set_cons_zero, List.set_cons_succ]
  refine wpAnyH_take (i := 6) (v := ?_) rfl (by as_aux_lemma => kernel_rfl) (by as_aux_lemma => kernel_rfl) (by as_aux_lemma => kernel_rfl) (fun _ _ _ h => h) (Or.inl ⟨by rfl, ?_⟩) (by assumption) ?_
  rotate_left
  · (intro w hSw; (try dsimp only at hSw); go_simp); (try with_reducible rfl)
  simp only [List.getElem_toArray, List.getElem_cons_zero, List.getElem_cons_succ, Act.put, List.setIfInBounds_toArray, List.set_cons_zero, List.set_cons_succ]
  refine wpAnyH_ready (rs := [4]) (by as_aux_lemma => kernel_rfl) (by simp) ?_
  refine AllReadyH.cons rfl (fun K hK => ?_) AllReadyH.nil
  go_simp
  refine (rimul_any _ _ _ c1 c2 c1 c2 N 1 N 1 (ic.ext (Ext.refl w7).drew) (ic.ext (Ext.refl w7).drew) rc1 rc2 rc1 rc2 (by omega)).mono ?_
  rintro _ u1 ⟨vu1, rfl, mu1, eu1⟩
  have Fu1 : Ext w7 u1 := (Ext.refl w7).drew.trans eu1
  refine hK.out _ _ ⟨bx6 (Vc.ext Fu1), bx6 (Vs.ext Fu1)⟩ (fun hHeld => ?_)
  clear hK K eu1
  refine wpAnyH_ready (rs := [7]) (by as_aux_lemma => kernel_rfl) (by simp) ?_
  refine AllReadyH.cons rfl (fun K hK => ?_) AllReadyH.nil
  go_simp
  refine (rimul_any _ _ _ s1 s2 s1 s2 N 1 N 1 (is.ext Fu1) (is.ext Fu1) rs1 rs2 rs1 rs2 (by omega)).mono ?_
  rintro _ u2 ⟨vu2, rfl, mu2, eu2⟩
  have Fu2 : Ext w7 u2 := Fu1.trans eu2
  replace mu1 := mu1.ext eu2
  refine hK.out _ _ ⟨bx6 (Vc.ext Fu2), bx6 (Vs.ext Fu2)⟩ (fun hHeld => ?_)
  clear hK K eu2 Fu1
  refine wpAnyH_ready (rs := [8]) (by as_aux_lemma => kernel_rfl) (by simp) ?_
  refine AllReadyH.cons rfl (fun K hK => ?_) AllReadyH.nil
  go_simp
  refine (riadd_any _ _ _ _ _ _ _ (N + N) (1 + 1) mu1 mu2 HM.out.1.1 HM.out.1.2 HM.out.2.1 HM.out.2.2 (by omega)).mono ?_
  rintro _ u3 ⟨vu3, rfl, mu3, eu3⟩
  have Fu3 : Ext w7 u3 := Fu2.trans eu3
  replace mu1 := mu1.ext eu3
  replace mu2 := mu2.ext eu3
  refine hK.out _ _ ⟨bx6 (Vc.ext Fu3), bx6 (Vs.ext Fu3)⟩ (fun hHeld => ?_)
  clear hK K eu3 Fu2
  refine wpAnyH_ready (rs := [9]) (by as_aux_lemma => kernel_rfl) (by simp) ?_
  refine AllReadyH.cons rfl (fun K hK => ?_) AllReadyH.nil
  go_simp
  refine (rof_lit _ 1 1 rfl (by omega)).mono ?_
  rintro _ u4 ⟨vu4, rfl, mu4, eu4⟩
  have Fu4 : Ext w7 u4 := Fu3.trans eu4
  replace mu3 := mu3.ext eu4
  refine hK.out _ _ ⟨bx6 (Vc.ext Fu4), bx6 (Vs.ext Fu4)⟩ (fun hHeld => ?_)
  clear hK K eu4 Fu3 mu1 mu2
  refine wpAnyH_ready (rs := [10]) (by as_aux_lemma => kernel_rfl) (by simp) ?_
  refine AllReadyH.cons rfl (fun K hK => ?_) AllReadyH.nil
  go_simp
  refine (rhas_lit7 _ _ _ _ _ 1 (N + N) (1 + 1 + 1) true hh mu3 mu4 (HM.out.1.1.add HM.out.2.1) (HM.out.1.2.add HM.out.2.2) ((rg_one (N + N)).mono (by omega) (by omega)) (by omega)).mono ?_
  rintro _ u5 ⟨rfl, eu5⟩
  have Fu5 : Ext w7 u5 := Fu4.trans eu5
  replace mu3 := mu3.ext eu5
  replace mu4 := mu4.ext eu5
  refine hK.out _ _ ⟨bx6 (Vc.ext Fu5), bx6 (Vs.ext Fu5)⟩ (fun hHeld => ?_)
  clear hK K eu5 Fu4
  refine wpAnyH_take (i := 11) (v := ?_) rfl (by as_aux_lemma => kernel_rfl) (by as_aux_lemma => kernel_rfl) (by as_aux_lemma => kernel_rfl) (fun _ _ _ h => h) (Or.inl ⟨by rfl, ?_⟩) (by assumption) ?_
  rotate_left
  · (intro w hSw; (try dsimp only at hSw); go_simp); (try with_reducible rfl)
  simp only [List.getElem_toArray, List.getElem_cons_zero, List.getElem_cons_succ, Act.put, List.setIfInBounds_toArray, List.set_cons_zero, List.set_cons_succ]
  refine wpAnyH_take (i := 12) (v := ?_) rfl (by as_aux_lemma => kernel_rfl) (by as_aux_lemma => kernel_rfl) (by as_aux_lemma => kernel_rfl) (fun _ _ _ h => h) (Or.inl ⟨by rfl, ?_⟩) (by assumption) ?_
  rotate_left
  · (intro w hSw; (try dsimp only at hSw); go_simp); (try with_reducible rfl)
  simp only [List.getElem_toArray, List.getElem_cons_zero, List.getElem_cons_succ, Act.put, List.setIfInBounds_toArray, List.set_cons_zero, List.set_cons_succ]
  refine wpAnyH_done (by as_aux_lemma => kernel_rfl) ?_ _
  go_wp2
  go_ret
  exact ⟨rfl, E7.trans Fu5⟩
theorem walk_CircOne (w : World) (T0 : Tu w) (K Q : Int) (bK : -9223372036854775808 ≤ K ∧ K ≤ 9223372036854775807) (bQ : -9223372036854775808 ≤ Q ∧ Q ≤ 9223372036854775807) (n : Int) (hn : 0 ≤ n ∧ n ≤ 255) :
    Calls Tryz.prog 5 #[.agg #[.int .i64 K, .int .i64 Q], .int .u8 n] w (RetE w (.bool true)) := by
  cases hr : goodT K Q with
  | false => exact one_no w T0 K Q n 0 bK bQ hn hr
  | true =>
    have hr2 := hr
    obtain ⟨⟨q0, q14⟩, hK⟩ := goodT_iff.1 hr2
    obtain ⟨Q, rfl⟩ := Int.eq_ofNat_of_zero_le q0
    obtain ⟨N, hN⟩ := Int.eq_ofNat_of_zero_le (show 0 ≤ n % 70 + 1 by omega)
    obtain ⟨r1, r2⟩ := cv_range (tv K Q)
    have a := tgt_at N r1.1 r1.2
    have b := tgt_at N r2.1 r2.2
    have a2 := a.rg r1.1 r1.2
    have b2 := b.rg r2.1 r2.2
    exact one_yes w T0 K n _ Q N _ _ _ _ bK hK (by omega) hr hn rfl hN (by omega) (by omega) rfl rfl rfl rfl a2.1 a2.2 b2.1 b2.2 a.en.le b.en.le (one_math (P := 0) (Q := 0) (S := 0))
end Go.Proofs.YtomdbmjfehoodaaGreatDoor
