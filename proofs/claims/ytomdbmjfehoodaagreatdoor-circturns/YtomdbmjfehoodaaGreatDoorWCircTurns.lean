/- The walk of CircTurns. -/
import Derived.Test.YtomdbmjfehoodaaGreatDoorLH
import Derived.Test.YtomdbmjfehoodaaGreatDoorLG
set_option maxRecDepth 8000
namespace Go.Proofs.YtomdbmjfehoodaaGreatDoor
open Go.RowKit
set_option linter.unusedVariables false
set_option linter.unusedSimpArgs false
theorem tneg {n : Nat} {x : RR} (h1 : -1 ≤ x) (h2 : x ≤ 1) : tlo n (-x) = -thi n x ∧ thi n (-x) = -tlo n x := (tgt_at n h1 h2).neg.is
theorem cv_emod (u : Int) : cv (u % 1099511627776) = cv u := cv_mod (by omega)
theorem cv_flip (v : Int) : (cv ((-v) % 1099511627776)).1 = (cv v).1 ∧ (cv ((-v) % 1099511627776)).2 = -(cv v).2 := by
  rw [cv_emod, cv_neg]; exact ⟨rfl, rfl⟩
theorem cv_halfturn (v : Int) : (cv ((v + 549755813888) % 1099511627776)).1 = -(cv v).1 ∧ (cv ((v + 549755813888) % 1099511627776)).2 = -(cv v).2 := by
  rw [cv_emod, cv_add, cv_q2]
  unfold cm
  constructor <;> simp <;> grind
theorem cv_quarterturn (v : Int) : (cv ((v + 274877906944) % 1099511627776)).1 = -(cv v).2 ∧ (cv ((v + 274877906944) % 1099511627776)).2 = (cv v).1 := by
  rw [cv_emod, cv_add, cv_quarter]
  unfold cm
  constructor <;> simp <;> grind
theorem tv_halfturn : tv 1 1 = 549755813888 := by decide
theorem tv_quarterturn : tv 1 2 = 274877906944 := by decide
set_option maxRecDepth 100000 in
set_option maxHeartbeats 4000000 in
theorem turns_no (w : World) (T0 : Tu w) (K Q n j : Int) (bK : -9223372036854775808 ≤ K ∧ K ≤ 9223372036854775807) (bQ : -9223372036854775808 ≤ Q ∧ Q ≤ 9223372036854775807) (hn : 0 ≤ n ∧ n ≤ 255) (hr : goodT K Q = false) :
    Calls Tryz.prog 6 #[.agg #[.int .i64 K, .int .i64 Q], .int .u8 n] w (RetE w (.bool true)) := by
  have T := T0.tb
  have P := T0.pl
  clear T0
  go_enter Tryz.func6, Tryz.ntmps6
  go_wp2_with fail
  refine (headC_any _ (T.ext ((Ext.refl w).alloc _)) (P.ext ((Ext.refl w).alloc _))).mono ?_
  rintro _ w1 ⟨rfl, f1⟩
  have Bt0 : B2 w1 (w.heap.size) (.int .i64 K) (.int .i64 Q) := B2.at ((Ext.refl _).trans f1) (by simp)
  have e1 : Ext w w1 := ((Ext.refl w).alloc _).trans f1
  replace T := T.ext e1
  replace P := P.ext e1
  have E1 : Ext w w1 := e1
  clear f1
  obtain ⟨Bt0_0, Bt0_1⟩ := _root_.id Bt0
  have Bt0_l := World.block_lt_of_cell? _ _ Bt0_0
  go_wp2_with fail
  refine (good1_any _ w1.heap.size K Q false hr bK bQ (B2.at (Ext.refl _) rfl)).mono ?_
  rintro _ w2 ⟨rfl, f2⟩
  clear Bt0_0 Bt0_1 Bt0_l
  have e2 : Ext w1 w2 := ((Ext.refl w1).alloc _).trans f2
  replace T := T.ext e2
  replace P := P.ext e2
  replace Bt0 := Bt0.ext e2
  have E2 : Ext w w2 := E1.trans e2
  clear e2 f2 E1
  go_wp2
  go_ret
  exact ⟨rfl, E2⟩
set_option maxRecDepth 100000 in
set_option maxHeartbeats 4000000 in
theorem turns_yes (w : World) (T0 : Tu w) (K n j ko kh kq : Int) (Q qo qh qq : Nat) (c1 c2 s1 s2 : Dyadic) (bK : -9223372036854775808 ≤ K ∧ K ≤ 9223372036854775807) (q14 : Q ≤ 14) (hr : goodT K (Q : Int) = true) (hn : 0 ≤ n ∧ n ≤ 255) (hj : n % 70 + 1 = j)
    (HC : Hid (∀ w', Tb w' → Pl w' → Calls Tryz.prog 14 #[.agg #[.int .i64 K, .int .i64 (Q : Int)], .int .i64 j] w' (RetI w' (c1) (c2))))
    (HS : Hid (∀ w', Tb w' → Pl w' → Calls Tryz.prog 16 #[.agg #[.int .i64 K, .int .i64 (Q : Int)], .int .i64 j] w' (RetI w' (s1) (s2))))
    (HCo : Hid (∀ w', Tb w' → Pl w' → Calls Tryz.prog 14 #[.agg #[.int .i64 ko, .int .i64 (qo : Int)], .int .i64 j] w' (RetI w' (c1) (c2))))
    (HSo : Hid (∀ w', Tb w' → Pl w' → Calls Tryz.prog 16 #[.agg #[.int .i64 ko, .int .i64 (qo : Int)], .int .i64 j] w' (RetI w' (-s2) (-s1))))
    (HCh : Hid (∀ w', Tb w' → Pl w' → Calls Tryz.prog 14 #[.agg #[.int .i64 kh, .int .i64 (qh : Int)], .int .i64 j] w' (RetI w' (-c2) (-c1))))
    (HSh : Hid (∀ w', Tb w' → Pl w' → Calls Tryz.prog 16 #[.agg #[.int .i64 kh, .int .i64 (qh : Int)], .int .i64 j] w' (RetI w' (-s2) (-s1))))
    (HCq : Hid (∀ w', Tb w' → Pl w' → Calls Tryz.prog 14 #[.agg #[.int .i64 kq, .int .i64 (qq : Int)], .int .i64 j] w' (RetI w' (-s2) (-s1))))
    (HSq : Hid (∀ w', Tb w' → Pl w' → Calls Tryz.prog 16 #[.agg #[.int .i64 kq, .int .i64 (qq : Int)], .int .i64 j] w' (RetI w' (c1) (c2))))
    (HTo : Hid (∀ w', Calls Tryz.prog 32 #[.agg #[.int .i64 K, .int .i64 (Q : Int)]] w' (RetE w' (.agg #[.int .i64 ko, .int .i64 (qo : Int)]))))
    (HTh : Hid (∀ w', Calls Tryz.prog 33 #[.agg #[.int .i64 K, .int .i64 (Q : Int)], .agg #[.int .i64 1, .int .i64 1]] w' (RetE w' (.agg #[.int .i64 kh, .int .i64 (qh : Int)]))))
    (HTq : Hid (∀ w', Calls Tryz.prog 33 #[.agg #[.int .i64 K, .int .i64 (Q : Int)], .agg #[.int .i64 1, .int .i64 2]] w' (RetE w' (.agg #[.int .i64 kq, .int .i64 (qq : Int)])))) :
    Calls Tryz.prog 6 #[.agg #[.int .i64 K, .int .i64 (Q : Int)], .int .u8 n] w (RetE w (.bool true)) := by
  have bQ : -9223372036854775808 ≤ (Q : Int) ∧ (Q : Int) ≤ 9223372036854775807 := by omega
  have T := T0.tb
  have P := T0.pl
  clear T0
  go_enter Tryz.func6, Tryz.ntmps6
  go_wp2_with fail
  refine (headC_any _ (T.ext ((Ext.refl w).alloc _)) (P.ext ((Ext.refl w).alloc _))).mono ?_
  rintro _ w1 ⟨rfl, f1⟩
  have Bt0 : B2 w1 (w.heap.size) (.int .i64 K) (.int .i64 (Q : Int)) := B2.at ((Ext.refl _).trans f1) (by simp)
  have e1 : Ext w w1 := ((Ext.refl w).alloc _).trans f1
  replace T := T.ext e1
  replace P := P.ext e1
  have E1 : Ext w w1 := e1
  clear f1
  obtain ⟨Bt0_0, Bt0_1⟩ := _root_.id Bt0
  have Bt0_l := World.block_lt_of_cell? _ _ Bt0_0
  go_wp2_with fail
  refine (good1_any _ w1.heap.size K (Q : Int) true hr bK bQ (B2.at (Ext.refl _) rfl)).mono ?_
  rintro _ w2 ⟨rfl, f2⟩
  clear Bt0_0 Bt0_1 Bt0_l
  have e2 : Ext w1 w2 := ((Ext.refl w1).alloc _).trans f2
  replace T := T.ext e2
  replace P := P.ext e2
  replace Bt0 := Bt0.ext e2
  have E2 : Ext w w2 := E1.trans e2
  clear e2 f2 E1
  go_wp2_with fail
  refine (bits_any _ n j hn hj).mono ?_
  rintro _ w3 ⟨rfl, f3⟩
  have e3 : Ext w2 w3 := (Ext.refl w2).trans f3
  replace T := T.ext e3
  replace P := P.ext e3
  replace Bt0 := Bt0.ext e3
  have E3 : Ext w w3 := E2.trans e3
  clear e3 f3 E2
  clear hj hn hr bK bQ
  obtain ⟨Bt0_0, Bt0_1⟩ := _root_.id Bt0
  have Bt0_l := World.block_lt_of_cell? _ _ Bt0_0
  go_wp2_with fail
  refine (HC.out _ T P).mono ?_
  rintro _ w4 ⟨v4, rfl, ic, f4⟩
  clear Bt0_0 Bt0_1 Bt0_l
  have e4 : Ext w3 w4 := (Ext.refl w3).trans f4
  replace T := T.ext e4
  replace P := P.ext e4
  replace Bt0 := Bt0.ext e4
  have E4 : Ext w w4 := E3.trans e4
  clear e4 f4 E3
  obtain ⟨bic, Aic, lic, cic, jic, bic', Aic', lic', cic', jic', rfl, ic_l, ic_h⟩ := ic
  have ic := In.mk ic_l ic_h
  clear ic_l ic_h
  obtain ⟨Bt0_0, Bt0_1⟩ := _root_.id Bt0
  have Bt0_l := World.block_lt_of_cell? _ _ Bt0_0
  go_wp2_with fail
  refine (HS.out _ (T.ext ((Ext.refl w4).alloc _)) (P.ext ((Ext.refl w4).alloc _))).mono ?_
  rintro _ w5 ⟨v5, rfl, is, f5⟩
  clear Bt0_0 Bt0_1 Bt0_l
  have Vc : Bx w5 (w4.heap.size) (.bool bic) (.slice Aic lic cic) (.int .i64 jic) (.bool bic') (.slice Aic' lic' cic') (.int .i64 jic') := Bx.at ((Ext.refl _).trans f5) (by simp)
  have e5 : Ext w4 w5 := ((Ext.refl w4).alloc _).trans f5
  replace T := T.ext e5
  replace P := P.ext e5
  replace ic := ic.ext e5
  replace Bt0 := Bt0.ext e5
  have E5 : Ext w w5 := E4.trans e5
  clear e5 f5 E4
  obtain ⟨bis, Ais, lis, cis, jis, bis', Ais', lis', cis', jis', rfl, is_l, is_h⟩ := is
  have is := In.mk is_l is_h
  clear is_l is_h
  clear HC HS
  obtain ⟨Bt0_0, Bt0_1⟩ := _root_.id Bt0
  have Bt0_l := World.block_lt_of_cell? _ _ Bt0_0
  go_wp2_with fail
  refine (HTo.out _).mono ?_
  rintro _ w6 ⟨rfl, f6⟩
  clear Bt0_0 Bt0_1 Bt0_l
  have Vs : Bx w6 (w5.heap.size) (.bool bis) (.slice Ais lis cis) (.int .i64 jis) (.bool bis') (.slice Ais' lis' cis') (.int .i64 jis') := Bx.at ((Ext.refl _).trans f6) (by simp)
  have e6 : Ext w5 w6 := ((Ext.refl w5).alloc _).trans f6
  replace T := T.ext e6
  replace P := P.ext e6
  replace ic := ic.ext e6
  replace is := is.ext e6
  replace Bt0 := Bt0.ext e6
  replace Vc := Vc.ext e6
  have E6 : Ext w w6 := E5.trans e6
  clear e6 f6 E5
  obtain ⟨Bt0_0, Bt0_1⟩ := _root_.id Bt0
  have Bt0_l := World.block_lt_of_cell? _ _ Bt0_0
  go_wp2_with fail
  refine (HTh.out _).mono ?_
  rintro _ w7 ⟨rfl, f7⟩
  clear Bt0_0 Bt0_1 Bt0_l
  have Bo : B2 w7 (w6.heap.size) (.int .i64 ko) (.int .i64 (qo : Int)) := B2.at ((Ext.refl _).trans f7) (by simp)
  have e7 : Ext w6 w7 := ((Ext.refl w6).alloc _).trans f7
  replace T := T.ext e7
  replace P := P.ext e7
  replace ic := ic.ext e7
  replace is := is.ext e7
  replace Bt0 := Bt0.ext e7
  replace Vc := Vc.ext e7
  replace Vs := Vs.ext e7
  have E7 : Ext w w7 := E6.trans e7
  clear e7 f7 E6
  obtain ⟨Bt0_0, Bt0_1⟩ := _root_.id Bt0
  have Bt0_l := World.block_lt_of_cell? _ _ Bt0_0
  go_wp2_with fail
  refine (HTq.out _).mono ?_
  rintro _ w8 ⟨rfl, f8⟩
  clear Bt0_0 Bt0_1 Bt0_l
  have Bh : B2 w8 (w7.heap.size) (.int .i64 kh) (.int .i64 (qh : Int)) := B2.at ((Ext.refl _).trans f8) (by simp)
  have e8 : Ext w7 w8 := ((Ext.refl w7).alloc _).trans f8
  replace T := T.ext e8
  replace P := P.ext e8
  replace ic := ic.ext e8
  replace is := is.ext e8
  replace Bt0 := Bt0.ext e8
  replace Vc := Vc.ext e8
  replace Vs := Vs.ext e8
  replace Bo := Bo.ext e8
  have E8 : Ext w w8 := E7.trans e8
  clear e8 f8 E7
  clear HTo HTh HTq
  obtain ⟨Bt0_0, Bt0_1⟩ := _root_.id Bt0
  have Bt0_l := World.block_lt_of_cell? _ _ Bt0_0
  go_upto_region 10 with fail
  try simp only [List.append_eq, List.cons_append, List.nil_append]
  have Bq : B2 (w8.alloc (.cells #[.int .i64 kq, .int .i64 (qq : Int)] 23)) w8.heap.size (.int .i64 kq) (.int .i64 (qq : Int)) := B2.at (Ext.refl _) rfl
  have eW9 : Ext w8 (w8.alloc (.cells #[.int .i64 kq, .int .i64 (qq : Int)] 23)) := (Ext.refl _).alloc _
  replace T := T.ext eW9
  replace P := P.ext eW9
  replace ic := ic.ext eW9
  replace is := is.ext eW9
  replace Bt0 := Bt0.ext eW9
  replace Vc := Vc.ext eW9
  replace Vs := Vs.ext eW9
  replace Bo := Bo.ext eW9
  replace Bh := Bh.ext eW9
  have EW9 := E8.trans eW9
  clear Bt0_0 Bt0_1 Bt0_l
  clear eW9 E8
  generalize hgen : (w8.alloc (.cells #[.int .i64 kq, .int .i64 (qq : Int)] 23)) = W9 at *
  clear hgen
  obtain ⟨Bo_0, Bo_1⟩ := _root_.id Bo
  have Bo_l := World.block_lt_of_cell? _ _ Bo_0
  obtain ⟨Bh_0, Bh_1⟩ := _root_.id Bh
  have Bh_l := World.block_lt_of_cell? _ _ Bh_0
  obtain ⟨Bq_0, Bq_1⟩ := _root_.id Bq
  have Bq_l := World.block_lt_of_cell? _ _ Bq_0
  obtain ⟨Vc_0, Vc_1, Vc_2, Vc_3, Vc_4, Vc_5⟩ := _root_.id Vc
  have Vc_l := World.block_lt_of_cell? _ _ Vc_0
  obtain ⟨Vs_0, Vs_1, Vs_2, Vs_3, Vs_4, Vs_5⟩ := _root_.id Vs
  have Vs_l := World.block_lt_of_cell? _ _ Vs_0
  refine wp_region_held_drew (S := (fun w' => (w'.cell? ⟨w6.heap.size, 0, none⟩ = some (.int .i64 ko) ∧ w'.cell? ⟨w6.heap.size, 1, none⟩ = some (.int .i64 (qo : Int))) ∧ (w'.cell? ⟨w7.heap.size, 0, none⟩ = some (.int .i64 kh) ∧ w'.cell? ⟨w7.heap.size, 1, none⟩ = some (.int .i64 (qh : Int))) ∧ (w'.cell? ⟨w8.heap.size, 0, none⟩ = some (.int .i64 kq) ∧ w'.cell? ⟨w8.heap.size, 1, none⟩ = some (.int .i64 (qq : Int))) ∧ (w'.cell? ⟨w4.heap.size, 0, none⟩ = some (.bool bic) ∧ w'.cell? ⟨w4.heap.size, 1, none⟩ = some (.slice Aic lic cic) ∧ w'.cell? ⟨w4.heap.size, 2, none⟩ = some (.int .i64 jic) ∧ w'.cell? ⟨w4.heap.size, 3, none⟩ = some (.bool bic') ∧ w'.cell? ⟨w4.heap.size, 4, none⟩ = some (.slice Aic' lic' cic') ∧ w'.cell? ⟨w4.heap.size, 5, none⟩ = some (.int .i64 jic')) ∧ (w'.cell? ⟨w5.heap.size, 0, none⟩ = some (.bool bis) ∧ w'.cell? ⟨w5.heap.size, 1, none⟩ = some (.slice Ais lis cis) ∧ w'.cell? ⟨w5.heap.size, 2, none⟩ = some (.int .i64 jis) ∧ w'.cell? ⟨w5.heap.size, 3, none⟩ = some (.bool bis') ∧ w'.cell? ⟨w5.heap.size, 4, none⟩ = some (.slice Ais' lis' cis') ∧ w'.cell? ⟨w5.heap.size, 5, none⟩ = some (.int .i64 jis')))) (by as_aux_lemma => kernel_rfl) ⟨b2 (Bo.ext (Ext.refl W9).drew), b2 (Bh.ext (Ext.refl W9).drew), b2 (Bq.ext (Ext.refl W9).drew), bx6 (Vc.ext (Ext.refl W9).drew), bx6 (Vs.ext (Ext.refl W9).drew)⟩ (fun hHeld => ?_)
  refine wpAnyH_take (i := 0) (v := ?_) rfl (by as_aux_lemma => kernel_rfl) (by as_aux_lemma => kernel_rfl) (by as_aux_lemma => kernel_rfl) (fun _ _ _ h => h) (Or.inl ⟨by rfl, ?_⟩) (by assumption) ?_
  rotate_left
  · (intro w hSw; (try dsimp only at hSw); go_simp); (try with_reducible rfl)
  simp only [List.getElem_toArray, List.getElem_cons_zero, Act.put, List.setIfInBounds_toArray, List.set_cons_zero, List.set_cons_succ]
  refine wpAnyH_take (i := 1) (v := ?_) rfl (by as_aux_lemma => kernel_rfl) (by as_aux_lemma => kernel_rfl) (by as_aux_lemma => kernel_rfl) (fun _ _ _ h => h) (Or.inl ⟨by rfl, ?_⟩) (by assumption) ?_
  rotate_left
  · (intro w hSw; (try dsimp only at hSw); go_simp); (try with_reducible rfl)
  simp only [List.getElem_toArray, List.getElem_cons_zero, List.getElem_cons_succ, Act.put, List.setIfInBounds_toArray, List.set_cons_zero, List.set_cons_succ]
  refine wpAnyH_take (i := 2) (v := ?_) rfl (by as_aux_lemma => kernel_rfl) (by as_aux_lemma => kernel_rfl) (by as_aux_lemma => kernel_rfl) (fun _ _ _ h => h) (Or.inl ⟨by rfl, ?_⟩) (by assumption) ?_
  rotate_left
  · (intro w hSw; (try dsimp only at hSw); go_simp); (try with_reducible rfl)
  simp only [List.getElem_toArray, List.getElem_cons_zero, List.getElem_cons_succ, Act.put, List.setIfInBounds_toArray, List.set_cons_zero, List.set_cons_succ]
  refine wpAnyH_take (i := 3) (v := ?_) rfl (by as_aux_lemma => kernel_rfl) (by as_aux_lemma => kernel_rfl) (by as_aux_lemma => kernel_rfl) (fun _ _ _ h => h) (Or.inl ⟨by rfl, ?_⟩) (by assumption) ?_
  rotate_left
  · (intro w hSw; (try dsimp only at hSw); go_simp); (try with_reducible rfl)
  simp only [List.getElem_toArray, List.getElem_cons_zero, List.getElem_cons_succ, Act.put, List.setIfInBounds_toArray, List.set_cons_zero, List.set_cons_succ]
  refine wpAnyH_take (i := 5) (v := ?_) rfl (by as_aux_lemma => kernel_rfl) (by as_aux_lemma => kernel_rfl) (by as_aux_lemma => kernel_rfl) (fun _ _ _ h => h) (Or.inl ⟨by rfl, ?_⟩) (by assumption) ?_
  rotate_left
  · (intro w hSw; (try dsimp only at hSw); go_simp); (try with_reducible rfl)
  simp only [List.getElem_toArray, List.getElem_cons_zero, List.getElem_cons_succ, Act.put, List.setIfInBounds_toArray, List.set_cons_zero, List.set_cons_succ]
  refine wpAnyH_ready (rs := [4]) (by as_aux_lemma => kernel_rfl) (by simp) ?_
  refine AllReadyH.cons rfl (fun K hK => ?_) AllReadyH.nil
  go_simp
  refine (HCo.out _ (T.ext (Ext.refl W9).drew) (P.ext (Ext.refl W9).drew)).mono ?_
  rintro _ u1 ⟨vu1, rfl, mu1, eu1⟩
  have Fu1 : Ext W9 u1 := (Ext.refl W9).drew.trans eu1
  refine hK.out _ _ ⟨b2 (Bo.ext Fu1), b2 (Bh.ext Fu1), b2 (Bq.ext Fu1), bx6 (Vc.ext Fu1), bx6 (Vs.ext Fu1)⟩ (fun hHeld => ?_)
  clear hK K eu1
  refine wpAnyH_ready (rs := [6]) (by as_aux_lemma => kernel_rfl) (by simp) ?_
  refine AllReadyH.cons rfl (fun K hK => ?_) AllReadyH.nil
  go_simp
  refine (risame_eq _ _ _ _ _ _ _ mu1 (ic.ext Fu1) rfl rfl).mono ?_
  rintro _ u2 ⟨rfl, eu2⟩
  have Fu2 : Ext W9 u2 := Fu1.trans eu2
  replace mu1 := mu1.ext eu2
  refine hK.out _ _ ⟨b2 (Bo.ext Fu2), b2 (Bh.ext Fu2), b2 (Bq.ext Fu2), bx6 (Vc.ext Fu2), bx6 (Vs.ext Fu2)⟩ (fun hHeld => ?_)
  clear hK K eu2 Fu1
  refine wpAnyH_take (i := 7) (v := ?_) rfl (by as_aux_lemma => kernel_rfl) (by as_aux_lemma => kernel_rfl) (by as_aux_lemma => kernel_rfl) (fun _ _ _ h => h) (Or.inl ⟨by rfl, ?_⟩) (by assumption) ?_
  rotate_left
  · (intro w hSw; (try dsimp only at hSw); go_simp); (try with_reducible rfl)
  simp only [List.getElem_toArray, List.getElem_cons_zero, List.getElem_cons_succ, Act.put, List.setIfInBounds_toArray, List.set_cons_zero, List.set_cons_succ]
  refine wpAnyH_take (i := 8) (v := ?_) rfl (by as_aux_lemma => kernel_rfl) (by as_aux_lemma => kernel_rfl) (by as_aux_lemma => kernel_rfl) (fun _ _ _ h => h) (Or.inl ⟨by rfl, ?_⟩) (by assumption) ?_
  rotate_left
  · (intro w hSw; (try dsimp only at hSw); go_simp); (try with_reducible rfl)
  simp only [List.getElem_toArray, List.getElem_cons_zero, List.getElem_cons_succ, Act.put, List.setIfInBounds_toArray, List.set_cons_zero, List.set_cons_succ]
  refine wpAnyH_take (i := 9) (v := ?_) rfl (by as_aux_lemma => kernel_rfl) (by as_aux_lemma => kernel_rfl) (by as_aux_lemma => kernel_rfl) (fun _ _ _ h => h) (Or.inl ⟨by rfl, ?_⟩) (by assumption) ?_
  rotate_left
  · (intro w hSw; (try dsimp only at hSw); go_simp); (try with_reducible rfl)
  simp only [List.getElem_toArray, List.getElem_cons_zero, List.getElem_cons_succ, Act.put, List.setIfInBounds_toArray, List.set_cons_zero, List.set_cons_succ]
  refine wpAnyH_take (i := 10) (v := ?_) rfl (by as_aux_lemma => kernel_rfl) (by as_aux_lemma => kernel_rfl) (by as_aux_lemma => kernel_rfl) (fun _ _ _ h => h) (Or.inl ⟨by rfl, ?_⟩) (by assumption) ?_
  rotate_left
  · (intro w hSw; (try dsimp only at hSw); go_simp); (try with_reducible rfl)
  simp only [List.getElem_toArray, List.getElem_cons_zero, List.getElem_cons_succ, Act.put, List.setIfInBounds_toArray, List.set_cons_zero, List.set_cons_succ]
  refine wpAnyH_take (i := 12) (v := ?_) rfl (by as_aux_lemma => kernel_rfl) (by as_aux_lemma => kernel_rfl) (by as_aux_lemma => kernel_rfl) (fun _ _ _ h => h) (Or.inl ⟨by rfl, ?_⟩) (by assumption) ?_
  rotate_left
  · (intro w hSw; (try dsimp only at hSw); go_simp); (try with_reducible rfl)
  simp only [List.getElem_toArray, List.getElem_cons_zero, List.getElem_cons_succ, Act.put, List.setIfInBounds_toArray, List.set_cons_zero, List.set_cons_succ]
  refine wpAnyH_ready (rs := [11]) (by as_aux_lemma => kernel_rfl) (by simp) ?_
  refine AllReadyH.cons rfl (fun K hK => ?_) AllReadyH.nil
  go_simp
  refine (HSo.out _ (T.ext Fu2) (P.ext Fu2)).mono ?_
  rintro _ u3 ⟨vu3, rfl, mu3, eu3⟩
  have Fu3 : Ext W9 u3 := Fu2.trans eu3
  refine hK.out _ _ ⟨b2 (Bo.ext Fu3), b2 (Bh.ext Fu3), b2 (Bq.ext Fu3), bx6 (Vc.ext Fu3), bx6 (Vs.ext Fu3)⟩ (fun hHeld => ?_)
  clear hK K eu3 Fu2 mu1
  refine wpAnyH_ready (rs := [13]) (by as_aux_lemma => kernel_rfl) (by simp) ?_
  refine AllReadyH.cons rfl (fun K hK => ?_) AllReadyH.nil
  go_simp
  refine (riflip_any _ _ s1 s2 (is.ext Fu3)).mono ?_
  rintro _ u4 ⟨vu4, rfl, mu4, eu4⟩
  have Fu4 : Ext W9 u4 := Fu3.trans eu4
  replace mu3 := mu3.ext eu4
  refine hK.out _ _ ⟨b2 (Bo.ext Fu4), b2 (Bh.ext Fu4), b2 (Bq.ext Fu4), bx6 (Vc.ext Fu4), bx6 (Vs.ext Fu4)⟩ (fun hHeld => ?_)
  clear hK K eu4 Fu3
  refine wpAnyH_ready (rs := [14]) (by as_aux_lemma => kernel_rfl) (by simp) ?_
  refine AllReadyH.cons rfl (fun K hK => ?_) AllReadyH.nil
  go_simp
  refine (risame_eq _ _ _ _ _ _ _ mu3 mu4 rfl rfl).mono ?_
  rintro _ u5 ⟨rfl, eu5⟩
  have Fu5 : Ext W9 u5 := Fu4.trans eu5
  replace mu3 := mu3.ext eu5
  replace mu4 := mu4.ext eu5
  refine hK.out _ _ ⟨b2 (Bo.ext Fu5), b2 (Bh.ext Fu5), b2 (Bq.ext Fu5), bx6 (Vc.ext Fu5), bx6 (Vs.ext Fu5)⟩ (fun hHeld => ?_)
  clear hK K eu5 Fu4
  refine wpAnyH_take (i := 15) (v := ?_) rfl (by as_aux_lemma => kernel_rfl) (by as_aux_lemma => kernel_rfl) (by as_aux_lemma => kernel_rfl) (fun _ _ _ h => h) (Or.inl ⟨by rfl, ?_⟩) (by assumption) ?_
  rotate_left
  · (intro w hSw; (try dsimp only at hSw); go_simp); (try with_reducible rfl)
  simp only [List.getElem_toArray, List.getElem_cons_zero, List.getElem_cons_succ, Act.put, List.setIfInBounds_toArray, List.set_cons_zero, List.set_cons_succ]
  refine wpAnyH_take (i := 16) (v := ?_) rfl (by as_aux_lemma => kernel_rfl) (by as_aux_lemma => kernel_rfl) (by as_aux_lemma => kernel_rfl) (fun _ _ _ h => h) (Or.inl ⟨by rfl, ?_⟩) (by assumption) ?_
  rotate_left
  · (intro w hSw; (try dsimp only at hSw); go_simp); (try with_reducible rfl)
  simp only [List.getElem_toArray, List.getElem_cons_zero, List.getElem_cons_succ, Act.put, List.setIfInBounds_toArray, List.set_cons_zero, List.set_cons_succ]
  refine wpAnyH_take (i := 17) (v := ?_) rfl (by as_aux_lemma => kernel_rfl) (by as_aux_lemma => kernel_rfl) (by as_aux_lemma => kernel_rfl) (fun _ _ _ h => h) (Or.inl ⟨by rfl, ?_⟩) (by assumption) ?_
  rotate_left
  · (intro w hSw; (try dsimp only at hSw); go_simp); (try with_reducible rfl)
  simp only [List.getElem_toArray, List.getElem_cons_zero, List.getElem_cons_succ, Act.put, List.setIfInBounds_toArray, List.set_cons_zero, List.set_cons_succ]
  refine wpAnyH_take (i := 18) (v := ?_) rfl (by as_aux_lemma => kernel_rfl) (by as_aux_lemma => kernel_rfl) (by as_aux_lemma => kernel_rfl) (fun _ _ _ h => h) (Or.inl ⟨by rfl, ?_⟩) (by assumption) ?_
  rotate_left
  · (intro w hSw; (try dsimp only at hSw); go_simp); (try with_reducible rfl)
  simp only [List.getElem_toArray, List.getElem_cons_zero, List.getElem_cons_succ, Act.put, List.setIfInBounds_toArray, List.set_cons_zero, List.set_cons_succ]
  refine wpAnyH_take (i := 20) (v := ?_) rfl (by as_aux_lemma => kernel_rfl) (by as_aux_lemma => kernel_rfl) (by as_aux_lemma => kernel_rfl) (fun _ _ _ h => h) (Or.inl ⟨by rfl, ?_⟩) (by assumption) ?_
  rotate_left
  · (intro w hSw; (try dsimp only at hSw); go_simp); (try with_reducible rfl)
  simp only [List.getElem_toArray, List.getElem_cons_zero, List.getElem_cons_succ, Act.put, List.setIfInBounds_toArray, List.set_cons_zero, List.set_cons_succ]
  refine wpAnyH_ready (rs := [19]) (by as_aux_lemma => kernel_rfl) (by simp) ?_
  refine AllReadyH.cons rfl (fun K hK => ?_) AllReadyH.nil
  go_simp
  refine (HCh.out _ (T.ext Fu5) (P.ext Fu5)).mono ?_
  rintro _ u6 ⟨vu6, rfl, mu6, eu6⟩
  have Fu6 : Ext W9 u6 := Fu5.trans eu6
  refine hK.out _ _ ⟨b2 (Bo.ext Fu6), b2 (Bh.ext Fu6), b2 (Bq.ext Fu6), bx6 (Vc.ext Fu6), bx6 (Vs.ext Fu6)⟩ (fun hHeld => ?_)
  clear hK K eu6 Fu5 mu3 mu4
  refine wpAnyH_ready (rs := [21]) (by as_aux_lemma => kernel_rfl) (by simp) ?_
  refine AllReadyH.cons rfl (fun K hK => ?_) AllReadyH.nil
  go_simp
  refine (riflip_any _ _ c1 c2 (ic.ext Fu6)).mono ?_
  rintro _ u7 ⟨vu7, rfl, mu7, eu7⟩
  have Fu7 : Ext W9 u7 := Fu6.trans eu7
  replace mu6 := mu6.ext eu7
  refine hK.out _ _ ⟨b2 (Bo.ext Fu7), b2 (Bh.ext Fu7), b2 (Bq.ext Fu7), bx6 (Vc.ext Fu7), bx6 (Vs.ext Fu7)⟩ (fun hHeld => ?_)
  clear hK K eu7 Fu6
  refine wpAnyH_ready (rs := [22]) (by as_aux_lemma => kernel_rfl) (by simp) ?_
  refine AllReadyH.cons rfl (fun K hK => ?_) AllReadyH.nil
  go_simp
  refine (risame_eq _ _ _ _ _ _ _ mu6 mu7 rfl rfl).mono ?_
  rintro _ u8 ⟨rfl, eu8⟩
  have Fu8 : Ext W9 u8 := Fu7.trans eu8
  replace mu6 := mu6.ext eu8
  replace mu7 := mu7.ext eu8
  refine hK.out _ _ ⟨b2 (Bo.ext Fu8), b2 (Bh.ext Fu8), b2 (Bq.ext Fu8), bx6 (Vc.ext Fu8), bx6 (Vs.ext Fu8)⟩ (fun hHeld => ?_)
  clear hK K eu8 Fu7
  refine wpAnyH_take (i := 23) (v := ?_) rfl (by as_aux_lemma => kernel_rfl) (by as_aux_lemma => kernel_rfl) (by as_aux_lemma => kernel_rfl) (fun _ _ _ h => h) (Or.inl ⟨by rfl, ?_⟩) (by assumption) ?_
  rotate_left
  · (intro w hSw; (try dsimp only at hSw); go_simp); (try with_reducible rfl)
  simp only [List.getElem_toArray, List.getElem_cons_zero, List.getElem_cons_succ, Act.put, List.setIfInBounds_toArray, List.set_cons_zero, List.set_cons_succ]
  refine wpAnyH_take (i := 24) (v := ?_) rfl (by as_aux_lemma => kernel_rfl) (by as_aux_lemma => kernel_rfl) (by as_aux_lemma => kernel_rfl) (fun _ _ _ h => h) (Or.inl ⟨by rfl, ?_⟩) (by assumption) ?_
  rotate_left
  · (intro w hSw; (try dsimp only at hSw); go_simp); (try with_reducible rfl)
  simp only [List.getElem_toArray, List.getElem_cons_zero, List.getElem_cons_succ, Act.put, List.setIfInBounds_toArray, List.set_cons_zero, List.set_cons_succ]
  refine wpAnyH_take (i := 25) (v := ?_) rfl (by as_aux_lemma => kernel_rfl) (by as_aux_lemma => kernel_rfl) (by as_aux_lemma => kernel_rfl) (fun _ _ _ h => h) (Or.inl ⟨by rfl, ?_⟩) (by assumption) ?_
  rotate_left
  · (intro w hSw; (try dsimp only at hSw); go_simp); (try with_reducible rfl)
  simp only [List.getElem_toArray, List.getElem_cons_zero, List.getElem_cons_succ, Act.put, List.setIfInBounds_toArray, List.set_cons_zero, List.set_cons_succ]
  refine wpAnyH_take (i := 26) (v := ?_) rfl (by as_aux_lemma => kernel_rfl) (by as_aux_lemma => kernel_rfl) (by as_aux_lemma => kernel_rfl) (fun _ _ _ h => h) (Or.inl ⟨by rfl, ?_⟩) (by assumption) ?_
  rotate_left
  · (intro w hSw; (try dsimp only at hSw); go_simp); (try with_reducible rfl)
  simp only [List.getElem_toArray, List.getElem_cons_zero, List.getElem_cons_succ, Act.put, List.setIfInBounds_toArray, List.set_cons_zero, List.set_cons_succ]
  refine wpAnyH_take (i := 28) (v := ?_) rfl (by as_aux_lemma => kernel_rfl) (by as_aux_lemma => kernel_rfl) (by as_aux_lemma => kernel_rfl) (fun _ _ _ h => h) (Or.inl ⟨by rfl, ?_⟩) (by assumption) ?_
  rotate_left
  · (intro w hSw; (try dsimp only at hSw); go_simp); (try with_reducible rfl)
  simp only [List.getElem_toArray, List.getElem_cons_zero, List.getElem_cons_succ, Act.put, List.setIfInBounds_toArray, List.set_cons_zero, List.set_cons_succ]
  refine wpAnyH_ready (rs := [27]) (by as_aux_lemma => kernel_rfl) (by simp) ?_
  refine AllReadyH.cons rfl (fun K hK => ?_) AllReadyH.nil
  go_simp
  refine (HSh.out _ (T.ext Fu8) (P.ext Fu8)).mono ?_
  rintro _ u9 ⟨vu9, rfl, mu9, eu9⟩
  have Fu9 : Ext W9 u9 := Fu8.trans eu9
  refine hK.out _ _ ⟨b2 (Bo.ext Fu9), b2 (Bh.ext Fu9), b2 (Bq.ext Fu9), bx6 (Vc.ext Fu9), bx6 (Vs.ext Fu9)⟩ (fun hHeld => ?_)
  clear hK K eu9 Fu8 mu6 mu7
  refine wpAnyH_ready (rs := [29]) (by as_aux_lemma => kernel_rfl) (by simp) ?_
  refine AllReadyH.cons rfl (fun K hK => ?_) AllReadyH.nil
  go_simp
  refine (riflip_any _ _ s1 s2 (is.ext Fu9)).mono ?_
  rintro _ u10 ⟨vu10, rfl, mu10, eu10⟩
  have Fu10 : Ext W9 u10 := Fu9.trans eu10
  replace mu9 := mu9.ext eu10
  refine hK.out _ _ ⟨b2 (Bo.ext Fu10), b2 (Bh.ext Fu10), b2 (Bq.ext Fu10), bx6 (Vc.ext Fu10), bx6 (Vs.ext Fu10)⟩ (fun hHeld => ?_)
  clear hK K eu10 Fu9
  refine wpAnyH_ready (rs := [30]) (by as_aux_lemma => kernel_rfl) (by simp) ?_
  refine AllReadyH.cons rfl (fun K hK => ?_) AllReadyH.nil
  go_simp
  refine (risame_eq _ _ _ _ _ _ _ mu9 mu10 rfl rfl).mono ?_
  rintro _ u11 ⟨rfl, eu11⟩
  have Fu11 : Ext W9 u11 := Fu10.trans eu11
  replace mu9 := mu9.ext eu11
  replace mu10 := mu10.ext eu11
  refine hK.out _ _ ⟨b2 (Bo.ext Fu11), b2 (Bh.ext Fu11), b2 (Bq.ext Fu11), bx6 (Vc.ext Fu11), bx6 (Vs.ext Fu11)⟩ (fun hHeld => ?_)
  clear hK K eu11 Fu10
  refine wpAnyH_take (i := 31) (v := ?_) rfl (by as_aux_lemma => kernel_rfl) (by as_aux_lemma => kernel_rfl) (by as_aux_lemma => kernel_rfl) (fun _ _ _ h => h) (Or.inl ⟨by rfl, ?_⟩) (by assumption) ?_
  rotate_left
  · (intro w hSw; (try dsimp only at hSw); go_simp); (try with_reducible rfl)
  simp only [List.getElem_toArray, List.getElem_cons_zero, List.getElem_cons_succ, Act.put, List.setIfInBounds_toArray, List.set_cons_zero, List.set_cons_succ]
  refine wpAnyH_take (i := 32) (v := ?_) rfl (by as_aux_lemma => kernel_rfl) (by as_aux_lemma => kernel_rfl) (by as_aux_lemma => kernel_rfl) (fun _ _ _ h => h) (Or.inl ⟨by rfl, ?_⟩) (by assumption) ?_
  rotate_left
  · (intro w hSw; (try dsimp only at hSw); go_simp); (try with_reducible rfl)
  simp only [List.getElem_toArray, List.getElem_cons_zero, List.getElem_cons_succ, Act.put, List.setIfInBounds_toArray, List.set_cons_zero, List.set_cons_succ]
  refine wpAnyH_take (i := 33) (v := ?_) rfl (by as_aux_lemma => kernel_rfl) (by as_aux_lemma => kernel_rfl) (by as_aux_lemma => kernel_rfl) (fun _ _ _ h => h) (Or.inl ⟨by rfl, ?_⟩) (by assumption) ?_
  rotate_left
  · (intro w hSw; (try dsimp only at hSw); go_simp); (try with_reducible rfl)
  simp only [List.getElem_toArray, List.getElem_cons_zero, List.getElem_cons_succ, Act.put, List.setIfInBounds_toArray, List.set_cons_zero, List.set_cons_succ]
  refine wpAnyH_take (i := 34) (v := ?_) rfl (by as_aux_lemma => kernel_rfl) (by as_aux_lemma => kernel_rfl) (by as_aux_lemma => kernel_rfl) (fun _ _ _ h => h) (Or.inl ⟨by rfl, ?_⟩) (by assumption) ?_
  rotate_left
  · (intro w hSw; (try dsimp only at hSw); go_simp); (try with_reducible rfl)
  simp only [List.getElem_toArray, List.getElem_cons_zero, List.getElem_cons_succ, Act.put, List.setIfInBounds_toArray, List.set_cons_zero, List.set_cons_succ]
  refine wpAnyH_take (i := 36) (v := ?_) rfl (by as_aux_lemma => kernel_rfl) (by as_aux_lemma => kernel_rfl) (by as_aux_lemma => kernel_rfl) (fun _ _ _ h => h) (Or.inl ⟨by rfl, ?_⟩) (by assumption) ?_
  rotate_left
  · (intro w hSw; (try dsimp only at hSw); go_simp); (try with_reducible rfl)
  simp only [List.getElem_toArray, List.getElem_cons_zero, List.getElem_cons_succ, Act.put, List.setIfInBounds_toArray, List.set_cons_zero, List.set_cons_succ]
  refine wpAnyH_ready (rs := [35]) (by as_aux_lemma => kernel_rfl) (by simp) ?_
  refine AllReadyH.cons rfl (fun K hK => ?_) AllReadyH.nil
  go_simp
  refine (HCq.out _ (T.ext Fu11) (P.ext Fu11)).mono ?_
  rintro _ u12 ⟨vu12, rfl, mu12, eu12⟩
  have Fu12 : Ext W9 u12 := Fu11.trans eu12
  refine hK.out _ _ ⟨b2 (Bo.ext Fu12), b2 (Bh.ext Fu12), b2 (Bq.ext Fu12), bx6 (Vc.ext Fu12), bx6 (Vs.ext Fu12)⟩ (fun hHeld => ?_)
  clear hK K eu12 Fu11 mu9 mu10
  refine wpAnyH_ready (rs := [37]) (by as_aux_lemma => kernel_rfl) (by simp) ?_
  refine AllReadyH.cons rfl (fun K hK => ?_) AllReadyH.nil
  go_simp
  refine (riflip_any _ _ s1 s2 (is.ext Fu12)).mono ?_
  rintro _ u13 ⟨vu13, rfl, mu13, eu13⟩
  have Fu13 : Ext W9 u13 := Fu12.trans eu13
  replace mu12 := mu12.ext eu13
  refine hK.out _ _ ⟨b2 (Bo.ext Fu13), b2 (Bh.ext Fu13), b2 (Bq.ext Fu13), bx6 (Vc.ext Fu13), bx6 (Vs.ext Fu13)⟩ (fun hHeld => ?_)
  clear hK K eu13 Fu12
  refine wpAnyH_ready (rs := [38]) (by as_aux_lemma => kernel_rfl) (by simp) ?_
  refine AllReadyH.cons rfl (fun K hK => ?_) AllReadyH.nil
  go_simp
  refine (risame_eq _ _ _ _ _ _ _ mu12 mu13 rfl rfl).mono ?_
  rintro _ u14 ⟨rfl, eu14⟩
  have Fu14 : Ext W9 u14 := Fu13.trans eu14
  replace mu12 := mu12.ext eu14
  replace mu13 := mu13.ext eu14
  refine hK.out _ _ ⟨b2 (Bo.ext Fu14), b2 (Bh.ext Fu14), b2 (Bq.ext Fu14), bx6 (Vc.ext Fu14), bx6 (Vs.ext Fu14)⟩ (fun hHeld => ?_)
  clear hK K eu14 Fu13
  refine wpAnyH_take (i := 39) (v := ?_) rfl (by as_aux_lemma => kernel_rfl) (by as_aux_lemma => kernel_rfl) (by as_aux_lemma => kernel_rfl) (fun _ _ _ h => h) (Or.inl ⟨by rfl, ?_⟩) (by assumption) ?_
  rotate_left
  · (intro w hSw; (try dsimp only at hSw); go_simp); (try with_reducible rfl)
  simp only [List.getElem_toArray, List.getElem_cons_zero, List.getElem_cons_succ, Act.put, List.setIfInBounds_toArray, List.set_cons_zero, List.set_cons_succ]
  refine wpAnyH_take (i := 40) (v := ?_) rfl (by as_aux_lemma => kernel_rfl) (by as_aux_lemma => kernel_rfl) (by as_aux_lemma => kernel_rfl) (fun _ _ _ h => h) (Or.inl ⟨by rfl, ?_⟩) (by assumption) ?_
  rotate_left
  · (intro w hSw; (try dsimp only at hSw); go_simp); (try with_reducible rfl)
  simp only [List.getElem_toArray, List.getElem_cons_zero, List.getElem_cons_succ, Act.put, List.setIfInBounds_toArray, List.set_cons_zero, List.set_cons_succ]
  refine wpAnyH_take (i := 41) (v := ?_) rfl (by as_aux_lemma => kernel_rfl) (by as_aux_lemma => kernel_rfl) (by as_aux_lemma => kernel_rfl) (fun _ _ _ h => h) (Or.inl ⟨by rfl, ?_⟩) (by assumption) ?_
  rotate_left
  · (intro w hSw; (try dsimp only at hSw); go_simp); (try with_reducible rfl)
  simp only [List.getElem_toArray, List.getElem_cons_zero, List.getElem_cons_succ, Act.put, List.setIfInBounds_toArray, List.set_cons_zero, List.set_cons_succ]
  refine wpAnyH_take (i := 42) (v := ?_) rfl (by as_aux_lemma => kernel_rfl) (by as_aux_lemma => kernel_rfl) (by as_aux_lemma => kernel_rfl) (fun _ _ _ h => h) (Or.inl ⟨by rfl, ?_⟩) (by assumption) ?_
  rotate_left
  · (intro w hSw; (try dsimp only at hSw); go_simp); (try with_reducible rfl)
  simp only [List.getElem_toArray, List.getElem_cons_zero, List.getElem_cons_succ, Act.put, List.setIfInBounds_toArray, List.set_cons_zero, List.set_cons_succ]
  refine wpAnyH_take (i := 44) (v := ?_) rfl (by as_aux_lemma => kernel_rfl) (by as_aux_lemma => kernel_rfl) (by as_aux_lemma => kernel_rfl) (fun _ _ _ h => h) (Or.inl ⟨by rfl, ?_⟩) (by assumption) ?_
  rotate_left
  · (intro w hSw; (try dsimp only at hSw); go_simp); (try with_reducible rfl)
  simp only [List.getElem_toArray, List.getElem_cons_zero, List.getElem_cons_succ, Act.put, List.setIfInBounds_toArray, List.set_cons_zero, List.set_cons_succ]
  refine wpAnyH_ready (rs := [43]) (by as_aux_lemma => kernel_rfl) (by simp) ?_
  refine AllReadyH.cons rfl (fun K hK => ?_) AllReadyH.nil
  go_simp
  refine (HSq.out _ (T.ext Fu14) (P.ext Fu14)).mono ?_
  rintro _ u15 ⟨vu15, rfl, mu15, eu15⟩
  have Fu15 : Ext W9 u15 := Fu14.trans eu15
  refine hK.out _ _ ⟨b2 (Bo.ext Fu15), b2 (Bh.ext Fu15), b2 (Bq.ext Fu15), bx6 (Vc.ext Fu15), bx6 (Vs.ext Fu15)⟩ (fun hHeld => ?_)
  clear hK K eu15 Fu14 mu12 mu13
  refine wpAnyH_ready (rs := [45]) (by as_aux_lemma => kernel_rfl) (by simp) ?_
  refine AllReadyH.cons rfl (fun K hK => ?_) AllReadyH.nil
  go_simp
  refine (risame_eq _ _ _ _ _ _ _ mu15 (ic.ext Fu15) rfl rfl).mono ?_
  rintro _ u16 ⟨rfl, eu16⟩
  have Fu16 : Ext W9 u16 := Fu15.trans eu16
  replace mu15 := mu15.ext eu16
  refine hK.out _ _ ⟨b2 (Bo.ext Fu16), b2 (Bh.ext Fu16), b2 (Bq.ext Fu16), bx6 (Vc.ext Fu16), bx6 (Vs.ext Fu16)⟩ (fun hHeld => ?_)
  clear hK K eu16 Fu15
  refine wpAnyH_take (i := 46) (v := ?_) rfl (by as_aux_lemma => kernel_rfl) (by as_aux_lemma => kernel_rfl) (by as_aux_lemma => kernel_rfl) (fun _ _ _ h => h) (Or.inl ⟨by rfl, ?_⟩) (by assumption) ?_
  rotate_left
  · (intro w hSw; (try dsimp only at hSw); go_simp); (try with_reducible rfl)
  simp only [List.getElem_toArray, List.getElem_cons_zero, List.getElem_cons_succ, Act.put, List.setIfInBounds_toArray, List.set_cons_zero, List.set_cons_succ]
  refine wpAnyH_take (i := 47) (v := ?_) rfl (by as_aux_lemma => kernel_rfl) (by as_aux_lemma => kernel_rfl) (by as_aux_lemma => kernel_rfl) (fun _ _ _ h => h) (Or.inl ⟨by rfl, ?_⟩) (by assumption) ?_
  rotate_left
  · (intro w hSw; (try dsimp only at hSw); go_simp); (try with_reducible rfl)
  simp only [List.getElem_toArray, List.getElem_cons_zero, List.getElem_cons_succ, Act.put, List.setIfInBounds_toArray, List.set_cons_zero, List.set_cons_succ]
  refine wpAnyH_done (by as_aux_lemma => kernel_rfl) ?_ _
  go_wp2
  go_ret
  exact ⟨rfl, EW9.trans Fu16⟩
theorem walk_CircTurns (w : World) (T0 : Tu w) (K Q : Int) (bK : -9223372036854775808 ≤ K ∧ K ≤ 9223372036854775807) (bQ : -9223372036854775808 ≤ Q ∧ Q ≤ 9223372036854775807) (n : Int) (hn : 0 ≤ n ∧ n ≤ 255) :
    Calls Tryz.prog 6 #[.agg #[.int .i64 K, .int .i64 Q], .int .u8 n] w (RetE w (.bool true)) := by
  cases hr : goodT K Q with
  | false => exact turns_no w T0 K Q n 0 bK bQ hn hr
  | true =>
    have hr2 := hr
    obtain ⟨⟨q0, q14⟩, hK⟩ := goodT_iff.1 hr2
    obtain ⟨Q, rfl⟩ := Int.eq_ofNat_of_zero_le q0
    replace q14 : Q ≤ 14 := by omega
    obtain ⟨N, hN⟩ := Int.eq_ofNat_of_zero_le (show 0 ≤ n % 70 + 1 by omega)
    obtain ⟨r1, r2⟩ := cv_range (tv K Q)
    have f0 := tv_fine (K := K) q14
    have hv := tv_range K Q
    obtain ⟨kf, qf, hf, _⟩ := fm_good hv.1 hv.2 f0
    obtain ⟨ko, qo, ho, ho2⟩ := fm_good (v := (-tv K Q) % 1099511627776) (by omega) (by omega) (by omega)
    obtain ⟨kh, qh, hh, hh2⟩ := fm_good (v := (tv K Q + 549755813888) % 1099511627776) (by omega) (by omega) (by omega)
    obtain ⟨kq, qq, hq, hq2⟩ := fm_good (v := (tv K Q + 274877906944) % 1099511627776) (by omega) (by omega) (by omega)
    have bd : ∀ {v k : Int} {q : Nat}, Fm v k q → -1099511627776 ≤ k ∧ k ≤ 1099511627776 := fun h => by
      have a := h.low
      have b := p2_le a.2.2.1
      rw [p2_40] at b
      omega
    have x1 := tneg (n := N) r1.1 r1.2
    have x2 := tneg (n := N) r2.1 r2.2
    have o := cv_flip (tv K Q)
    have h := cv_halfturn (tv K Q)
    have q := cv_quarterturn (tv K Q)
    exact turns_yes w T0 K n _ ko kh kq Q qo qh qq _ _ _ _ bK q14 hr hn rfl
      (Lib.hid fun w' T' P' => ccos_good w' K Q N _ _ _ hN rfl rfl hK q14 (by omega) (by omega) T' P') (Lib.hid fun w' T' P' => csin_good w' K Q N _ _ _ hN rfl rfl hK q14 (by omega) (by omega) T' P')
      (Lib.hid fun w' T' P' => ccos_good w' ko qo N _ _ _ hN (by rw [ho.tv, o.1]) (by rw [ho.tv, o.1]) (bd ho) ho2 (by omega) (by omega) T' P')
      (Lib.hid fun w' T' P' => csin_good w' ko qo N _ _ _ hN (by rw [ho.tv, o.2, x2.1]) (by rw [ho.tv, o.2, x2.2]) (bd ho) ho2 (by omega) (by omega) T' P')
      (Lib.hid fun w' T' P' => ccos_good w' kh qh N _ _ _ hN (by rw [hh.tv, h.1, x1.1]) (by rw [hh.tv, h.1, x1.2]) (bd hh) hh2 (by omega) (by omega) T' P')
      (Lib.hid fun w' T' P' => csin_good w' kh qh N _ _ _ hN (by rw [hh.tv, h.2, x2.1]) (by rw [hh.tv, h.2, x2.2]) (bd hh) hh2 (by omega) (by omega) T' P')
      (Lib.hid fun w' T' P' => ccos_good w' kq qq N _ _ _ hN (by rw [hq.tv, q.1, x2.1]) (by rw [hq.tv, q.1, x2.2]) (bd hq) hq2 (by omega) (by omega) T' P')
      (Lib.hid fun w' T' P' => csin_good w' kq qq N _ _ _ hN (by rw [hq.tv, q.2]) (by rw [hq.tv, q.2]) (bd hq) hq2 (by omega) (by omega) T' P')
      (Lib.hid fun w' => rflip2_any w' K ko Q qo (by omega) (by omega) ho)
      (Lib.hid fun w' => radd2_any w' K 1 kf 1 kh Q 1 qf 1 qh bK (by omega) (by omega) (by omega) hf (tv_halfturn ▸ fm_lit2) (by rw [tv_halfturn]; exact hh))
      (Lib.hid fun w' => radd2_any w' K 1 kf 1 kq Q 2 qf 2 qq bK (by omega) (by omega) (by omega) hf (tv_quarterturn ▸ fm_lit4) (by rw [tv_quarterturn]; exact hq))
end Go.Proofs.YtomdbmjfehoodaaGreatDoor
