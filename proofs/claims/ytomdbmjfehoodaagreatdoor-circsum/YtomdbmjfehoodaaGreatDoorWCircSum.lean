/- The walk of CircSum. -/
import Derived.Test.YtomdbmjfehoodaaGreatDoorLH
import Derived.Test.YtomdbmjfehoodaaGreatDoorLS
set_option maxRecDepth 8000
namespace Go.Proofs.YtomdbmjfehoodaaGreatDoor
open Go.RowKit
set_option linter.unusedVariables false
set_option linter.unusedSimpArgs false
theorem sum_math (n : Nat) (v u : Int) : ((tlo n (cv ((v + u) % 1099511627776)).1 ≤ mhi (tlo n (cv v).1) (thi n (cv v).1) (tlo n (cv u).1) (thi n (cv u).1) + -mlo (tlo n (cv v).2) (thi n (cv v).2) (tlo n (cv u).2) (thi n (cv u).2)) ∧ mlo (tlo n (cv v).1) (thi n (cv v).1) (tlo n (cv u).1) (thi n (cv u).1) + -mhi (tlo n (cv v).2) (thi n (cv v).2) (tlo n (cv u).2) (thi n (cv u).2) ≤ thi n (cv ((v + u) % 1099511627776)).1) ∧
    (tlo n (cv ((v + u) % 1099511627776)).2 ≤ mhi (tlo n (cv v).2) (thi n (cv v).2) (tlo n (cv u).1) (thi n (cv u).1) + mhi (tlo n (cv v).1) (thi n (cv v).1) (tlo n (cv u).2) (thi n (cv u).2)) ∧ mlo (tlo n (cv v).2) (thi n (cv v).2) (tlo n (cv u).1) (thi n (cv u).1) + mlo (tlo n (cv v).1) (thi n (cv v).1) (tlo n (cv u).2) (thi n (cv u).2) ≤ thi n (cv ((v + u) % 1099511627776)).2 := by
  have e : cv ((v + u) % 1099511627776) = cm (cv v) (cv u) := by rw [← cv_add]; exact cv_mod (by omega)
  obtain ⟨a1, a2⟩ := cv_range v
  obtain ⟨b1, b2⟩ := cv_range u
  obtain ⟨t1, t2⟩ := cv_range ((v + u) % 1099511627776)
  have c := (tgt_at n a1.1 a1.2).en
  have s := (tgt_at n a2.1 a2.2).en
  have d := (tgt_at n b1.1 b1.2).en
  have f := (tgt_at n b2.1 b2.2).en
  have x := (tgt_at n t1.1 t1.2).en
  have y := (tgt_at n t2.1 t2.2).en
  have p := (c.mul d).add (s.mul f).neg
  have q := (s.mul d).add (c.mul f)
  rw [e] at x y ⊢
  have ex : (cm (cv v) (cv u)).1 = (cv v).1 * (cv u).1 + -((cv v).2 * (cv u).2) := by unfold cm; simp; grind
  have ey : (cm (cv v) (cv u)).2 = (cv v).2 * (cv u).1 + (cv v).1 * (cv u).2 := by unfold cm; simp; grind
  rw [← ex] at p
  rw [← ey] at q
  exact ⟨⟨RR.of_le.1 (Std.le_trans x.l p.h), RR.of_le.1 (Std.le_trans p.l x.h)⟩, RR.of_le.1 (Std.le_trans y.l q.h), RR.of_le.1 (Std.le_trans q.l y.h)⟩
set_option maxRecDepth 100000 in
set_option maxHeartbeats 4000000 in
theorem sum_no (w : World) (T0 : Tu w) (K Q K2 Q2 n : Int) (bK : -9223372036854775808 ≤ K ∧ K ≤ 9223372036854775807) (bQ : -9223372036854775808 ≤ Q ∧ Q ≤ 9223372036854775807) (bK2 : -9223372036854775808 ≤ K2 ∧ K2 ≤ 9223372036854775807) (bQ2 : -9223372036854775808 ≤ Q2 ∧ Q2 ≤ 9223372036854775807) (hn : 0 ≤ n ∧ n ≤ 255) (hr : (goodT K Q && goodT K2 Q2) = false) :
    Calls Tryz.prog 7 #[.agg #[.int .i64 K, .int .i64 Q], .agg #[.int .i64 K2, .int .i64 Q2], .int .u8 n] w (RetE w (.bool true)) := by
  have T := T0.tb
  have P := T0.pl
  clear T0
  go_enter Tryz.func7, Tryz.ntmps7
  go_wp2_with fail
  refine (headC_any _ (T.ext (((Ext.refl w).alloc _).alloc _)) (P.ext (((Ext.refl w).alloc _).alloc _))).mono ?_
  rintro _ w1 ⟨rfl, f1⟩
  have Bt0 : B2 w1 (w.heap.size) (.int .i64 K) (.int .i64 Q) := B2.at (((Ext.refl _).alloc _).trans f1) (by simp)
  have Bt1 : B2 w1 (w.heap.size + 1) (.int .i64 K2) (.int .i64 Q2) := B2.at ((Ext.refl _).trans f1) (by simp)
  have e1 : Ext w w1 := (((Ext.refl w).alloc _).alloc _).trans f1
  replace T := T.ext e1
  replace P := P.ext e1
  have E1 : Ext w w1 := e1
  clear f1
  obtain ⟨Bt0_0, Bt0_1⟩ := _root_.id Bt0
  have Bt0_l := World.block_lt_of_cell? _ _ Bt0_0
  obtain ⟨Bt1_0, Bt1_1⟩ := _root_.id Bt1
  have Bt1_l := World.block_lt_of_cell? _ _ Bt1_0
  go_wp2_with fail
  refine (good2_any _ w1.heap.size K Q K2 Q2 false hr bK bQ bK2 bQ2 (B4.fresh rfl)).mono ?_
  rintro _ w2 ⟨rfl, f2⟩
  clear Bt0_0 Bt0_1 Bt0_l Bt1_0 Bt1_1 Bt1_l
  have e2 : Ext w1 w2 := ((Ext.refl w1).alloc _).trans f2
  replace T := T.ext e2
  replace P := P.ext e2
  replace Bt0 := Bt0.ext e2
  replace Bt1 := Bt1.ext e2
  have E2 : Ext w w2 := E1.trans e2
  clear e2 f2 E1
  go_wp2
  go_ret
  exact ⟨rfl, E2⟩
set_option maxRecDepth 100000 in
set_option maxHeartbeats 4000000 in
theorem sum_yes (w : World) (T0 : Tu w) (K K2 n j kt : Int) (Q Q2 qt N : Nat) (c1 c2 s1 s2 d1 d2 g1 g2 t1 t2 y1 y2 : Dyadic) (bK : -9223372036854775808 ≤ K ∧ K ≤ 9223372036854775807) (bK2 : -9223372036854775808 ≤ K2 ∧ K2 ≤ 9223372036854775807) (q14 : Q ≤ 14) (q214 : Q2 ≤ 14) (hr : (goodT K (Q : Int) && goodT K2 (Q2 : Int)) = true) (hn : 0 ≤ n ∧ n ≤ 255) (hj : n % 70 + 1 = j) (N2 : N ≤ 70)
    (HC : Hid (∀ w', Tb w' → Pl w' → Calls Tryz.prog 14 #[.agg #[.int .i64 K, .int .i64 (Q : Int)], .int .i64 j] w' (RetI w' c1 c2)))
    (HS : Hid (∀ w', Tb w' → Pl w' → Calls Tryz.prog 16 #[.agg #[.int .i64 K, .int .i64 (Q : Int)], .int .i64 j] w' (RetI w' s1 s2)))
    (HD : Hid (∀ w', Tb w' → Pl w' → Calls Tryz.prog 14 #[.agg #[.int .i64 K2, .int .i64 (Q2 : Int)], .int .i64 j] w' (RetI w' d1 d2)))
    (HF : Hid (∀ w', Tb w' → Pl w' → Calls Tryz.prog 16 #[.agg #[.int .i64 K2, .int .i64 (Q2 : Int)], .int .i64 j] w' (RetI w' g1 g2)))
    (HCt : Hid (∀ w', Tb w' → Pl w' → Calls Tryz.prog 14 #[.agg #[.int .i64 kt, .int .i64 (qt : Int)], .int .i64 j] w' (RetI w' t1 t2)))
    (HSt : Hid (∀ w', Tb w' → Pl w' → Calls Tryz.prog 16 #[.agg #[.int .i64 kt, .int .i64 (qt : Int)], .int .i64 j] w' (RetI w' y1 y2)))
    (HTt : Hid (∀ w', Calls Tryz.prog 33 #[.agg #[.int .i64 K, .int .i64 (Q : Int)], .agg #[.int .i64 K2, .int .i64 (Q2 : Int)]] w' (RetE w' (.agg #[.int .i64 kt, .int .i64 (qt : Int)]))))
    (rc1 : Rg N 1 c1) (rc2 : Rg N 1 c2) (oc : c1 ≤ c2) (rs1 : Rg N 1 s1) (rs2 : Rg N 1 s2) (os : s1 ≤ s2) (rd1 : Rg N 1 d1) (rd2 : Rg N 1 d2) (od : d1 ≤ d2) (rg1 : Rg N 1 g1) (rg2 : Rg N 1 g2) (og : g1 ≤ g2) (rt1 : Rg N 1 t1) (rt2 : Rg N 1 t2) (ry1 : Rg N 1 y1) (ry2 : Rg N 1 y2)
    (m1 : t1 ≤ mhi c1 c2 d1 d2 + -mlo s1 s2 g1 g2) (m2 : mlo c1 c2 d1 d2 + -mhi s1 s2 g1 g2 ≤ t2) (m3 : y1 ≤ mhi s1 s2 d1 d2 + mhi c1 c2 g1 g2) (m4 : mlo s1 s2 d1 d2 + mlo c1 c2 g1 g2 ≤ y2) :
    Calls Tryz.prog 7 #[.agg #[.int .i64 K, .int .i64 (Q : Int)], .agg #[.int .i64 K2, .int .i64 (Q2 : Int)], .int .u8 n] w (RetE w (.bool true)) := by
  have bQ : -9223372036854775808 ≤ (Q : Int) ∧ (Q : Int) ≤ 9223372036854775807 := by omega
  have bQ2 : -9223372036854775808 ≤ (Q2 : Int) ∧ (Q2 : Int) ≤ 9223372036854775807 := by omega
  have HM := Lib.hid (And.intro (And.intro (rg_mul4 rc1 rc2 rd1 rd2) (rg_mul4 rs1 rs2 rg1 rg2)) (And.intro (rg_mul4 rs1 rs2 rd1 rd2) (rg_mul4 rc1 rc2 rg1 rg2)))
  have T := T0.tb
  have P := T0.pl
  clear T0
  go_enter Tryz.func7, Tryz.ntmps7
  go_wp2_with fail
  refine (headC_any _ (T.ext (((Ext.refl w).alloc _).alloc _)) (P.ext (((Ext.refl w).alloc _).alloc _))).mono ?_
  rintro _ w1 ⟨rfl, f1⟩
  have Bt0 : B2 w1 (w.heap.size) (.int .i64 K) (.int .i64 (Q : Int)) := B2.at (((Ext.refl _).alloc _).trans f1) (by simp)
  have Bt1 : B2 w1 (w.heap.size + 1) (.int .i64 K2) (.int .i64 (Q2 : Int)) := B2.at ((Ext.refl _).trans f1) (by simp)
  have e1 : Ext w w1 := (((Ext.refl w).alloc _).alloc _).trans f1
  replace T := T.ext e1
  replace P := P.ext e1
  have E1 : Ext w w1 := e1
  clear f1
  obtain ⟨Bt0_0, Bt0_1⟩ := _root_.id Bt0
  have Bt0_l := World.block_lt_of_cell? _ _ Bt0_0
  obtain ⟨Bt1_0, Bt1_1⟩ := _root_.id Bt1
  have Bt1_l := World.block_lt_of_cell? _ _ Bt1_0
  go_wp2_with fail
  refine (good2_any _ w1.heap.size K (Q : Int) K2 (Q2 : Int) true hr bK bQ bK2 bQ2 (B4.fresh rfl)).mono ?_
  rintro _ w2 ⟨rfl, f2⟩
  clear Bt0_0 Bt0_1 Bt0_l Bt1_0 Bt1_1 Bt1_l
  have e2 : Ext w1 w2 := ((Ext.refl w1).alloc _).trans f2
  replace T := T.ext e2
  replace P := P.ext e2
  replace Bt0 := Bt0.ext e2
  replace Bt1 := Bt1.ext e2
  have E2 : Ext w w2 := E1.trans e2
  clear e2 f2 E1
  go_wp2_with fail
  refine (bits_any _ n j hn hj).mono ?_
  rintro _ w3 ⟨rfl, f3⟩
  have e3 : Ext w2 w3 := (Ext.refl w2).trans f3
  replace T := T.ext e3
  replace P := P.ext e3
  replace Bt0 := Bt0.ext e3
  replace Bt1 := Bt1.ext e3
  have E3 : Ext w w3 := E2.trans e3
  clear e3 f3 E2
  clear hj hn hr bK bQ bK2 bQ2 q14 q214
  obtain ⟨Bt0_0, Bt0_1⟩ := _root_.id Bt0
  have Bt0_l := World.block_lt_of_cell? _ _ Bt0_0
  go_wp2_with fail
  refine (HC.out _ T P).mono ?_
  rintro _ w4 ⟨v4, rfl, ic, f4⟩
  clear Bt0_0 Bt0_1 Bt0_l
  have e4 : Ext w3 w4 := (Ext.refl w3).trans f4
  replace T := T.ext e4
  replace P := P.ext e4
  replace Bt0 := Bt0.ext e4
  replace Bt1 := Bt1.ext e4
  have E4 : Ext w w4 := E3.trans e4
  clear e4 f4 E3
  obtain ⟨bic, Aic, lic, cic, jic, bic', Aic', lic', cic', jic', rfl, ic_l, ic_h⟩ := ic
  have ic := In.mk ic_l ic_h
  clear ic_l ic_h
  obtain ⟨Bt0_0, Bt0_1⟩ := _root_.id Bt0
  have Bt0_l := World.block_lt_of_cell? _ _ Bt0_0
  go_wp2_with fail
  refine (HS.out _ (T.ext ((Ext.refl w4).alloc _)) (P.ext ((Ext.refl w4).alloc _))).mono ?_
  rintro _ w5 ⟨v5, rfl, is, f5⟩
  clear Bt0_0 Bt0_1 Bt0_l
  have Vc : Bx w5 (w4.heap.size) (.bool bic) (.slice Aic lic cic) (.int .i64 jic) (.bool bic') (.slice Aic' lic' cic') (.int .i64 jic') := Bx.at ((Ext.refl _).trans f5) (by simp)
  have e5 : Ext w4 w5 := ((Ext.refl w4).alloc _).trans f5
  replace T := T.ext e5
  replace P := P.ext e5
  replace ic := ic.ext e5
  replace Bt0 := Bt0.ext e5
  replace Bt1 := Bt1.ext e5
  have E5 : Ext w w5 := E4.trans e5
  clear e5 f5 E4
  obtain ⟨bis, Ais, lis, cis, jis, bis', Ais', lis', cis', jis', rfl, is_l, is_h⟩ := is
  have is := In.mk is_l is_h
  clear is_l is_h
  obtain ⟨Bt1_0, Bt1_1⟩ := _root_.id Bt1
  have Bt1_l := World.block_lt_of_cell? _ _ Bt1_0
  go_wp2_with fail
  refine (HD.out _ (T.ext ((Ext.refl w5).alloc _)) (P.ext ((Ext.refl w5).alloc _))).mono ?_
  rintro _ w6 ⟨v6, rfl, id, f6⟩
  clear Bt1_0 Bt1_1 Bt1_l
  have Vs : Bx w6 (w5.heap.size) (.bool bis) (.slice Ais lis cis) (.int .i64 jis) (.bool bis') (.slice Ais' lis' cis') (.int .i64 jis') := Bx.at ((Ext.refl _).trans f6) (by simp)
  have e6 : Ext w5 w6 := ((Ext.refl w5).alloc _).trans f6
  replace T := T.ext e6
  replace P := P.ext e6
  replace ic := ic.ext e6
  replace is := is.ext e6
  replace Bt0 := Bt0.ext e6
  replace Bt1 := Bt1.ext e6
  replace Vc := Vc.ext e6
  have E6 : Ext w w6 := E5.trans e6
  clear e6 f6 E5
  obtain ⟨bid, Aid, lid, cid, jid, bid', Aid', lid', cid', jid', rfl, id_l, id_h⟩ := id
  have id := In.mk id_l id_h
  clear id_l id_h
  obtain ⟨Bt1_0, Bt1_1⟩ := _root_.id Bt1
  have Bt1_l := World.block_lt_of_cell? _ _ Bt1_0
  go_wp2_with fail
  refine (HF.out _ (T.ext ((Ext.refl w6).alloc _)) (P.ext ((Ext.refl w6).alloc _))).mono ?_
  rintro _ w7 ⟨v7, rfl, ig, f7⟩
  clear Bt1_0 Bt1_1 Bt1_l
  have Vd : Bx w7 (w6.heap.size) (.bool bid) (.slice Aid lid cid) (.int .i64 jid) (.bool bid') (.slice Aid' lid' cid') (.int .i64 jid') := Bx.at ((Ext.refl _).trans f7) (by simp)
  have e7 : Ext w6 w7 := ((Ext.refl w6).alloc _).trans f7
  replace T := T.ext e7
  replace P := P.ext e7
  replace ic := ic.ext e7
  replace is := is.ext e7
  replace id := id.ext e7
  replace Bt0 := Bt0.ext e7
  replace Bt1 := Bt1.ext e7
  replace Vc := Vc.ext e7
  replace Vs := Vs.ext e7
  have E7 : Ext w w7 := E6.trans e7
  clear e7 f7 E6
  obtain ⟨big, Aig, lig, cig, jig, big', Aig', lig', cig', jig', rfl, ig_l, ig_h⟩ := ig
  have ig := In.mk ig_l ig_h
  clear ig_l ig_h
  clear HC HS HD HF
  obtain ⟨Vc_0, Vc_1, Vc_2, Vc_3, Vc_4, Vc_5⟩ := _root_.id Vc
  have Vc_l := World.block_lt_of_cell? _ _ Vc_0
  obtain ⟨Vs_0, Vs_1, Vs_2, Vs_3, Vs_4, Vs_5⟩ := _root_.id Vs
  have Vs_l := World.block_lt_of_cell? _ _ Vs_0
  obtain ⟨Vd_0, Vd_1, Vd_2, Vd_3, Vd_4, Vd_5⟩ := _root_.id Vd
  have Vd_l := World.block_lt_of_cell? _ _ Vd_0
  go_upto_region 9 with fail
  have Vg : Bx (w7.alloc (.cells #[.bool big, .slice Aig lig cig, .int .i64 jig, .bool big', .slice Aig' lig' cig', .int .i64 jig'] 33)) w7.heap.size (.bool big) (.slice Aig lig cig) (.int .i64 jig) (.bool big') (.slice Aig' lig' cig') (.int .i64 jig') := Bx.at (Ext.refl _) rfl
  have eW8 : Ext w7 (w7.alloc (.cells #[.bool big, .slice Aig lig cig, .int .i64 jig, .bool big', .slice Aig' lig' cig', .int .i64 jig'] 33)) := (Ext.refl _).alloc _
  replace T := T.ext eW8
  replace P := P.ext eW8
  replace ic := ic.ext eW8
  replace is := is.ext eW8
  replace id := id.ext eW8
  replace ig := ig.ext eW8
  replace Bt0 := Bt0.ext eW8
  replace Bt1 := Bt1.ext eW8
  replace Vc := Vc.ext eW8
  replace Vs := Vs.ext eW8
  replace Vd := Vd.ext eW8
  have EW8 := E7.trans eW8
  clear Vc_0 Vc_1 Vc_2 Vc_3 Vc_4 Vc_5 Vc_l Vs_0 Vs_1 Vs_2 Vs_3 Vs_4 Vs_5 Vs_l Vd_0 Vd_1 Vd_2 Vd_3 Vd_4 Vd_5 Vd_l
  clear eW8 E7
  generalize hgen : (w7.alloc (.cells #[.bool big, .slice Aig lig cig, .int .i64 jig, .bool big', .slice Aig' lig' cig', .int .i64 jig'] 33)) = W8 at *
  clear hgen
  obtain ⟨Vc_0, Vc_1, Vc_2, Vc_3, Vc_4, Vc_5⟩ := _root_.id Vc
  have Vc_l := World.block_lt_of_cell? _ _ Vc_0
  obtain ⟨Vs_0, Vs_1, Vs_2, Vs_3, Vs_4, Vs_5⟩ := _root_.id Vs
  have Vs_l := World.block_lt_of_cell? _ _ Vs_0
  obtain ⟨Vd_0, Vd_1, Vd_2, Vd_3, Vd_4, Vd_5⟩ := _root_.id Vd
  have Vd_l := World.block_lt_of_cell? _ _ Vd_0
  obtain ⟨Vg_0, Vg_1, Vg_2, Vg_3, Vg_4, Vg_5⟩ := _root_.id Vg
  have Vg_l := World.block_lt_of_cell? _ _ Vg_0
  go_upto_region 10 with fail
  have e9 : Ext W8 (W8.alloc (.cells #[.bool bic, .slice Aic lic cic, .int .i64 jic, .bool bic', .slice Aic' lic' cic', .int .i64 jic', .bool bis, .slice Ais lis cis, .int .i64 jis, .bool bis', .slice Ais' lis' cis', .int .i64 jis', .bool bid, .slice Aid lid cid, .int .i64 jid, .bool bid', .slice Aid' lid' cid', .int .i64 jid', .bool big, .slice Aig lig cig, .int .i64 jig, .bool big', .slice Aig' lig' cig', .int .i64 jig'] 33)) := (Ext.refl _).alloc _
  have Xc : Six (W8.alloc (.cells #[.bool bic, .slice Aic lic cic, .int .i64 jic, .bool bic', .slice Aic' lic' cic', .int .i64 jic', .bool bis, .slice Ais lis cis, .int .i64 jis, .bool bis', .slice Ais' lis' cis', .int .i64 jis', .bool bid, .slice Aid lid cid, .int .i64 jid, .bool bid', .slice Aid' lid' cid', .int .i64 jid', .bool big, .slice Aig lig cig, .int .i64 jig, .bool big', .slice Aig' lig' cig', .int .i64 jig'] 33)) W8.heap.size 0 (.bool bic) (.slice Aic lic cic) (.int .i64 jic) (.bool bic') (.slice Aic' lic' cic') (.int .i64 jic') := ⟨by rw [World.cell?_alloc_new]; rfl, by rw [World.cell?_alloc_new]; rfl, by rw [World.cell?_alloc_new]; rfl, by rw [World.cell?_alloc_new]; rfl, by rw [World.cell?_alloc_new]; rfl, by rw [World.cell?_alloc_new]; rfl⟩
  have Xs : Six (W8.alloc (.cells #[.bool bic, .slice Aic lic cic, .int .i64 jic, .bool bic', .slice Aic' lic' cic', .int .i64 jic', .bool bis, .slice Ais lis cis, .int .i64 jis, .bool bis', .slice Ais' lis' cis', .int .i64 jis', .bool bid, .slice Aid lid cid, .int .i64 jid, .bool bid', .slice Aid' lid' cid', .int .i64 jid', .bool big, .slice Aig lig cig, .int .i64 jig, .bool big', .slice Aig' lig' cig', .int .i64 jig'] 33)) W8.heap.size 6 (.bool bis) (.slice Ais lis cis) (.int .i64 jis) (.bool bis') (.slice Ais' lis' cis') (.int .i64 jis') := ⟨by rw [World.cell?_alloc_new]; rfl, by rw [World.cell?_alloc_new]; rfl, by rw [World.cell?_alloc_new]; rfl, by rw [World.cell?_alloc_new]; rfl, by rw [World.cell?_alloc_new]; rfl, by rw [World.cell?_alloc_new]; rfl⟩
  have Xd : Six (W8.alloc (.cells #[.bool bic, .slice Aic lic cic, .int .i64 jic, .bool bic', .slice Aic' lic' cic', .int .i64 jic', .bool bis, .slice Ais lis cis, .int .i64 jis, .bool bis', .slice Ais' lis' cis', .int .i64 jis', .bool bid, .slice Aid lid cid, .int .i64 jid, .bool bid', .slice Aid' lid' cid', .int .i64 jid', .bool big, .slice Aig lig cig, .int .i64 jig, .bool big', .slice Aig' lig' cig', .int .i64 jig'] 33)) W8.heap.size 12 (.bool bid) (.slice Aid lid cid) (.int .i64 jid) (.bool bid') (.slice Aid' lid' cid') (.int .i64 jid') := ⟨by rw [World.cell?_alloc_new]; rfl, by rw [World.cell?_alloc_new]; rfl, by rw [World.cell?_alloc_new]; rfl, by rw [World.cell?_alloc_new]; rfl, by rw [World.cell?_alloc_new]; rfl, by rw [World.cell?_alloc_new]; rfl⟩
  have Xg : Six (W8.alloc (.cells #[.bool bic, .slice Aic lic cic, .int .i64 jic, .bool bic', .slice Aic' lic' cic', .int .i64 jic', .bool bis, .slice Ais lis cis, .int .i64 jis, .bool bis', .slice Ais' lis' cis', .int .i64 jis', .bool bid, .slice Aid lid cid, .int .i64 jid, .bool bid', .slice Aid' lid' cid', .int .i64 jid', .bool big, .slice Aig lig cig, .int .i64 jig, .bool big', .slice Aig' lig' cig', .int .i64 jig'] 33)) W8.heap.size 18 (.bool big) (.slice Aig lig cig) (.int .i64 jig) (.bool big') (.slice Aig' lig' cig') (.int .i64 jig') := ⟨by rw [World.cell?_alloc_new]; rfl, by rw [World.cell?_alloc_new]; rfl, by rw [World.cell?_alloc_new]; rfl, by rw [World.cell?_alloc_new]; rfl, by rw [World.cell?_alloc_new]; rfl, by rw [World.cell?_alloc_new]; rfl⟩
  replace T := T.ext e9
  replace P := P.ext e9
  replace ic := ic.ext e9
  replace is := is.ext e9
  replace id := id.ext e9
  replace ig := ig.ext e9
  replace Bt0 := Bt0.ext e9
  replace Bt1 := Bt1.ext e9
  replace Vc := Vc.ext e9
  replace Vs := Vs.ext e9
  replace Vd := Vd.ext e9
  replace Vg := Vg.ext e9
  have E9 := EW8.trans e9
  clear Vc_0 Vc_1 Vc_2 Vc_3 Vc_4 Vc_5 Vc_l Vs_0 Vs_1 Vs_2 Vs_3 Vs_4 Vs_5 Vs_l Vd_0 Vd_1 Vd_2 Vd_3 Vd_4 Vd_5 Vd_l Vg_0 Vg_1 Vg_2 Vg_3 Vg_4 Vg_5 Vg_l
  clear e9 EW8
  generalize hgen : (W8.alloc (.cells #[.bool bic, .slice Aic lic cic, .int .i64 jic, .bool bic', .slice Aic' lic' cic', .int .i64 jic', .bool bis, .slice Ais lis cis, .int .i64 jis, .bool bis', .slice Ais' lis' cis', .int .i64 jis', .bool bid, .slice Aid lid cid, .int .i64 jid, .bool bid', .slice Aid' lid' cid', .int .i64 jid', .bool big, .slice Aig lig cig, .int .i64 jig, .bool big', .slice Aig' lig' cig', .int .i64 jig'] 33)) = W9 at *
  clear hgen
  generalize hgl : W8.heap.size = gl at *
  clear hgl
  have kc1 : ¬ (9 : Int) < (lic : Int) := by have := dn_limbs ic.lo rc1 (by omega); omega
  have kc2 : ¬ (9 : Int) < (lic' : Int) := by have := dn_limbs ic.hi rc2 (by omega); omega
  have ks1 : ¬ (9 : Int) < (lis : Int) := by have := dn_limbs is.lo rs1 (by omega); omega
  have ks2 : ¬ (9 : Int) < (lis' : Int) := by have := dn_limbs is.hi rs2 (by omega); omega
  have kd1 : ¬ (9 : Int) < (lid : Int) := by have := dn_limbs id.lo rd1 (by omega); omega
  have kd2 : ¬ (9 : Int) < (lid' : Int) := by have := dn_limbs id.hi rd2 (by omega); omega
  have kg1 : ¬ (9 : Int) < (lig : Int) := by have := dn_limbs ig.lo rg1 (by omega); omega
  have kg2 : ¬ (9 : Int) < (lig' : Int) := by have := dn_limbs ig.hi rg2 (by omega); omega
  go_wp2
  refine wp_loop_rounds 5 ?_
  rw [rounds_succ]
  obtain ⟨x0, x1, x2, x3, x4, x5⟩ := _root_.id Xc
  have xl := World.block_lt_of_cell? _ _ x0
  go_wp2_with fail
  refine (riright_lit _ _ c1 c2 N 1 true (decide_eq_true oc) ic rc1 rc2 (by omega)).mono ?_
  rintro _ w8 ⟨rfl, f8⟩
  clear x0 x1 x2 x3 x4 x5 xl
  have e8 : Ext W9 w8 := (Ext.refl W9).trans f8
  replace T := T.ext e8
  replace P := P.ext e8
  replace ic := ic.ext e8
  replace is := is.ext e8
  replace id := id.ext e8
  replace ig := ig.ext e8
  replace Xc := Xc.ext e8
  replace Xs := Xs.ext e8
  replace Xd := Xd.ext e8
  replace Xg := Xg.ext e8
  replace Bt0 := Bt0.ext e8
  replace Bt1 := Bt1.ext e8
  replace Vc := Vc.ext e8
  replace Vs := Vs.ext e8
  replace Vd := Vd.ext e8
  replace Vg := Vg.ext e8
  have E8 : Ext w w8 := E9.trans e8
  clear e8 f8 E9
  obtain ⟨x0, x1, x2, x3, x4, x5⟩ := _root_.id Xc
  have xl := World.block_lt_of_cell? _ _ x0
  go_wp2
  clear x0 x1 x2 x3 x4 x5 xl
  rw [rounds_succ]
  obtain ⟨x0, x1, x2, x3, x4, x5⟩ := _root_.id Xs
  have xl := World.block_lt_of_cell? _ _ x0
  go_wp2_with fail
  refine (riright_lit _ _ s1 s2 N 1 true (decide_eq_true os) is rs1 rs2 (by omega)).mono ?_
  rintro _ w9 ⟨rfl, f9⟩
  clear x0 x1 x2 x3 x4 x5 xl
  have e9 : Ext w8 w9 := (Ext.refl w8).trans f9
  replace T := T.ext e9
  replace P := P.ext e9
  replace ic := ic.ext e9
  replace is := is.ext e9
  replace id := id.ext e9
  replace ig := ig.ext e9
  replace Xc := Xc.ext e9
  replace Xs := Xs.ext e9
  replace Xd := Xd.ext e9
  replace Xg := Xg.ext e9
  replace Bt0 := Bt0.ext e9
  replace Bt1 := Bt1.ext e9
  replace Vc := Vc.ext e9
  replace Vs := Vs.ext e9
  replace Vd := Vd.ext e9
  replace Vg := Vg.ext e9
  have E9 : Ext w w9 := E8.trans e9
  clear e9 f9 E8
  obtain ⟨x0, x1, x2, x3, x4, x5⟩ := _root_.id Xs
  have xl := World.block_lt_of_cell? _ _ x0
  go_wp2
  clear x0 x1 x2 x3 x4 x5 xl
  rw [rounds_succ]
  obtain ⟨x0, x1, x2, x3, x4, x5⟩ := _root_.id Xd
  have xl := World.block_lt_of_cell? _ _ x0
  go_wp2_with fail
  refine (riright_lit _ _ d1 d2 N 1 true (decide_eq_true od) id rd1 rd2 (by omega)).mono ?_
  rintro _ w10 ⟨rfl, f10⟩
  clear x0 x1 x2 x3 x4 x5 xl
  have e10 : Ext w9 w10 := (Ext.refl w9).trans f10
  replace T := T.ext e10
  replace P := P.ext e10
  replace ic := ic.ext e10
  replace is := is.ext e10
  replace id := id.ext e10
  replace ig := ig.ext e10
  replace Xc := Xc.ext e10
  replace Xs := Xs.ext e10
  replace Xd := Xd.ext e10
  replace Xg := Xg.ext e10
  replace Bt0 := Bt0.ext e10
  replace Bt1 := Bt1.ext e10
  replace Vc := Vc.ext e10
  replace Vs := Vs.ext e10
  replace Vd := Vd.ext e10
  replace Vg := Vg.ext e10
  have E10 : Ext w w10 := E9.trans e10
  clear e10 f10 E9
  obtain ⟨x0, x1, x2, x3, x4, x5⟩ := _root_.id Xd
  have xl := World.block_lt_of_cell? _ _ x0
  go_wp2
  clear x0 x1 x2 x3 x4 x5 xl
  rw [rounds_succ]
  obtain ⟨x0, x1, x2, x3, x4, x5⟩ := _root_.id Xg
  have xl := World.block_lt_of_cell? _ _ x0
  go_wp2_with fail
  refine (riright_lit _ _ g1 g2 N 1 true (decide_eq_true og) ig rg1 rg2 (by omega)).mono ?_
  rintro _ w11 ⟨rfl, f11⟩
  clear x0 x1 x2 x3 x4 x5 xl
  have e11 : Ext w10 w11 := (Ext.refl w10).trans f11
  replace T := T.ext e11
  replace P := P.ext e11
  replace ic := ic.ext e11
  replace is := is.ext e11
  replace id := id.ext e11
  replace ig := ig.ext e11
  replace Xc := Xc.ext e11
  replace Xs := Xs.ext e11
  replace Xd := Xd.ext e11
  replace Xg := Xg.ext e11
  replace Bt0 := Bt0.ext e11
  replace Bt1 := Bt1.ext e11
  replace Vc := Vc.ext e11
  replace Vs := Vs.ext e11
  replace Vd := Vd.ext e11
  replace Vg := Vg.ext e11
  have E11 : Ext w w11 := E10.trans e11
  clear e11 f11 E10
  obtain ⟨x0, x1, x2, x3, x4, x5⟩ := _root_.id Xg
  have xl := World.block_lt_of_cell? _ _ x0
  go_wp2
  clear x0 x1 x2 x3 x4 x5 xl
  rw [rounds_succ]
  obtain ⟨Bt0_0, Bt0_1⟩ := _root_.id Bt0
  have Bt0_l := World.block_lt_of_cell? _ _ Bt0_0
  obtain ⟨Bt1_0, Bt1_1⟩ := _root_.id Bt1
  have Bt1_l := World.block_lt_of_cell? _ _ Bt1_0
  go_wp2_with fail
  refine (HTt.out _).mono ?_
  rintro _ w12 ⟨rfl, f12⟩
  clear Bt0_0 Bt0_1 Bt0_l Bt1_0 Bt1_1 Bt1_l
  have e12 : Ext w11 w12 := (Ext.refl w11).trans f12
  replace T := T.ext e12
  replace P := P.ext e12
  replace ic := ic.ext e12
  replace is := is.ext e12
  replace id := id.ext e12
  replace ig := ig.ext e12
  replace Bt0 := Bt0.ext e12
  replace Bt1 := Bt1.ext e12
  replace Vc := Vc.ext e12
  replace Vs := Vs.ext e12
  replace Vd := Vd.ext e12
  replace Vg := Vg.ext e12
  have E12 : Ext w w12 := E11.trans e12
  clear e12 f12 E11
  clear Xc Xs Xd Xg HTt kc1 kc2 ks1 ks2 kd1 kd2 kg1 kg2
  go_upto_region 16 with fail
  try simp only [List.append_eq, List.cons_append, List.nil_append]
  have Bs : B2 (w12.alloc (.cells #[.int .i64 kt, .int .i64 (qt : Int)] 23)) w12.heap.size (.int .i64 kt) (.int .i64 (qt : Int)) := B2.at (Ext.refl _) rfl
  have eWA : Ext w12 (w12.alloc (.cells #[.int .i64 kt, .int .i64 (qt : Int)] 23)) := (Ext.refl _).alloc _
  replace T := T.ext eWA
  replace P := P.ext eWA
  replace ic := ic.ext eWA
  replace is := is.ext eWA
  replace id := id.ext eWA
  replace ig := ig.ext eWA
  replace Bt0 := Bt0.ext eWA
  replace Bt1 := Bt1.ext eWA
  replace Vc := Vc.ext eWA
  replace Vs := Vs.ext eWA
  replace Vd := Vd.ext eWA
  replace Vg := Vg.ext eWA
  have EWA := E12.trans eWA
  clear eWA E12
  generalize hgen : (w12.alloc (.cells #[.int .i64 kt, .int .i64 (qt : Int)] 23)) = WA at *
  clear hgen
  obtain ⟨Bs_0, Bs_1⟩ := _root_.id Bs
  have Bs_l := World.block_lt_of_cell? _ _ Bs_0
  obtain ⟨Vc_0, Vc_1, Vc_2, Vc_3, Vc_4, Vc_5⟩ := _root_.id Vc
  have Vc_l := World.block_lt_of_cell? _ _ Vc_0
  obtain ⟨Vs_0, Vs_1, Vs_2, Vs_3, Vs_4, Vs_5⟩ := _root_.id Vs
  have Vs_l := World.block_lt_of_cell? _ _ Vs_0
  obtain ⟨Vd_0, Vd_1, Vd_2, Vd_3, Vd_4, Vd_5⟩ := _root_.id Vd
  have Vd_l := World.block_lt_of_cell? _ _ Vd_0
  obtain ⟨Vg_0, Vg_1, Vg_2, Vg_3, Vg_4, Vg_5⟩ := _root_.id Vg
  have Vg_l := World.block_lt_of_cell? _ _ Vg_0
  refine wp_region_held_drew (S := (fun w' => (w'.cell? ⟨w12.heap.size, 0, none⟩ = some (.int .i64 kt) ∧ w'.cell? ⟨w12.heap.size, 1, none⟩ = some (.int .i64 (qt : Int))) ∧ (w'.cell? ⟨w4.heap.size, 0, none⟩ = some (.bool bic) ∧ w'.cell? ⟨w4.heap.size, 1, none⟩ = some (.slice Aic lic cic) ∧ w'.cell? ⟨w4.heap.size, 2, none⟩ = some (.int .i64 jic) ∧ w'.cell? ⟨w4.heap.size, 3, none⟩ = some (.bool bic') ∧ w'.cell? ⟨w4.heap.size, 4, none⟩ = some (.slice Aic' lic' cic') ∧ w'.cell? ⟨w4.heap.size, 5, none⟩ = some (.int .i64 jic')) ∧ (w'.cell? ⟨w5.heap.size, 0, none⟩ = some (.bool bis) ∧ w'.cell? ⟨w5.heap.size, 1, none⟩ = some (.slice Ais lis cis) ∧ w'.cell? ⟨w5.heap.size, 2, none⟩ = some (.int .i64 jis) ∧ w'.cell? ⟨w5.heap.size, 3, none⟩ = some (.bool bis') ∧ w'.cell? ⟨w5.heap.size, 4, none⟩ = some (.slice Ais' lis' cis') ∧ w'.cell? ⟨w5.heap.size, 5, none⟩ = some (.int .i64 jis')) ∧ (w'.cell? ⟨w6.heap.size, 0, none⟩ = some (.bool bid) ∧ w'.cell? ⟨w6.heap.size, 1, none⟩ = some (.slice Aid lid cid) ∧ w'.cell? ⟨w6.heap.size, 2, none⟩ = some (.int .i64 jid) ∧ w'.cell? ⟨w6.heap.size, 3, none⟩ = some (.bool bid') ∧ w'.cell? ⟨w6.heap.size, 4, none⟩ = some (.slice Aid' lid' cid') ∧ w'.cell? ⟨w6.heap.size, 5, none⟩ = some (.int .i64 jid')) ∧ (w'.cell? ⟨w7.heap.size, 0, none⟩ = some (.bool big) ∧ w'.cell? ⟨w7.heap.size, 1, none⟩ = some (.slice Aig lig cig) ∧ w'.cell? ⟨w7.heap.size, 2, none⟩ = some (.int .i64 jig) ∧ w'.cell? ⟨w7.heap.size, 3, none⟩ = some (.bool big') ∧ w'.cell? ⟨w7.heap.size, 4, none⟩ = some (.slice Aig' lig' cig') ∧ w'.cell? ⟨w7.heap.size, 5, none⟩ = some (.int .i64 jig')))) (by as_aux_lemma => kernel_rfl) ⟨b2 (Bs.ext (Ext.refl WA).drew), bx6 (Vc.ext (Ext.refl WA).drew), bx6 (Vs.ext (Ext.refl WA).drew), bx6 (Vd.ext (Ext.refl WA).drew), bx6 (Vg.ext (Ext.refl WA).drew)⟩ (fun hHeld => ?_)
  refine wpAnyH_take (i := 0) (v := ?_) rfl (by as_aux_lemma => kernel_rfl) (by as_aux_lemma => kernel_rfl) (by as_aux_lemma => kernel_rfl) (fun _ _ _ h => h) (Or.inl ⟨by rfl, ?_⟩) (by assumption) ?_
  rotate_left
  · (intro w hSw; (try dsimp only at hSw); go_simp); (try with_reducible rfl)
  simp only [List.getElem_toArray, List.getElem_cons_zero, Act.put, List.setIfInBounds_toArray, List.set_cons_zero, List.set_cons_succ]
  refine wpAnyH_take (i := 1) (v := ?_) rfl (by as_aux_lemma => kernel_rfl) (by as_aux_lemma => kernel_rfl) (by as_aux_lemma => kernel_rfl) (fun _ _ _ h => h) (Or.inl ⟨by rfl, ?_⟩) (by assumption) ?_
  rotate_left
  · (intro w hSw; (try dsimp only at hSw); go_simp); (try with_reducible rfl)
  simp only [List.getElem_toArray, List.getElem_cons_zero, List.getElem_cons_succ, Act.put, List.setIfInBounds_toArray, List.set_cons_zero, List.set_cons_succ]
  refine wpAnyH_take (i := 2) (v := ?_) rfl (by as_aux_lemma => kernel_rfl) (by as_aux_lemma => kernel_rfl) (by as_aux_lemma => kernel_rfl) (fun _ _ _ h => h) (Or.inl ⟨by rfl, ?_⟩) (by assumption) ?_
  rotate_left
  · (intro w hSw; (try dsimp only at hSw); go_simp); (try with_reducible rfl)
  simp only [List.getElem_toArray, List.getElem_cons_zero, List.getElem_cons_succ, Act.put, List.setIfInBounds_toArray, List.set_cons_zero, List.set_cons_succ]
  refine wpAnyH_take (i := 3) (v := ?_) rfl (by as_aux_lemma => kernel_rfl) (by as_aux_lemma => kernel_rfl) (by as_aux_lemma => kernel_rfl) (fun _ _ _ h => h) (Or.inl ⟨by rfl, ?_⟩) (by assumption) ?_
  rotate_left
  · (intro w hSw; (try dsimp only at hSw); go_simp); (try with_reducible rfl)
  simp only [List.getElem_toArray, List.getElem_cons_zero, List.getElem_cons_succ, Act.put, List.setIfInBounds_toArray, List.set_cons_zero, List.set_cons_succ]
  refine wpAnyH_take (i := 5) (v := ?_) rfl (by as_aux_lemma => kernel_rfl) (by as_aux_lemma => kernel_rfl) (by as_aux_lemma => kernel_rfl) (fun _ _ _ h => h) (Or.inl ⟨by rfl, ?_⟩) (by assumption) ?_
  rotate_left
  · (intro w hSw; (try dsimp only at hSw); go_simp); (try with_reducible rfl)
  simp only [List.getElem_toArray, List.getElem_cons_zero, List.getElem_cons_succ, Act.put, List.setIfInBounds_toArray, List.set_cons_zero, List.set_cons_succ]
  refine wpAnyH_take (i := 6) (v := ?_) rfl (by as_aux_lemma => kernel_rfl) (by as_aux_lemma => kernel_rfl) (by as_aux_lemma => kernel_rfl) (fun _ _ _ h => h) (Or.inl ⟨by rfl, ?_⟩) (by assumption) ?_
  rotate_left
  · (intro w hSw; (try dsimp only at hSw); go_simp); (try with_reducible rfl)
  simp only [List.getElem_toArray, List.getElem_cons_zero, List.getElem_cons_succ, Act.put, List.setIfInBounds_toArray, List.set_cons_zero, List.set_cons_succ]
  refine wpAnyH_take (i := 8) (v := ?_) rfl (by as_aux_lemma => kernel_rfl) (by as_aux_lemma => kernel_rfl) (by as_aux_lemma => kernel_rfl) (fun _ _ _ h => h) (Or.inl ⟨by rfl, ?_⟩) (by assumption) ?_
  rotate_left
  · (intro w hSw; (try dsimp only at hSw); go_simp); (try with_reducible rfl)
  simp only [List.getElem_toArray, List.getElem_cons_zero, List.getElem_cons_succ, Act.put, List.setIfInBounds_toArray, List.set_cons_zero, List.set_cons_succ]
  refine wpAnyH_take (i := 9) (v := ?_) rfl (by as_aux_lemma => kernel_rfl) (by as_aux_lemma => kernel_rfl) (by as_aux_lemma => kernel_rfl) (fun _ _ _ h => h) (Or.inl ⟨by rfl, ?_⟩) (by assumption) ?_
  rotate_left
  · (intro w hSw; (try dsimp only at hSw); go_simp); (try with_reducible rfl)
  simp only [List.getElem_toArray, List.getElem_cons_zero, List.getElem_cons_succ, Act.put, List.setIfInBounds_toArray, List.set_cons_zero, List.set_cons_succ]
  refine wpAnyH_ready (rs := [4]) (by as_aux_lemma => kernel_rfl) (by simp) ?_
  refine AllReadyH.cons rfl (fun K hK => ?_) AllReadyH.nil
  go_simp
  refine (HCt.out _ (T.ext (Ext.refl WA).drew) (P.ext (Ext.refl WA).drew)).mono ?_
  rintro _ u1 ⟨vu1, rfl, mu1, eu1⟩
  have Fu1 : Ext WA u1 := (Ext.refl WA).drew.trans eu1
  refine hK.out _ _ ⟨b2 (Bs.ext Fu1), bx6 (Vc.ext Fu1), bx6 (Vs.ext Fu1), bx6 (Vd.ext Fu1), bx6 (Vg.ext Fu1)⟩ (fun hHeld => ?_)
  clear hK K eu1
  refine wpAnyH_ready (rs := [7]) (by as_aux_lemma => kernel_rfl) (by simp) ?_
  refine AllReadyH.cons rfl (fun K hK => ?_) AllReadyH.nil
  go_simp
  refine (rimul_any _ _ _ c1 c2 d1 d2 N 1 N 1 (ic.ext Fu1) (id.ext Fu1) rc1 rc2 rd1 rd2 (by omega)).mono ?_
  rintro _ u2 ⟨vu2, rfl, mu2, eu2⟩
  have Fu2 : Ext WA u2 := Fu1.trans eu2
  replace mu1 := mu1.ext eu2
  refine hK.out _ _ ⟨b2 (Bs.ext Fu2), bx6 (Vc.ext Fu2), bx6 (Vs.ext Fu2), bx6 (Vd.ext Fu2), bx6 (Vg.ext Fu2)⟩ (fun hHeld => ?_)
  clear hK K eu2 Fu1
  refine wpAnyH_ready (rs := [10]) (by as_aux_lemma => kernel_rfl) (by simp) ?_
  refine AllReadyH.cons rfl (fun K hK => ?_) AllReadyH.nil
  go_simp
  refine (rimul_any _ _ _ s1 s2 g1 g2 N 1 N 1 (is.ext Fu2) (ig.ext Fu2) rs1 rs2 rg1 rg2 (by omega)).mono ?_
  rintro _ u3 ⟨vu3, rfl, mu3, eu3⟩
  have Fu3 : Ext WA u3 := Fu2.trans eu3
  replace mu1 := mu1.ext eu3
  replace mu2 := mu2.ext eu3
  refine hK.out _ _ ⟨b2 (Bs.ext Fu3), bx6 (Vc.ext Fu3), bx6 (Vs.ext Fu3), bx6 (Vd.ext Fu3), bx6 (Vg.ext Fu3)⟩ (fun hHeld => ?_)
  clear hK K eu3 Fu2
  refine wpAnyH_ready (rs := [11]) (by as_aux_lemma => kernel_rfl) (by simp) ?_
  refine AllReadyH.cons rfl (fun K hK => ?_) AllReadyH.nil
  go_simp
  refine (riflip_any _ _ _ _ mu3).mono ?_
  rintro _ u4 ⟨vu4, rfl, mu4, eu4⟩
  have Fu4 : Ext WA u4 := Fu3.trans eu4
  replace mu1 := mu1.ext eu4
  replace mu2 := mu2.ext eu4
  replace mu3 := mu3.ext eu4
  refine hK.out _ _ ⟨b2 (Bs.ext Fu4), bx6 (Vc.ext Fu4), bx6 (Vs.ext Fu4), bx6 (Vd.ext Fu4), bx6 (Vg.ext Fu4)⟩ (fun hHeld => ?_)
  clear hK K eu4 Fu3
  refine wpAnyH_ready (rs := [12]) (by as_aux_lemma => kernel_rfl) (by simp) ?_
  refine AllReadyH.cons rfl (fun K hK => ?_) AllReadyH.nil
  go_simp
  refine (riadd_any _ _ _ _ _ _ _ (N + N) (1 + 1) mu2 mu4 HM.out.1.1.1 HM.out.1.1.2 HM.out.1.2.2.neg HM.out.1.2.1.neg (by omega)).mono ?_
  rintro _ u5 ⟨vu5, rfl, mu5, eu5⟩
  have Fu5 : Ext WA u5 := Fu4.trans eu5
  replace mu1 := mu1.ext eu5
  replace mu2 := mu2.ext eu5
  replace mu4 := mu4.ext eu5
  refine hK.out _ _ ⟨b2 (Bs.ext Fu5), bx6 (Vc.ext Fu5), bx6 (Vs.ext Fu5), bx6 (Vd.ext Fu5), bx6 (Vg.ext Fu5)⟩ (fun hHeld => ?_)
  clear hK K eu5 Fu4 mu3
  refine wpAnyH_ready (rs := [13]) (by as_aux_lemma => kernel_rfl) (by simp) ?_
  refine AllReadyH.cons rfl (fun K hK => ?_) AllReadyH.nil
  go_simp
  refine (rmeet_yes _ _ _ _ _ _ _ (N + N) (1 + 1 + 1) mu1 mu5 (rt1.mono (by omega) (by omega)) (rt2.mono (by omega) (by omega)) (HM.out.1.1.1.add HM.out.1.2.2.neg) (HM.out.1.1.2.add HM.out.1.2.1.neg) (by omega) m1 m2).mono ?_
  rintro _ u6 ⟨rfl, eu6⟩
  have Fu6 : Ext WA u6 := Fu5.trans eu6
  replace mu1 := mu1.ext eu6
  replace mu5 := mu5.ext eu6
  refine hK.out _ _ ⟨b2 (Bs.ext Fu6), bx6 (Vc.ext Fu6), bx6 (Vs.ext Fu6), bx6 (Vd.ext Fu6), bx6 (Vg.ext Fu6)⟩ (fun hHeld => ?_)
  clear hK K eu6 Fu5 mu2 mu4
  refine wpAnyH_take (i := 14) (v := ?_) rfl (by as_aux_lemma => kernel_rfl) (by as_aux_lemma => kernel_rfl) (by as_aux_lemma => kernel_rfl) (fun _ _ _ h => h) (Or.inl ⟨by rfl, ?_⟩) (by assumption) ?_
  rotate_left
  · (intro w hSw; (try dsimp only at hSw); go_simp); (try with_reducible rfl)
  simp only [List.getElem_toArray, List.getElem_cons_zero, List.getElem_cons_succ, Act.put, List.setIfInBounds_toArray, List.set_cons_zero, List.set_cons_succ]
  refine wpAnyH_take (i := 15) (v := ?_) rfl (by as_aux_lemma => kernel_rfl) (by as_aux_lemma => kernel_rfl) (by as_aux_lemma => kernel_rfl) (fun _ _ _ h => h) (Or.inl ⟨by rfl, ?_⟩) (by assumption) ?_
  rotate_left
  · (intro w hSw; (try dsimp only at hSw); go_simp); (try with_reducible rfl)
  simp only [List.getElem_toArray, List.getElem_cons_zero, List.getElem_cons_succ, Act.put, List.setIfInBounds_toArray, List.set_cons_zero, List.set_cons_succ]
  refine wpAnyH_take (i := 16) (v := ?_) rfl (by as_aux_lemma => kernel_rfl) (by as_aux_lemma => kernel_rfl) (by as_aux_lemma => kernel_rfl) (fun _ _ _ h => h) (Or.inl ⟨by rfl, ?_⟩) (by assumption) ?_
  rotate_left
  · (intro w hSw; (try dsimp only at hSw); go_simp); (try with_reducible rfl)
  simp only [List.getElem_toArray, List.getElem_cons_zero, List.getElem_cons_succ, Act.put, List.setIfInBounds_toArray, List.set_cons_zero, List.set_cons_succ]
  refine wpAnyH_take (i := 17) (v := ?_) rfl (by as_aux_lemma => kernel_rfl) (by as_aux_lemma => kernel_rfl) (by as_aux_lemma => kernel_rfl) (fun _ _ _ h => h) (Or.inl ⟨by rfl, ?_⟩) (by assumption) ?_
  rotate_left
  · (intro w hSw; (try dsimp only at hSw); go_simp); (try with_reducible rfl)
  simp only [List.getElem_toArray, List.getElem_cons_zero, List.getElem_cons_succ, Act.put, List.setIfInBounds_toArray, List.set_cons_zero, List.set_cons_succ]
  refine wpAnyH_take (i := 19) (v := ?_) rfl (by as_aux_lemma => kernel_rfl) (by as_aux_lemma => kernel_rfl) (by as_aux_lemma => kernel_rfl) (fun _ _ _ h => h) (Or.inl ⟨by rfl, ?_⟩) (by assumption) ?_
  rotate_left
  · (intro w hSw; (try dsimp only at hSw); go_simp); (try with_reducible rfl)
  simp only [List.getElem_toArray, List.getElem_cons_zero, List.getElem_cons_succ, Act.put, List.setIfInBounds_toArray, List.set_cons_zero, List.set_cons_succ]
  refine wpAnyH_take (i := 20) (v := ?_) rfl (by as_aux_lemma => kernel_rfl) (by as_aux_lemma => kernel_rfl) (by as_aux_lemma => kernel_rfl) (fun _ _ _ h => h) (Or.inl ⟨by rfl, ?_⟩) (by assumption) ?_
  rotate_left
  · (intro w hSw; (try dsimp only at hSw); go_simp); (try with_reducible rfl)
  simp only [List.getElem_toArray, List.getElem_cons_zero, List.getElem_cons_succ, Act.put, List.setIfInBounds_toArray, List.set_cons_zero, List.set_cons_succ]
  refine wpAnyH_take (i := 22) (v := ?_) rfl (by as_aux_lemma => kernel_rfl) (by as_aux_lemma => kernel_rfl) (by as_aux_lemma => kernel_rfl) (fun _ _ _ h => h) (Or.inl ⟨by rfl, ?_⟩) (by assumption) ?_
  rotate_left
  · (intro w hSw; (try dsimp only at hSw); go_simp); (try with_reducible rfl)
  simp only [List.getElem_toArray, List.getElem_cons_zero, List.getElem_cons_succ, Act.put, List.setIfInBounds_toArray, List.set_cons_zero, List.set_cons_succ]
  refine wpAnyH_take (i := 23) (v := ?_) rfl (by as_aux_lemma => kernel_rfl) (by as_aux_lemma => kernel_rfl) (by as_aux_lemma => kernel_rfl) (fun _ _ _ h => h) (Or.inl ⟨by rfl, ?_⟩) (by assumption) ?_
  rotate_left
  · (intro w hSw; (try dsimp only at hSw); go_simp); (try with_reducible rfl)
  simp only [List.getElem_toArray, List.getElem_cons_zero, List.getElem_cons_succ, Act.put, List.setIfInBounds_toArray, List.set_cons_zero, List.set_cons_succ]
  refine wpAnyH_ready (rs := [18]) (by as_aux_lemma => kernel_rfl) (by simp) ?_
  refine AllReadyH.cons rfl (fun K hK => ?_) AllReadyH.nil
  go_simp
  refine (HSt.out _ (T.ext Fu6) (P.ext Fu6)).mono ?_
  rintro _ u7 ⟨vu7, rfl, mu7, eu7⟩
  have Fu7 : Ext WA u7 := Fu6.trans eu7
  refine hK.out _ _ ⟨b2 (Bs.ext Fu7), bx6 (Vc.ext Fu7), bx6 (Vs.ext Fu7), bx6 (Vd.ext Fu7), bx6 (Vg.ext Fu7)⟩ (fun hHeld => ?_)
  clear hK K eu7 Fu6 mu1 mu5
  refine wpAnyH_ready (rs := [21]) (by as_aux_lemma => kernel_rfl) (by simp) ?_
  refine AllReadyH.cons rfl (fun K hK => ?_) AllReadyH.nil
  go_simp
  refine (rimul_any _ _ _ s1 s2 d1 d2 N 1 N 1 (is.ext Fu7) (id.ext Fu7) rs1 rs2 rd1 rd2 (by omega)).mono ?_
  rintro _ u8 ⟨vu8, rfl, mu8, eu8⟩
  have Fu8 : Ext WA u8 := Fu7.trans eu8
  replace mu7 := mu7.ext eu8
  refine hK.out _ _ ⟨b2 (Bs.ext Fu8), bx6 (Vc.ext Fu8), bx6 (Vs.ext Fu8), bx6 (Vd.ext Fu8), bx6 (Vg.ext Fu8)⟩ (fun hHeld => ?_)
  clear hK K eu8 Fu7
  refine wpAnyH_ready (rs := [24]) (by as_aux_lemma => kernel_rfl) (by simp) ?_
  refine AllReadyH.cons rfl (fun K hK => ?_) AllReadyH.nil
  go_simp
  refine (rimul_any _ _ _ c1 c2 g1 g2 N 1 N 1 (ic.ext Fu8) (ig.ext Fu8) rc1 rc2 rg1 rg2 (by omega)).mono ?_
  rintro _ u9 ⟨vu9, rfl, mu9, eu9⟩
  have Fu9 : Ext WA u9 := Fu8.trans eu9
  replace mu7 := mu7.ext eu9
  replace mu8 := mu8.ext eu9
  refine hK.out _ _ ⟨b2 (Bs.ext Fu9), bx6 (Vc.ext Fu9), bx6 (Vs.ext Fu9), bx6 (Vd.ext Fu9), bx6 (Vg.ext Fu9)⟩ (fun hHeld => ?_)
  clear hK K eu9 Fu8
  refine wpAnyH_ready (rs := [25]) (by as_aux_lemma => kernel_rfl) (by simp) ?_
  refine AllReadyH.cons rfl (fun K hK => ?_) AllReadyH.nil
  go_simp
  refine (riadd_any _ _ _ _ _ _ _ (N + N) (1 + 1) mu8 mu9 HM.out.2.1.1 HM.out.2.1.2 HM.out.2.2.1 HM.out.2.2.2 (by omega)).mono ?_
  rintro _ u10 ⟨vu10, rfl, mu10, eu10⟩
  have Fu10 : Ext WA u10 := Fu9.trans eu10
  replace mu7 := mu7.ext eu10
  replace mu8 := mu8.ext eu10
  replace mu9 := mu9.ext eu10
  refine hK.out _ _ ⟨b2 (Bs.ext Fu10), bx6 (Vc.ext Fu10), bx6 (Vs.ext Fu10), bx6 (Vd.ext Fu10), bx6 (Vg.ext Fu10)⟩ (fun hHeld => ?_)
  clear hK K eu10 Fu9
  refine wpAnyH_ready (rs := [26]) (by as_aux_lemma => kernel_rfl) (by simp) ?_
  refine AllReadyH.cons rfl (fun K hK => ?_) AllReadyH.nil
  go_simp
  refine (rmeet_yes _ _ _ _ _ _ _ (N + N) (1 + 1 + 1) mu7 mu10 (ry1.mono (by omega) (by omega)) (ry2.mono (by omega) (by omega)) (HM.out.2.1.1.add HM.out.2.2.1) (HM.out.2.1.2.add HM.out.2.2.2) (by omega) m3 m4).mono ?_
  rintro _ u11 ⟨rfl, eu11⟩
  have Fu11 : Ext WA u11 := Fu10.trans eu11
  replace mu7 := mu7.ext eu11
  replace mu10 := mu10.ext eu11
  refine hK.out _ _ ⟨b2 (Bs.ext Fu11), bx6 (Vc.ext Fu11), bx6 (Vs.ext Fu11), bx6 (Vd.ext Fu11), bx6 (Vg.ext Fu11)⟩ (fun hHeld => ?_)
  clear hK K eu11 Fu10 mu8 mu9
  refine wpAnyH_take (i := 27) (v := ?_) rfl (by as_aux_lemma => kernel_rfl) (by as_aux_lemma => kernel_rfl) (by as_aux_lemma => kernel_rfl) (fun _ _ _ h => h) (Or.inl ⟨by rfl, ?_⟩) (by assumption) ?_
  rotate_left
  · (intro w hSw; (try dsimp only at hSw); go_simp); (try with_reducible rfl)
  simp only [List.getElem_toArray, List.getElem_cons_zero, List.getElem_cons_succ, Act.put, List.setIfInBounds_toArray, List.set_cons_zero, List.set_cons_succ]
  refine wpAnyH_take (i := 28) (v := ?_) rfl (by as_aux_lemma => kernel_rfl) (by as_aux_lemma => kernel_rfl) (by as_aux_lemma => kernel_rfl) (fun _ _ _ h => h) (Or.inl ⟨by rfl, ?_⟩) (by assumption) ?_
  rotate_left
  · (intro w hSw; (try dsimp only at hSw); go_simp); (try with_reducible rfl)
  simp only [List.getElem_toArray, List.getElem_cons_zero, List.getElem_cons_succ, Act.put, List.setIfInBounds_toArray, List.set_cons_zero, List.set_cons_succ]
  refine wpAnyH_done (by as_aux_lemma => kernel_rfl) ?_ _
  go_wp2
  go_ret
  exact ⟨rfl, EWA.trans Fu11⟩
theorem walk_CircSum (w : World) (T0 : Tu w) (K Q : Int) (bK : -9223372036854775808 ≤ K ∧ K ≤ 9223372036854775807) (bQ : -9223372036854775808 ≤ Q ∧ Q ≤ 9223372036854775807) (K2 Q2 : Int) (bK2 : -9223372036854775808 ≤ K2 ∧ K2 ≤ 9223372036854775807) (bQ2 : -9223372036854775808 ≤ Q2 ∧ Q2 ≤ 9223372036854775807) (n : Int) (hn : 0 ≤ n ∧ n ≤ 255) :
    Calls Tryz.prog 7 #[.agg #[.int .i64 K, .int .i64 Q], .agg #[.int .i64 K2, .int .i64 Q2], .int .u8 n] w (RetE w (.bool true)) := by
  cases hr : (goodT K Q && goodT K2 Q2) with
  | false => exact sum_no w T0 K Q K2 Q2 n bK bQ bK2 bQ2 hn hr
  | true =>
    have hr2 := hr
    rw [Bool.and_eq_true] at hr2
    obtain ⟨⟨q0, q14⟩, hK⟩ := goodT_iff.1 hr2.1
    obtain ⟨⟨p0, p14⟩, hK2⟩ := goodT_iff.1 hr2.2
    obtain ⟨Q, rfl⟩ := Int.eq_ofNat_of_zero_le q0
    obtain ⟨Q2, rfl⟩ := Int.eq_ofNat_of_zero_le p0
    replace q14 : Q ≤ 14 := by omega
    replace p14 : Q2 ≤ 14 := by omega
    obtain ⟨N, hN⟩ := Int.eq_ofNat_of_zero_le (show 0 ≤ n % 70 + 1 by omega)
    have f0 := tv_fine (K := K) q14
    have f1 := tv_fine (K := K2) p14
    have hv := tv_range K Q
    have hu := tv_range K2 Q2
    obtain ⟨ka, qa, ha, _⟩ := fm_good hv.1 hv.2 f0
    obtain ⟨kb, qb, hb, _⟩ := fm_good hu.1 hu.2 f1
    obtain ⟨kt, qt, ht, ht2⟩ := fm_good (v := (tv K Q + tv K2 Q2) % 1099511627776) (by omega) (by omega) (by omega)
    have bt : -1099511627776 ≤ kt ∧ kt ≤ 1099511627776 := by
      have a := ht.low
      have b := p2_le a.2.2.1
      rw [p2_40] at b
      omega
    have rg : ∀ v : Int, (Rg N 1 (tlo N (cv v).1) ∧ Rg N 1 (thi N (cv v).1) ∧ tlo N (cv v).1 ≤ thi N (cv v).1) ∧ Rg N 1 (tlo N (cv v).2) ∧ Rg N 1 (thi N (cv v).2) ∧ tlo N (cv v).2 ≤ thi N (cv v).2 := fun v => by
      obtain ⟨r1, r2⟩ := cv_range v
      have a := tgt_at N r1.1 r1.2
      have b := tgt_at N r2.1 r2.2
      exact ⟨⟨(a.rg r1.1 r1.2).1, (a.rg r1.1 r1.2).2, a.en.le⟩, (b.rg r2.1 r2.2).1, (b.rg r2.1 r2.2).2, b.en.le⟩
    have gv := rg (tv K Q)
    have gu := rg (tv K2 Q2)
    have gt := rg ((tv K Q + tv K2 Q2) % 1099511627776)
    obtain ⟨⟨m1, m2⟩, m3, m4⟩ := sum_math N (tv K Q) (tv K2 Q2)
    exact sum_yes w T0 K K2 n _ kt Q Q2 qt N _ _ _ _ _ _ _ _ _ _ _ _ bK bK2 q14 p14 hr hn rfl (by omega)
      (Lib.hid fun w' T' P' => ccos_good w' K Q N _ _ _ hN rfl rfl hK q14 (by omega) (by omega) T' P') (Lib.hid fun w' T' P' => csin_good w' K Q N _ _ _ hN rfl rfl hK q14 (by omega) (by omega) T' P')
      (Lib.hid fun w' T' P' => ccos_good w' K2 Q2 N _ _ _ hN rfl rfl hK2 p14 (by omega) (by omega) T' P') (Lib.hid fun w' T' P' => csin_good w' K2 Q2 N _ _ _ hN rfl rfl hK2 p14 (by omega) (by omega) T' P')
      (Lib.hid fun w' T' P' => ccos_good w' kt qt N _ _ _ hN (by rw [ht.tv]) (by rw [ht.tv]) bt ht2 (by omega) (by omega) T' P') (Lib.hid fun w' T' P' => csin_good w' kt qt N _ _ _ hN (by rw [ht.tv]) (by rw [ht.tv]) bt ht2 (by omega) (by omega) T' P')
      (Lib.hid fun w' => radd2_any w' K K2 ka kb kt Q Q2 qa qb qt bK bK2 (by omega) (by omega) ha hb ht)
      gv.1.1 gv.1.2.1 gv.1.2.2 gv.2.1 gv.2.2.1 gv.2.2.2 gu.1.1 gu.1.2.1 gu.1.2.2 gu.2.1 gu.2.2.1 gu.2.2.2 gt.1.1 gt.1.2.1 gt.2.1 gt.2.2.1 m1 m2 m3 m4
end Go.Proofs.YtomdbmjfehoodaaGreatDoor
