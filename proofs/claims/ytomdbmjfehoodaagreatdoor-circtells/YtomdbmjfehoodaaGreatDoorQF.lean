/- Walks of the document's answers on cosines: Cos, Sin. -/
import Derived.Test.YtomdbmjfehoodaaGreatDoorQE
import Derived.LoopN
set_option maxRecDepth 8000
namespace Go.Proofs.YtomdbmjfehoodaaGreatDoor
open Go.RowKit
set_option linter.unusedVariables false
set_option linter.unusedSimpArgs false
set_option maxRecDepth 20000 in
set_option maxHeartbeats 4000000 in
theorem rcos7_any (w : World) (K kf kr : Int) (Q qf qr n P : Nat) (L H : Dyadic) (hK : -9223372036854775808 ≤ K ∧ K ≤ 9223372036854775807) (hQ : Q ≤ 14) (hf : Fm (tv K Q) kf qf) (hq : qf ≤ 14) (hr : Fm (rest (tv K Q)) kr qr) (hn1 : 1 ≤ n) (hn : n ≤ 70) (hL : tlo n (cv (tv K Q)).1 = L) (hH : thi n (cv (tv K Q)).1 = H) :
    Calls Tryz.prog 15 #[.agg #[.int .i64 K, .int .i64 (Q : Int)], .int .i64 (n : Int)] w (RetI w L H) := by
  have HF := Lib.hid (fun w' => rform_any w' K kf Q qf hK (by omega) hf)
  have f1 := fld1 (.int .i64 kf) (.int .i64 (qf : Int))
  obtain ⟨D1, D2⟩ := docxy_ok (n := n) hf hq hr (by omega)
  obtain ⟨k, hk⟩ : ∃ k, n + 2 * qf + 40 = k := ⟨_, rfl⟩
  rw [hk] at D1 D2
  have hk1 : (n : Int) + 2 * (qf : Int) + 40 = (k : Int) := by omega
  have hk2 : (n : Int) + 2 * (qf : Int) = (k : Int) - 40 := by omega
  have hk9 : k ≤ 138 := by omega
  have HP := Lib.hid (fun w' => rpair_any w' K kf kr Q qf qr k hK hQ hf hq hr (by omega) (by omega) (by omega))
  clear hK hf hr hk
  generalize docxy k (tv K Q) kr qr = r at *
  obtain ⟨xa, xb, ya, yb⟩ := r
  have D : Doc n 4400 (cv (tv K Q)).1 xa xb := D1
  have HK := Lib.hid (fun w' va (h : In w' va xa xb) => rknown_any w' va xa xb L H (n : Int) n 4400 rfl h D.r1 D.r2 (by omega) (by omega) (by rw [D.lo, hL]) (by rw [D.hi, hH]) (by have := D.gap; rw [D.lo, D.hi, hL, hH] at this; exact this))
  clear D D1 D2 hL hH
  have hn4 : (n : Int) ≤ 70 := by omega
  have hq4 : (qf : Int) ≤ 14 := by omega
  go_enter Tryz.func15, Tryz.ntmps15
  go_wp2_with fail
  refine (HF.out _).mono ?_
  rintro _ w1 ⟨rfl, f1⟩
  have Bt : B2 w1 (w.heap.size) (.int .i64 K) (.int .i64 (Q : Int)) := B2.at (((Ext.refl _).alloc _).trans f1) (by simp)
  have Z1 : Zi w1 (w.heap.size + 1) := Zi.at ((Ext.refl _).trans f1) (by simp)
  have e1 : Ext w w1 := (((Ext.refl w).alloc _).alloc _).trans f1
  have E1 : Ext w w1 := e1
  clear f1
  have hz := World.block_lt_of_cell? _ _ Z1.c0
  obtain ⟨Bt_0, Bt_1⟩ := _root_.id Bt
  have Bt_l := World.block_lt_of_cell? _ _ Bt_0
  go_wp2
  refine wp_loop_rounds 3 ?_
  rw [rounds_succ]
  go_wp2_with fail
  refine (HP.out _).mono ?_
  rintro _ W2 ⟨v1, v2, rfl, ix, iy, e2⟩
  clear HP
  clear Bt_0 Bt_1 Bt_l
  replace Z1 := Z1.ext e2
  replace Bt := Bt.ext e2
  have E2 := E1.trans e2
  clear e2 E1
  obtain ⟨bx, Ax, nx, cx, ex, bx', Ax', nx', cx', ex', rfl⟩ := ix.form
  obtain ⟨bf, Af, nf, cf, ef, bf', Af', nf', cf', ef', rfl⟩ := iy.form
  go_upto_region 4 with fail
  have Bc : Bx ((W2.alloc (.cells #[.bool bx, .slice Ax nx cx, .int .i64 ex, .bool bx', .slice Ax' nx' cx', .int .i64 ex'] 33)).alloc (.cells #[.bool bf, .slice Af nf cf, .int .i64 ef, .bool bf', .slice Af' nf' cf', .int .i64 ef'] 33)) W2.heap.size (.bool bx) (.slice Ax nx cx) (.int .i64 ex) (.bool bx') (.slice Ax' nx' cx') (.int .i64 ex') := Bx.at ((Ext.refl _).alloc _) rfl
  have Bs : Bx ((W2.alloc (.cells #[.bool bx, .slice Ax nx cx, .int .i64 ex, .bool bx', .slice Ax' nx' cx', .int .i64 ex'] 33)).alloc (.cells #[.bool bf, .slice Af nf cf, .int .i64 ef, .bool bf', .slice Af' nf' cf', .int .i64 ef'] 33)) (W2.heap.size + 1) (.bool bf) (.slice Af nf cf) (.int .i64 ef) (.bool bf') (.slice Af' nf' cf') (.int .i64 ef') := Bx.at (Ext.refl _) (by simp)
  have e3 : Ext W2 ((W2.alloc (.cells #[.bool bx, .slice Ax nx cx, .int .i64 ex, .bool bx', .slice Ax' nx' cx', .int .i64 ex'] 33)).alloc (.cells #[.bool bf, .slice Af nf cf, .int .i64 ef, .bool bf', .slice Af' nf' cf', .int .i64 ef'] 33)) := ((Ext.refl _).alloc _).alloc _
  replace Z1 := Z1.ext e3
  replace ix := ix.ext e3
  replace iy := iy.ext e3
  have E3 := E2.trans e3
  clear e3 E2 Bt
  generalize hgen : ((W2.alloc (.cells #[.bool bx, .slice Ax nx cx, .int .i64 ex, .bool bx', .slice Ax' nx' cx', .int .i64 ex'] 33)).alloc (.cells #[.bool bf, .slice Af nf cf, .int .i64 ef, .bool bf', .slice Af' nf' cf', .int .i64 ef'] 33)) = W3 at *
  clear hgen
  obtain ⟨t0, t1, t2, t3, t4, t5⟩ := bx6 Bc
  have tl := World.block_lt_of_cell? _ _ t0
  go_wp2_with fail
  refine (HK.out _ _ ix).mono ?_
  rintro _ W4 ⟨v4, rfl, ik, e4⟩
  clear t0 t1 t2 t3 t4 t5 tl ix iy Bc Bs HK
  replace Z1 := Z1.ext e4
  have E4 := E3.trans e4
  clear e4 E3
  obtain ⟨bx, Ax, nx, cx, ex, bx', Ax', nx', cx', ex', rfl⟩ := ik.form
  go_upto_region 5 with fail
  have Bi : Bx (W4.alloc (.cells #[.bool bx, .slice Ax nx cx, .int .i64 ex, .bool bx', .slice Ax' nx' cx', .int .i64 ex'] 33)) W4.heap.size (.bool bx) (.slice Ax nx cx) (.int .i64 ex) (.bool bx') (.slice Ax' nx' cx') (.int .i64 ex') := Bx.at (Ext.refl _) rfl
  have e5 : Ext W4 (W4.alloc (.cells #[.bool bx, .slice Ax nx cx, .int .i64 ex, .bool bx', .slice Ax' nx' cx', .int .i64 ex'] 33)) := (Ext.refl _).alloc _
  replace Z1 := Z1.ext e5
  replace ik := ik.ext e5
  have E5 := E4.trans e5
  clear e5 E4
  generalize hgen : (W4.alloc (.cells #[.bool bx, .slice Ax nx cx, .int .i64 ex, .bool bx', .slice Ax' nx' cx', .int .i64 ex'] 33)) = W5 at *
  clear hgen
  obtain ⟨t0, t1, t2, t3, t4, t5⟩ := bx6 Bi
  have tl := World.block_lt_of_cell? _ _ t0
  have g0 := Z1.c0; have h0 := Z1.f 0
  have g1 := Z1.c1; have h1 := Z1.f 1
  have g2 := Z1.c2; have h2 := Z1.f 2
  have g3 := Z1.c3; have h3 := Z1.f 3
  have g4 := Z1.c4; have h4 := Z1.f 4
  have g5 := Z1.c5; have h5 := Z1.f 5
  have HD := Lib.hid (Z1.done ik.lo ik.hi E5 (by omega))
  go_wp2
  obtain ⟨k0, k1, k2, k3, k4, k5, hD⟩ := HD.out
  exact bodyPost_ret (by simp [results, Tryz.results15, go_sem, k0, k1, k2, k3, k4, k5]) rfl hD
set_option maxRecDepth 20000 in
set_option maxHeartbeats 4000000 in
theorem rsin7_any (w : World) (K kf kr : Int) (Q qf qr n P : Nat) (L H : Dyadic) (hK : -9223372036854775808 ≤ K ∧ K ≤ 9223372036854775807) (hQ : Q ≤ 14) (hf : Fm (tv K Q) kf qf) (hq : qf ≤ 14) (hr : Fm (rest (tv K Q)) kr qr) (hn1 : 1 ≤ n) (hn : n ≤ 70) (hL : tlo n (cv (tv K Q)).2 = L) (hH : thi n (cv (tv K Q)).2 = H) :
    Calls Tryz.prog 17 #[.agg #[.int .i64 K, .int .i64 (Q : Int)], .int .i64 (n : Int)] w (RetI w L H) := by
  have HF := Lib.hid (fun w' => rform_any w' K kf Q qf hK (by omega) hf)
  have f1 := fld1 (.int .i64 kf) (.int .i64 (qf : Int))
  obtain ⟨D1, D2⟩ := docxy_ok (n := n) hf hq hr (by omega)
  obtain ⟨k, hk⟩ : ∃ k, n + 2 * qf + 40 = k := ⟨_, rfl⟩
  rw [hk] at D1 D2
  have hk1 : (n : Int) + 2 * (qf : Int) + 40 = (k : Int) := by omega
  have hk2 : (n : Int) + 2 * (qf : Int) = (k : Int) - 40 := by omega
  have hk9 : k ≤ 138 := by omega
  have HP := Lib.hid (fun w' => rpair_any w' K kf kr Q qf qr k hK hQ hf hq hr (by omega) (by omega) (by omega))
  clear hK hf hr hk
  generalize docxy k (tv K Q) kr qr = r at *
  obtain ⟨xa, xb, ya, yb⟩ := r
  have D : Doc n 4400 (cv (tv K Q)).2 ya yb := D2
  have HK := Lib.hid (fun w' va (h : In w' va ya yb) => rknown_any w' va ya yb L H (n : Int) n 4400 rfl h D.r1 D.r2 (by omega) (by omega) (by rw [D.lo, hL]) (by rw [D.hi, hH]) (by have := D.gap; rw [D.lo, D.hi, hL, hH] at this; exact this))
  clear D D1 D2 hL hH
  have hn4 : (n : Int) ≤ 70 := by omega
  have hq4 : (qf : Int) ≤ 14 := by omega
  go_enter Tryz.func17, Tryz.ntmps17
  go_wp2_with fail
  refine (HF.out _).mono ?_
  rintro _ w1 ⟨rfl, f1⟩
  have Bt : B2 w1 (w.heap.size) (.int .i64 K) (.int .i64 (Q : Int)) := B2.at (((Ext.refl _).alloc _).trans f1) (by simp)
  have Z1 : Zi w1 (w.heap.size + 1) := Zi.at ((Ext.refl _).trans f1) (by simp)
  have e1 : Ext w w1 := (((Ext.refl w).alloc _).alloc _).trans f1
  have E1 : Ext w w1 := e1
  clear f1
  have hz := World.block_lt_of_cell? _ _ Z1.c0
  obtain ⟨Bt_0, Bt_1⟩ := _root_.id Bt
  have Bt_l := World.block_lt_of_cell? _ _ Bt_0
  go_wp2
  refine wp_loop_rounds 3 ?_
  rw [rounds_succ]
  go_wp2_with fail
  refine (HP.out _).mono ?_
  rintro _ W2 ⟨v1, v2, rfl, ix, iy, e2⟩
  clear HP
  clear Bt_0 Bt_1 Bt_l
  replace Z1 := Z1.ext e2
  replace Bt := Bt.ext e2
  have E2 := E1.trans e2
  clear e2 E1
  obtain ⟨bx, Ax, nx, cx, ex, bx', Ax', nx', cx', ex', rfl⟩ := ix.form
  obtain ⟨bf, Af, nf, cf, ef, bf', Af', nf', cf', ef', rfl⟩ := iy.form
  go_upto_region 4 with fail
  have Bc : Bx ((W2.alloc (.cells #[.bool bx, .slice Ax nx cx, .int .i64 ex, .bool bx', .slice Ax' nx' cx', .int .i64 ex'] 33)).alloc (.cells #[.bool bf, .slice Af nf cf, .int .i64 ef, .bool bf', .slice Af' nf' cf', .int .i64 ef'] 33)) W2.heap.size (.bool bx) (.slice Ax nx cx) (.int .i64 ex) (.bool bx') (.slice Ax' nx' cx') (.int .i64 ex') := Bx.at ((Ext.refl _).alloc _) rfl
  have Bs : Bx ((W2.alloc (.cells #[.bool bx, .slice Ax nx cx, .int .i64 ex, .bool bx', .slice Ax' nx' cx', .int .i64 ex'] 33)).alloc (.cells #[.bool bf, .slice Af nf cf, .int .i64 ef, .bool bf', .slice Af' nf' cf', .int .i64 ef'] 33)) (W2.heap.size + 1) (.bool bf) (.slice Af nf cf) (.int .i64 ef) (.bool bf') (.slice Af' nf' cf') (.int .i64 ef') := Bx.at (Ext.refl _) (by simp)
  have e3 : Ext W2 ((W2.alloc (.cells #[.bool bx, .slice Ax nx cx, .int .i64 ex, .bool bx', .slice Ax' nx' cx', .int .i64 ex'] 33)).alloc (.cells #[.bool bf, .slice Af nf cf, .int .i64 ef, .bool bf', .slice Af' nf' cf', .int .i64 ef'] 33)) := ((Ext.refl _).alloc _).alloc _
  replace Z1 := Z1.ext e3
  replace ix := ix.ext e3
  replace iy := iy.ext e3
  have E3 := E2.trans e3
  clear e3 E2 Bt
  generalize hgen : ((W2.alloc (.cells #[.bool bx, .slice Ax nx cx, .int .i64 ex, .bool bx', .slice Ax' nx' cx', .int .i64 ex'] 33)).alloc (.cells #[.bool bf, .slice Af nf cf, .int .i64 ef, .bool bf', .slice Af' nf' cf', .int .i64 ef'] 33)) = W3 at *
  clear hgen
  obtain ⟨t0, t1, t2, t3, t4, t5⟩ := bx6 Bs
  have tl := World.block_lt_of_cell? _ _ t0
  go_wp2_with fail
  refine (HK.out _ _ iy).mono ?_
  rintro _ W4 ⟨v4, rfl, ik, e4⟩
  clear t0 t1 t2 t3 t4 t5 tl ix iy Bc Bs HK
  replace Z1 := Z1.ext e4
  have E4 := E3.trans e4
  clear e4 E3
  obtain ⟨bx, Ax, nx, cx, ex, bx', Ax', nx', cx', ex', rfl⟩ := ik.form
  go_upto_region 5 with fail
  have Bi : Bx (W4.alloc (.cells #[.bool bx, .slice Ax nx cx, .int .i64 ex, .bool bx', .slice Ax' nx' cx', .int .i64 ex'] 33)) W4.heap.size (.bool bx) (.slice Ax nx cx) (.int .i64 ex) (.bool bx') (.slice Ax' nx' cx') (.int .i64 ex') := Bx.at (Ext.refl _) rfl
  have e5 : Ext W4 (W4.alloc (.cells #[.bool bx, .slice Ax nx cx, .int .i64 ex, .bool bx', .slice Ax' nx' cx', .int .i64 ex'] 33)) := (Ext.refl _).alloc _
  replace Z1 := Z1.ext e5
  replace ik := ik.ext e5
  have E5 := E4.trans e5
  clear e5 E4
  generalize hgen : (W4.alloc (.cells #[.bool bx, .slice Ax nx cx, .int .i64 ex, .bool bx', .slice Ax' nx' cx', .int .i64 ex'] 33)) = W5 at *
  clear hgen
  obtain ⟨t0, t1, t2, t3, t4, t5⟩ := bx6 Bi
  have tl := World.block_lt_of_cell? _ _ t0
  have g0 := Z1.c0; have h0 := Z1.f 0
  have g1 := Z1.c1; have h1 := Z1.f 1
  have g2 := Z1.c2; have h2 := Z1.f 2
  have g3 := Z1.c3; have h3 := Z1.f 3
  have g4 := Z1.c4; have h4 := Z1.f 4
  have g5 := Z1.c5; have h5 := Z1.f 5
  have HD := Lib.hid (Z1.done ik.lo ik.hi E5 (by omega))
  go_wp2
  obtain ⟨k0, k1, k2, k3, k4, k5, hD⟩ := HD.out
  exact bodyPost_ret (by simp [results, Tryz.results17, go_sem, k0, k1, k2, k3, k4, k5]) rfl hD
end Go.Proofs.YtomdbmjfehoodaaGreatDoor
