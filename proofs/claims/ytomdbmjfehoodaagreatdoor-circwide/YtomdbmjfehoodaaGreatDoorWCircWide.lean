/- The walk of CircWide. -/
import Derived.Test.YtomdbmjfehoodaaGreatDoorLH
import Derived.Test.YtomdbmjfehoodaaGreatDoorLG
import Derived.Deep.Cut
set_option maxRecDepth 8000
namespace Go.Proofs.YtomdbmjfehoodaaGreatDoor
open Go.RowKit
set_option linter.unusedVariables false
set_option linter.unusedSimpArgs false
theorem dn_exp {w : World} {b : Bool} {A : Option Addr} {l c : Nat} {e : Int} {d : Dyadic} {P Q : Nat} (h : Dn w (.agg #[.bool b, .slice A l c, .int .i64 e]) d) (r : Rg P Q d) : -(P : Int) ≤ e := by
  obtain ⟨M, z, e', hv, hN, hc, rfl⟩ := h
  simp only [Value.agg.injEq, Array.mk.injEq, List.cons.injEq, Value.int.injEq, and_true] at hv
  obtain ⟨_, _, _, rfl⟩ := hv
  exact (r.canon hc).1
theorem rsame_lit7 (w : World) (va vb : Value) (x y : Dyadic) (h : x = y) (ha : Dn w va x) (hb : Dn w vb y) : Calls Tryz.prog 18 #[va, vb] w (RetE w (.bool true)) := by
  subst h; exact rsameD_eq w va vb x ha hb
theorem rcmp_lit (w : World) (va vb : Value) (x y : Dyadic) (P Q : Nat) (r : Int) (hr : cmpD x y = r) (ha : Dn w va x) (hb : Dn w vb y) (hx : Rg P Q x) (hy : Rg P Q y) (h1 : P + Q ≤ 7200) : Calls Tryz.prog 23 #[va, vb] w (RetE w (.int .i64 r)) := by
  subst hr; exact rcmpD_any w va vb x y P Q ha hb hx hy h1
set_option maxRecDepth 8000 in
theorem rquarter_any (w : World) (K k : Int) (Q q : Nat) (r : Bool) (hr : decide (q ≤ 2) = r) (hK : -9223372036854775808 ≤ K ∧ K ≤ 9223372036854775807) (hQ : Q ≤ 40) (h : Fm (tv K Q) k q) : Calls Tryz.prog 25 #[.agg #[.int .i64 K, .int .i64 (Q : Int)]] w (RetE w (.bool r)) := by
  have HF := Lib.hid (fun w' => rform_any w' K k Q q hK hQ h)
  have f1 := fld1 (.int .i64 k) (.int .i64 (q : Int))
  have hd : decide ((q : Int) ≤ 2) = r := by rw [← hr]; congr 1; simp; omega
  clear h hr hK hQ
  go_enter Tryz.func25, Tryz.ntmps25
  go_wp2_with fail
  refine (HF.out _).mono ?_
  rintro _ w1 ⟨rfl, e1⟩
  go_wp2
  go_ret
  refine ⟨?_, ((Ext.refl w).alloc _).trans e1⟩
  first | rfl | (rw [hd]) | (simp [hd])
set_option maxRecDepth 100000 in
set_option maxHeartbeats 4000000 in
theorem wide_no (w : World) (T0 : Tu w) (K Q n j : Int) (bK : -9223372036854775808 ≤ K ∧ K ≤ 9223372036854775807) (bQ : -9223372036854775808 ≤ Q ∧ Q ≤ 9223372036854775807) (hn : 0 ≤ n ∧ n ≤ 255) (hr : goodT K Q = false) :
    Calls Tryz.prog 4 #[.agg #[.int .i64 K, .int .i64 Q], .int .u8 n] w (RetE w (.bool true)) := by
  have T := T0.tb
  have P := T0.pl
  clear T0
  go_enter Tryz.func4, Tryz.ntmps4
  go_wp2_with fail
  refine (headC_any _ (T.ext ((Ext.refl w).alloc _)) (P.ext ((Ext.refl w).alloc _))).mono ?_
  rintro _ w1 ⟨rfl, f1⟩
  have Bt0 : B2 w1 (w.heap.size) (.int .i64 K) (.int .i64 Q) := B2.at ((Ext.refl _).trans f1) (by simp)
  have e1 : Ext w w1 := ((Ext.refl w).alloc _).trans f1
  replace T := T.ext e1
  replace P := P.ext e1
  have E1 : Ext w w1 := e1
  clear f1
  obtain ⟨Bt0_0, Bt0_1⟩ := _root_.id Bt0
  have Bt0_l := World.block_lt_of_cell? _ _ Bt0_0
  go_wp2_with fail
  refine (good1_any _ w1.heap.size K Q false hr bK bQ (B2.at (Ext.refl _) rfl)).mono ?_
  rintro _ w2 ⟨rfl, f2⟩
  clear Bt0_0 Bt0_1 Bt0_l
  have e2 : Ext w1 w2 := ((Ext.refl w1).alloc _).trans f2
  replace T := T.ext e2
  replace P := P.ext e2
  replace Bt0 := Bt0.ext e2
  have E2 : Ext w w2 := E1.trans e2
  clear e2 f2 E1
  go_wp2
  go_ret
  exact ⟨rfl, E2⟩
set_option maxRecDepth 100000 in
set_option maxHeartbeats 4000000 in
theorem wide_q (w : World) (T0 : Tu w) (K n j : Int) (Q N : Nat) (c1 c2 s1 s2 : Dyadic) (bK : -9223372036854775808 ≤ K ∧ K ≤ 9223372036854775807) (q14 : Q ≤ 14) (hr : goodT K (Q : Int) = true) (hn : 0 ≤ n ∧ n ≤ 255) (hj : n % 70 + 1 = j) (hN : j = (N : Int)) (N1 : 1 ≤ N) (N2 : N ≤ 70)
    (HC : Hid (∀ w', Tb w' → Pl w' → Calls Tryz.prog 14 #[.agg #[.int .i64 K, .int .i64 (Q : Int)], .int .i64 j] w' (RetI w' c1 c2)))
    (HS : Hid (∀ w', Tb w' → Pl w' → Calls Tryz.prog 16 #[.agg #[.int .i64 K, .int .i64 (Q : Int)], .int .i64 j] w' (RetI w' s1 s2)))
    (HQ : Hid (∀ w', Calls Tryz.prog 25 #[.agg #[.int .i64 K, .int .i64 (Q : Int)]] w' (RetE w' (.bool true))))
    (rc1 : Rg N 1 c1) (rc2 : Rg N 1 c2) (rs1 : Rg N 1 s1) (rs2 : Rg N 1 s2) (oc : c1 ≤ c2) (os : s1 ≤ s2) (uc1 : -1 ≤ c1) (uc2 : c2 ≤ 1) (us1 : -1 ≤ s1) (us2 : s2 ≤ 1) (z1 : c1 = c2) (z2 : s1 = s2) (z3 : c1 * c1 + s1 * s1 = 1) :
    Calls Tryz.prog 4 #[.agg #[.int .i64 K, .int .i64 (Q : Int)], .int .u8 n] w (RetE w (.bool true)) := by
  have bQ : -9223372036854775808 ≤ (Q : Int) ∧ (Q : Int) ≤ 9223372036854775807 := by omega
  obtain ⟨x1, hx1⟩ : ∃ x, cmpD c1 (-1) = x := ⟨_, rfl⟩
  obtain ⟨x2, hx2⟩ : ∃ x, cmpD c2 1 = x := ⟨_, rfl⟩
  obtain ⟨x3, hx3⟩ : ∃ x, cmpD s1 (-1) = x := ⟨_, rfl⟩
  obtain ⟨x4, hx4⟩ : ∃ x, cmpD s2 1 = x := ⟨_, rfl⟩
  have y1 : decide (x1 < 0) = false := decide_eq_false (by rw [← hx1]; intro h; have := (cmp_lt _ _).1 h; grind)
  have y2 : decide (0 < x2) = false := decide_eq_false (by have := (cmp_le c2 1).2 uc2; omega)
  have y3 : decide (x3 < 0) = false := decide_eq_false (by rw [← hx3]; intro h; have := (cmp_lt _ _).1 h; grind)
  have y4 : decide (0 < x4) = false := decide_eq_false (by have := (cmp_le s2 1).2 us2; omega)
  have HX := Lib.hid (And.intro (And.intro hx1 hx2) (And.intro hx3 hx4))
  have HY := Lib.hid (And.intro (And.intro y1 y2) (And.intro y3 y4))
  have r1 := rg_one N
  have HN := Lib.hid hN
  clear uc1 uc2 us1 us2 hx1 hx2 hx3 hx4 y1 y2 y3 y4 hN
  have T := T0.tb
  have P := T0.pl
  clear T0
  go_enter Tryz.func4, Tryz.ntmps4
  go_wp2_with fail
  refine (headC_any _ (T.ext ((Ext.refl w).alloc _)) (P.ext ((Ext.refl w).alloc _))).mono ?_
  rintro _ w1 ⟨rfl, f1⟩
  have Bt0 : B2 w1 (w.heap.size) (.int .i64 K) (.int .i64 (Q : Int)) := B2.at ((Ext.refl _).trans f1) (by simp)
  have e1 : Ext w w1 := ((Ext.refl w).alloc _).trans f1
  replace T := T.ext e1
  replace P := P.ext e1
  have E1 : Ext w w1 := e1
  clear f1
  obtain ⟨Bt0_0, Bt0_1⟩ := _root_.id Bt0
  have Bt0_l := World.block_lt_of_cell? _ _ Bt0_0
  go_wp2_with fail
  refine (good1_any _ w1.heap.size K (Q : Int) true hr bK bQ (B2.at (Ext.refl _) rfl)).mono ?_
  rintro _ w2 ⟨rfl, f2⟩
  clear Bt0_0 Bt0_1 Bt0_l
  have e2 : Ext w1 w2 := ((Ext.refl w1).alloc _).trans f2
  replace T := T.ext e2
  replace P := P.ext e2
  replace Bt0 := Bt0.ext e2
  have E2 : Ext w w2 := E1.trans e2
  clear e2 f2 E1
  go_wp2_with fail
  refine (bits_any _ n j hn hj).mono ?_
  rintro _ w3 ⟨rfl, f3⟩
  have e3 : Ext w2 w3 := (Ext.refl w2).trans f3
  replace T := T.ext e3
  replace P := P.ext e3
  replace Bt0 := Bt0.ext e3
  have E3 : Ext w w3 := E2.trans e3
  clear e3 f3 E2
  have hj1 : -1000 ≤ j ∧ j ≤ 1000 := by have := HN.out; omega
  clear hj hn hr bK bQ
  obtain ⟨Bt0_0, Bt0_1⟩ := _root_.id Bt0
  have Bt0_l := World.block_lt_of_cell? _ _ Bt0_0
  go_wp2_with fail
  refine (HC.out _ T P).mono ?_
  rintro _ w4 ⟨v4, rfl, ic, f4⟩
  clear Bt0_0 Bt0_1 Bt0_l
  have e4 : Ext w3 w4 := (Ext.refl w3).trans f4
  replace T := T.ext e4
  replace P := P.ext e4
  replace Bt0 := Bt0.ext e4
  have E4 : Ext w w4 := E3.trans e4
  clear e4 f4 E3
  obtain ⟨bic, Aic, lic, cic, jic, bic', Aic', lic', cic', jic', rfl, ic_l, ic_h⟩ := ic
  have ic := In.mk ic_l ic_h
  clear ic_l ic_h
  obtain ⟨Bt0_0, Bt0_1⟩ := _root_.id Bt0
  have Bt0_l := World.block_lt_of_cell? _ _ Bt0_0
  go_wp2_with fail
  refine (HS.out _ (T.ext ((Ext.refl w4).alloc _)) (P.ext ((Ext.refl w4).alloc _))).mono ?_
  rintro _ w5 ⟨v5, rfl, is, f5⟩
  clear Bt0_0 Bt0_1 Bt0_l
  have Vc : Bx w5 (w4.heap.size) (.bool bic) (.slice Aic lic cic) (.int .i64 jic) (.bool bic') (.slice Aic' lic' cic') (.int .i64 jic') := Bx.at ((Ext.refl _).trans f5) (by simp)
  have e5 : Ext w4 w5 := ((Ext.refl w4).alloc _).trans f5
  replace T := T.ext e5
  replace P := P.ext e5
  replace ic := ic.ext e5
  replace Bt0 := Bt0.ext e5
  have E5 : Ext w w5 := E4.trans e5
  clear e5 f5 E4
  obtain ⟨bis, Ais, lis, cis, jis, bis', Ais', lis', cis', jis', rfl, is_l, is_h⟩ := is
  have is := In.mk is_l is_h
  clear is_l is_h
  clear HC HS
  obtain ⟨Vc_0, Vc_1, Vc_2, Vc_3, Vc_4, Vc_5⟩ := _root_.id Vc
  have Vc_l := World.block_lt_of_cell? _ _ Vc_0
  go_upto_region 7 with fail
  have Vs : Bx (w5.alloc (.cells #[.bool bis, .slice Ais lis cis, .int .i64 jis, .bool bis', .slice Ais' lis' cis', .int .i64 jis'] 33)) w5.heap.size (.bool bis) (.slice Ais lis cis) (.int .i64 jis) (.bool bis') (.slice Ais' lis' cis') (.int .i64 jis') := Bx.at (Ext.refl _) rfl
  have eW7 : Ext w5 (w5.alloc (.cells #[.bool bis, .slice Ais lis cis, .int .i64 jis, .bool bis', .slice Ais' lis' cis', .int .i64 jis'] 33)) := (Ext.refl _).alloc _
  replace T := T.ext eW7
  replace P := P.ext eW7
  replace ic := ic.ext eW7
  replace is := is.ext eW7
  replace Bt0 := Bt0.ext eW7
  replace Vc := Vc.ext eW7
  have EW7 := E5.trans eW7
  clear Vc_0 Vc_1 Vc_2 Vc_3 Vc_4 Vc_5 Vc_l
  clear eW7 E5
  generalize hgen : (w5.alloc (.cells #[.bool bis, .slice Ais lis cis, .int .i64 jis, .bool bis', .slice Ais' lis' cis', .int .i64 jis'] 33)) = W7 at *
  clear hgen
  have k1 : ¬ jic < -j := by have := dn_exp ic.lo rc1; have := HN.out; omega
  have k2 : ¬ jis' < -j := by have := dn_exp is.hi rs2; have := HN.out; omega
  go_cut [62] from 11 (fun t W' => t = .bool false ∧ Ext W7 W')
  case first =>
    obtain ⟨Vc_0, Vc_1, Vc_2, Vc_3, Vc_4, Vc_5⟩ := _root_.id Vc
    have Vc_l := World.block_lt_of_cell? _ _ Vc_0
    go_wp2_with fail
    refine (riright_lit _ _ c1 c2 N 1 true (decide_eq_true oc) ic rc1 rc2 (by omega)).mono ?_
    rintro _ wa ⟨rfl, ea⟩
    clear Vc_0 Vc_1 Vc_2 Vc_3 Vc_4 Vc_5 Vc_l
    have Vs2 := Vs.ext ea
    obtain ⟨p0, p1, p2, p3, p4, p5⟩ := _root_.id Vs2
    go_wp2_with fail
    refine (riright_lit _ _ s1 s2 N 1 true (decide_eq_true os) (is.ext ea) rs1 rs2 (by omega)).mono ?_
    rintro _ wb ⟨rfl, eb⟩
    clear p0 p1 p2 p3 p4 p5
    have Vs3 := Vs2.ext eb
    have Vc3 := Vc.ext (ea.trans eb)
    obtain ⟨p0, p1, p2, p3, p4, p5⟩ := _root_.id Vs3
    obtain ⟨q0, q1, q2, q3, q4, q5⟩ := _root_.id Vc3
    have Eab := Lib.hid (ea.trans eb)
    clear ea eb Vs2 Vs3 Vc3
    rcases Nat.eq_zero_or_pos lic with g1 | g1 <;> rcases Nat.eq_zero_or_pos lis' with g2 | g2
    all_goals (first | (have h1 : ¬ (0 : Int) < (lic : Int) := by omega) | (have h1 : (0 : Int) < (lic : Int) := by omega))
    all_goals (first | (have h2 : ¬ (0 : Int) < (lis' : Int) := by omega) | (have h2 : (0 : Int) < (lis' : Int) := by omega))
    all_goals clear g1 g2
    all_goals (
      go_wp2
      go_meet
      case rel => exact ⟨by simp [k1, k2], Eab.out⟩)
  case rest =>
    obtain ⟨rfl, ec⟩ := hcut
    replace T := T.ext ec
    replace P := P.ext ec
    replace ic := ic.ext ec
    replace is := is.ext ec
    replace Bt0 := Bt0.ext ec
    replace Vc := Vc.ext ec
    replace Vs := Vs.ext ec
    have EC := EW7.trans ec
    clear ec k1 k2 EW7
    go_wp2_with fail
    refine (rof_lit _ 1 1 rfl (by omega)).mono ?_
    rintro _ w21 ⟨v21, rfl, no, f21⟩
    have e21 : Ext wc w21 := (Ext.refl wc).trans f21
    replace T := T.ext e21
    replace P := P.ext e21
    replace ic := ic.ext e21
    replace is := is.ext e21
    replace Bt0 := Bt0.ext e21
    replace Vc := Vc.ext e21
    replace Vs := Vs.ext e21
    have E21 : Ext w w21 := EC.trans e21
    clear e21 f21 EC
    obtain ⟨bno, Ano, lno, cno, jno, rfl⟩ := no.form
    obtain ⟨Vc_0, Vc_1, Vc_2, Vc_3, Vc_4, Vc_5⟩ := _root_.id Vc
    have Vc_l := World.block_lt_of_cell? _ _ Vc_0
    obtain ⟨Vs_0, Vs_1, Vs_2, Vs_3, Vs_4, Vs_5⟩ := _root_.id Vs
    have Vs_l := World.block_lt_of_cell? _ _ Vs_0
    go_upto_region 10 with fail
    have Vo : Box (w21.alloc (.cells #[.bool bno, .slice Ano lno cno, .int .i64 jno] 26)) w21.heap.size (.bool bno) (.slice Ano lno cno) (.int .i64 jno) := Box.at (Ext.refl _) rfl
    have eWA : Ext w21 (w21.alloc (.cells #[.bool bno, .slice Ano lno cno, .int .i64 jno] 26)) := (Ext.refl _).alloc _
    replace T := T.ext eWA
    replace P := P.ext eWA
    replace ic := ic.ext eWA
    replace is := is.ext eWA
    replace no := no.ext eWA
    replace Bt0 := Bt0.ext eWA
    replace Vc := Vc.ext eWA
    replace Vs := Vs.ext eWA
    have EWA := E21.trans eWA
    clear Vc_0 Vc_1 Vc_2 Vc_3 Vc_4 Vc_5 Vc_l Vs_0 Vs_1 Vs_2 Vs_3 Vs_4 Vs_5 Vs_l
    clear eWA E21
    generalize hgen : (w21.alloc (.cells #[.bool bno, .slice Ano lno cno, .int .i64 jno] 26)) = WA at *
    clear hgen
    obtain ⟨⟨y1, y2⟩, y3, y4⟩ := HY.out
    have hsp := HX.out
    obtain ⟨Vc_0, Vc_1, Vc_2, Vc_3, Vc_4, Vc_5⟩ := _root_.id Vc
    have Vc_l := World.block_lt_of_cell? _ _ Vc_0
    obtain ⟨Vs_0, Vs_1, Vs_2, Vs_3, Vs_4, Vs_5⟩ := _root_.id Vs
    have Vs_l := World.block_lt_of_cell? _ _ Vs_0
    obtain ⟨Vo_0, Vo_1, Vo_2⟩ := _root_.id Vo
    have Vo_l := World.block_lt_of_cell? _ _ Vo_0
    refine wp_region_held_drew (S := (fun w' => (w'.cell? ⟨w4.heap.size, 0, none⟩ = some (.bool bic) ∧ w'.cell? ⟨w4.heap.size, 1, none⟩ = some (.slice Aic lic cic) ∧ w'.cell? ⟨w4.heap.size, 2, none⟩ = some (.int .i64 jic) ∧ w'.cell? ⟨w4.heap.size, 3, none⟩ = some (.bool bic') ∧ w'.cell? ⟨w4.heap.size, 4, none⟩ = some (.slice Aic' lic' cic') ∧ w'.cell? ⟨w4.heap.size, 5, none⟩ = some (.int .i64 jic')) ∧ (w'.cell? ⟨w5.heap.size, 0, none⟩ = some (.bool bis) ∧ w'.cell? ⟨w5.heap.size, 1, none⟩ = some (.slice Ais lis cis) ∧ w'.cell? ⟨w5.heap.size, 2, none⟩ = some (.int .i64 jis) ∧ w'.cell? ⟨w5.heap.size, 3, none⟩ = some (.bool bis') ∧ w'.cell? ⟨w5.heap.size, 4, none⟩ = some (.slice Ais' lis' cis') ∧ w'.cell? ⟨w5.heap.size, 5, none⟩ = some (.int .i64 jis')) ∧ (w'.cell? ⟨w21.heap.size, 0, none⟩ = some (.bool bno) ∧ w'.cell? ⟨w21.heap.size, 1, none⟩ = some (.slice Ano lno cno) ∧ w'.cell? ⟨w21.heap.size, 2, none⟩ = some (.int .i64 jno)))) (by as_aux_lemma => kernel_rfl) ⟨bx6 (Vc.ext (Ext.refl WA).drew), bx6 (Vs.ext (Ext.refl WA).drew), box3 (Vo.ext (Ext.refl WA).drew)⟩ (fun hHeld => ?_)
    refine wpAnyH_take (i := 0) (v := ?_) rfl (by as_aux_lemma => kernel_rfl) (by as_aux_lemma => kernel_rfl) (by as_aux_lemma => kernel_rfl) (fun _ _ _ h => h) (Or.inl ⟨by rfl, ?_⟩) (by assumption) ?_
    rotate_left
    · (intro w hSw; (try dsimp only at hSw); go_simp); (try with_reducible rfl)
    simp only [List.getElem_toArray, List.getElem_cons_zero, Act.put, List.setIfInBounds_toArray, List.set_cons_zero, List.set_cons_succ]
    refine wpAnyH_take (i := 2) (v := ?_) rfl (by as_aux_lemma => kernel_rfl) (by as_aux_lemma => kernel_rfl) (by as_aux_lemma => kernel_rfl) (fun _ _ _ h => h) (Or.inl ⟨by rfl, ?_⟩) (by assumption) ?_
    rotate_left
    · (intro w hSw; (try dsimp only at hSw); go_simp); (try with_reducible rfl)
    simp only [List.getElem_toArray, List.getElem_cons_zero, List.getElem_cons_succ, Act.put, List.setIfInBounds_toArray, List.set_cons_zero, List.set_cons_succ]
    refine wpAnyH_take (i := 1) (v := ?_) rfl (by as_aux_lemma => kernel_rfl) (by as_aux_lemma => kernel_rfl) (by as_aux_lemma => kernel_rfl) (fun _ _ _ h => h) (Or.inl ⟨by rfl, ?_⟩) (by assumption) ?_
    rotate_left
    · (intro w hSw; (try dsimp only at hSw); go_simp); (try with_reducible rfl)
    simp only [List.getElem_toArray, List.getElem_cons_zero, List.getElem_cons_succ, Act.put, List.setIfInBounds_toArray, List.set_cons_zero, List.set_cons_succ]
    refine wpAnyH_ready (rs := [3]) (by as_aux_lemma => kernel_rfl) (by simp) ?_
    refine AllReadyH.cons rfl (fun K hK => ?_) AllReadyH.nil
    go_simp
    refine (rflip_any _ _ 1 (no.ext (Ext.refl WA).drew)).mono ?_
    rintro _ u1 ⟨vu1, rfl, mu1, eu1⟩
    have Fu1 : Ext WA u1 := (Ext.refl WA).drew.trans eu1
    refine hK.out _ _ ⟨bx6 (Vc.ext Fu1), bx6 (Vs.ext Fu1), box3 (Vo.ext Fu1)⟩ (fun hHeld => ?_)
    clear hK K eu1
    refine wpAnyH_ready (rs := [4]) (by as_aux_lemma => kernel_rfl) (by simp) ?_
    refine AllReadyH.cons rfl (fun K hK => ?_) AllReadyH.nil
    go_simp
    refine (rcmp_lit _ _ _ c1 (-1) N 1 x1 hsp.1.1 (ic.lo.ext Fu1) mu1 rc1 r1.neg (by omega)).mono ?_
    rintro _ u2 ⟨rfl, eu2⟩
    have Fu2 : Ext WA u2 := Fu1.trans eu2
    replace mu1 := mu1.ext eu2
    refine hK.out _ _ ⟨bx6 (Vc.ext Fu2), bx6 (Vs.ext Fu2), box3 (Vo.ext Fu2)⟩ (fun hHeld => ?_)
    clear hK K eu2 Fu1
    refine wpAnyH_take (i := 5) (v := ?_) rfl (by as_aux_lemma => kernel_rfl) (by as_aux_lemma => kernel_rfl) (by as_aux_lemma => kernel_rfl) (fun _ _ _ h => h) (Or.inl ⟨by rfl, ?_⟩) (by assumption) ?_
    rotate_left
    · (intro w hSw; (try dsimp only at hSw); go_simp); (try with_reducible rfl)
    simp only [List.getElem_toArray, List.getElem_cons_zero, List.getElem_cons_succ, Act.put, List.setIfInBounds_toArray, List.set_cons_zero, List.set_cons_succ]
    refine wpAnyH_take (i := 6) (v := ?_) rfl (by as_aux_lemma => kernel_rfl) (by as_aux_lemma => kernel_rfl) (by as_aux_lemma => kernel_rfl) (fun _ _ _ h => h) (Or.inl ⟨by rfl, ?_⟩) (by assumption) ?_
    rotate_left
    · (intro w hSw; (try dsimp only at hSw); go_simp); (try with_reducible rfl)
    simp only [List.getElem_toArray, List.getElem_cons_zero, List.getElem_cons_succ, Act.put, List.setIfInBounds_toArray, List.set_cons_zero, List.set_cons_succ]
    refine wpAnyH_take (i := 7) (v := ?_) rfl (by as_aux_lemma => kernel_rfl) (by as_aux_lemma => kernel_rfl) (by as_aux_lemma => kernel_rfl) (fun _ _ _ h => h) (Or.inl ⟨by rfl, ?_⟩) (by assumption) ?_
    rotate_left
    · (intro w hSw; (try dsimp only at hSw); go_simp); (try with_reducible rfl)
    simp only [List.getElem_toArray, List.getElem_cons_zero, List.getElem_cons_succ, Act.put, List.setIfInBounds_toArray, List.set_cons_zero, List.set_cons_succ]
    refine wpAnyH_take (i := 9) (v := ?_) rfl (by as_aux_lemma => kernel_rfl) (by as_aux_lemma => kernel_rfl) (by as_aux_lemma => kernel_rfl) (fun _ _ _ h => h) (Or.inl ⟨by rfl, ?_⟩) (by assumption) ?_
    rotate_left
    · (intro w hSw; (try dsimp only at hSw); go_simp); (try with_reducible rfl)
    simp only [List.getElem_toArray, List.getElem_cons_zero, List.getElem_cons_succ, Act.put, List.setIfInBounds_toArray, List.set_cons_zero, List.set_cons_succ]
    refine wpAnyH_take (i := 8) (v := ?_) rfl (by as_aux_lemma => kernel_rfl) (by as_aux_lemma => kernel_rfl) (by as_aux_lemma => kernel_rfl) (fun _ _ _ h => h) (Or.inl ⟨by rfl, ?_⟩) (by assumption) ?_
    rotate_left
    · (intro w hSw; (try dsimp only at hSw); go_simp); (try with_reducible rfl)
    simp only [List.getElem_toArray, List.getElem_cons_zero, List.getElem_cons_succ, Act.put, List.setIfInBounds_toArray, List.set_cons_zero, List.set_cons_succ]
    refine wpAnyH_ready (rs := [10]) (by as_aux_lemma => kernel_rfl) (by simp) ?_
    refine AllReadyH.cons rfl (fun K hK => ?_) AllReadyH.nil
    go_simp
    refine (rcmp_lit _ _ _ c2 1 N 1 x2 hsp.1.2 (ic.hi.ext Fu2) (no.ext Fu2) rc2 r1 (by omega)).mono ?_
    rintro _ u3 ⟨rfl, eu3⟩
    have Fu3 : Ext WA u3 := Fu2.trans eu3
    refine hK.out _ _ ⟨bx6 (Vc.ext Fu3), bx6 (Vs.ext Fu3), box3 (Vo.ext Fu3)⟩ (fun hHeld => ?_)
    clear hK K eu3 Fu2 mu1
    refine wpAnyH_take (i := 11) (v := ?_) rfl (by as_aux_lemma => kernel_rfl) (by as_aux_lemma => kernel_rfl) (by as_aux_lemma => kernel_rfl) (fun _ _ _ h => h) (Or.inl ⟨by rfl, ?_⟩) (by assumption) ?_
    rotate_left
    · (intro w hSw; (try dsimp only at hSw); go_simp); (try with_reducible rfl)
    simp only [List.getElem_toArray, List.getElem_cons_zero, List.getElem_cons_succ, Act.put, List.setIfInBounds_toArray, List.set_cons_zero, List.set_cons_succ]
    refine wpAnyH_take (i := 12) (v := ?_) rfl (by as_aux_lemma => kernel_rfl) (by as_aux_lemma => kernel_rfl) (by as_aux_lemma => kernel_rfl) (fun _ _ _ h => h) (Or.inl ⟨by rfl, ?_⟩) (by assumption) ?_
    rotate_left
    · (intro w hSw; (try dsimp only at hSw); go_simp); (try with_reducible rfl)
    simp only [List.getElem_toArray, List.getElem_cons_zero, List.getElem_cons_succ, Act.put, List.setIfInBounds_toArray, List.set_cons_zero, List.set_cons_succ]
    refine wpAnyH_take (i := 13) (v := ?_) rfl (by as_aux_lemma => kernel_rfl) (by as_aux_lemma => kernel_rfl) (by as_aux_lemma => kernel_rfl) (fun _ _ _ h => h) (Or.inl ⟨by rfl, ?_⟩) (by assumption) ?_
    rotate_left
    · (intro w hSw; (try dsimp only at hSw); go_simp); (try with_reducible rfl)
    simp only [List.getElem_toArray, List.getElem_cons_zero, List.getElem_cons_succ, Act.put, List.setIfInBounds_toArray, List.set_cons_zero, List.set_cons_succ]
    refine wpAnyH_take (i := 14) (v := ?_) rfl (by as_aux_lemma => kernel_rfl) (by as_aux_lemma => kernel_rfl) (by as_aux_lemma => kernel_rfl) (fun _ _ _ h => h) (Or.inl ⟨by rfl, ?_⟩) (by assumption) ?_
    rotate_left
    · (intro w hSw; (try dsimp only at hSw); go_simp); (try with_reducible rfl)
    simp only [List.getElem_toArray, List.getElem_cons_zero, List.getElem_cons_succ, Act.put, List.setIfInBounds_toArray, List.set_cons_zero, List.set_cons_succ]
    refine wpAnyH_take (i := 16) (v := ?_) rfl (by as_aux_lemma => kernel_rfl) (by as_aux_lemma => kernel_rfl) (by as_aux_lemma => kernel_rfl) (fun _ _ _ h => h) (Or.inl ⟨by rfl, ?_⟩) (by assumption) ?_
    rotate_left
    · (intro w hSw; (try dsimp only at hSw); go_simp); (try with_reducible rfl)
    simp only [List.getElem_toArray, List.getElem_cons_zero, List.getElem_cons_succ, Act.put, List.setIfInBounds_toArray, List.set_cons_zero, List.set_cons_succ]
    refine wpAnyH_take (i := 15) (v := ?_) rfl (by as_aux_lemma => kernel_rfl) (by as_aux_lemma => kernel_rfl) (by as_aux_lemma => kernel_rfl) (fun _ _ _ h => h) (Or.inl ⟨by rfl, ?_⟩) (by assumption) ?_
    rotate_left
    · (intro w hSw; (try dsimp only at hSw); go_simp); (try with_reducible rfl)
    simp only [List.getElem_toArray, List.getElem_cons_zero, List.getElem_cons_succ, Act.put, List.setIfInBounds_toArray, List.set_cons_zero, List.set_cons_succ]
    refine wpAnyH_ready (rs := [17]) (by as_aux_lemma => kernel_rfl) (by simp) ?_
    refine AllReadyH.cons rfl (fun K hK => ?_) AllReadyH.nil
    go_simp
    refine (rflip_any _ _ 1 (no.ext Fu3)).mono ?_
    rintro _ u4 ⟨vu4, rfl, mu4, eu4⟩
    have Fu4 : Ext WA u4 := Fu3.trans eu4
    refine hK.out _ _ ⟨bx6 (Vc.ext Fu4), bx6 (Vs.ext Fu4), box3 (Vo.ext Fu4)⟩ (fun hHeld => ?_)
    clear hK K eu4 Fu3
    refine wpAnyH_ready (rs := [18]) (by as_aux_lemma => kernel_rfl) (by simp) ?_
    refine AllReadyH.cons rfl (fun K hK => ?_) AllReadyH.nil
    go_simp
    refine (rcmp_lit _ _ _ s1 (-1) N 1 x3 hsp.2.1 (is.lo.ext Fu4) mu4 rs1 r1.neg (by omega)).mono ?_
    rintro _ u5 ⟨rfl, eu5⟩
    have Fu5 : Ext WA u5 := Fu4.trans eu5
    replace mu4 := mu4.ext eu5
    refine hK.out _ _ ⟨bx6 (Vc.ext Fu5), bx6 (Vs.ext Fu5), box3 (Vo.ext Fu5)⟩ (fun hHeld => ?_)
    clear hK K eu5 Fu4
    refine wpAnyH_take (i := 19) (v := ?_) rfl (by as_aux_lemma => kernel_rfl) (by as_aux_lemma => kernel_rfl) (by as_aux_lemma => kernel_rfl) (fun _ _ _ h => h) (Or.inl ⟨by rfl, ?_⟩) (by assumption) ?_
    rotate_left
    · (intro w hSw; (try dsimp only at hSw); go_simp); (try with_reducible rfl)
    simp only [List.getElem_toArray, List.getElem_cons_zero, List.getElem_cons_succ, Act.put, List.setIfInBounds_toArray, List.set_cons_zero, List.set_cons_succ]
    refine wpAnyH_take (i := 20) (v := ?_) rfl (by as_aux_lemma => kernel_rfl) (by as_aux_lemma => kernel_rfl) (by as_aux_lemma => kernel_rfl) (fun _ _ _ h => h) (Or.inl ⟨by rfl, ?_⟩) (by assumption) ?_
    rotate_left
    · (intro w hSw; (try dsimp only at hSw); go_simp); (try with_reducible rfl)
    simp only [List.getElem_toArray, List.getElem_cons_zero, List.getElem_cons_succ, Act.put, List.setIfInBounds_toArray, List.set_cons_zero, List.set_cons_succ]
    refine wpAnyH_take (i := 21) (v := ?_) rfl (by as_aux_lemma => kernel_rfl) (by as_aux_lemma => kernel_rfl) (by as_aux_lemma => kernel_rfl) (fun _ _ _ h => h) (Or.inl ⟨by rfl, ?_⟩) (by assumption) ?_
    rotate_left
    · (intro w hSw; (try dsimp only at hSw); go_simp); (try with_reducible rfl)
    simp only [List.getElem_toArray, List.getElem_cons_zero, List.getElem_cons_succ, Act.put, List.setIfInBounds_toArray, List.set_cons_zero, List.set_cons_succ]
    refine wpAnyH_take (i := 22) (v := ?_) rfl (by as_aux_lemma => kernel_rfl) (by as_aux_lemma => kernel_rfl) (by as_aux_lemma => kernel_rfl) (fun _ _ _ h => h) (Or.inl ⟨by rfl, ?_⟩) (by assumption) ?_
    rotate_left
    · (intro w hSw; (try dsimp only at hSw); go_simp); (try with_reducible rfl)
    simp only [List.getElem_toArray, List.getElem_cons_zero, List.getElem_cons_succ, Act.put, List.setIfInBounds_toArray, List.set_cons_zero, List.set_cons_succ]
    refine wpAnyH_take (i := 24) (v := ?_) rfl (by as_aux_lemma => kernel_rfl) (by as_aux_lemma => kernel_rfl) (by as_aux_lemma => kernel_rfl) (fun _ _ _ h => h) (Or.inl ⟨by rfl, ?_⟩) (by assumption) ?_
    rotate_left
    · (intro w hSw; (try dsimp only at hSw); go_simp); (try with_reducible rfl)
    simp only [List.getElem_toArray, List.getElem_cons_zero, List.getElem_cons_succ, Act.put, List.setIfInBounds_toArray, List.set_cons_zero, List.set_cons_succ]
    refine wpAnyH_take (i := 23) (v := ?_) rfl (by as_aux_lemma => kernel_rfl) (by as_aux_lemma => kernel_rfl) (by as_aux_lemma => kernel_rfl) (fun _ _ _ h => h) (Or.inl ⟨by rfl, ?_⟩) (by assumption) ?_
    rotate_left
    · (intro w hSw; (try dsimp only at hSw); go_simp); (try with_reducible rfl)
    simp only [List.getElem_toArray, List.getElem_cons_zero, List.getElem_cons_succ, Act.put, List.setIfInBounds_toArray, List.set_cons_zero, List.set_cons_succ]
    refine wpAnyH_ready (rs := [25]) (by as_aux_lemma => kernel_rfl) (by simp) ?_
    refine AllReadyH.cons rfl (fun K hK => ?_) AllReadyH.nil
    go_simp
    refine (rcmp_lit _ _ _ s2 1 N 1 x4 hsp.2.2 (is.hi.ext Fu5) (no.ext Fu5) rs2 r1 (by omega)).mono ?_
    rintro _ u6 ⟨rfl, eu6⟩
    have Fu6 : Ext WA u6 := Fu5.trans eu6
    refine hK.out _ _ ⟨bx6 (Vc.ext Fu6), bx6 (Vs.ext Fu6), box3 (Vo.ext Fu6)⟩ (fun hHeld => ?_)
    clear hK K eu6 Fu5 mu4
    refine wpAnyH_take (i := 26) (v := ?_) rfl (by as_aux_lemma => kernel_rfl) (by as_aux_lemma => kernel_rfl) (by as_aux_lemma => kernel_rfl) (fun _ _ _ h => h) (Or.inl ⟨by rfl, ?_⟩) (by assumption) ?_
    rotate_left
    · (intro w hSw; (try dsimp only at hSw); go_simp); (try with_reducible rfl)
    simp only [List.getElem_toArray, List.getElem_cons_zero, List.getElem_cons_succ, Act.put, List.setIfInBounds_toArray, List.set_cons_zero, List.set_cons_succ]
    refine wpAnyH_take (i := 27) (v := ?_) rfl (by as_aux_lemma => kernel_rfl) (by as_aux_lemma => kernel_rfl) (by as_aux_lemma => kernel_rfl) (fun _ _ _ h => h) (Or.inl ⟨by rfl, ?_⟩) (by assumption) ?_
    rotate_left
    · (intro w hSw; (try dsimp only at hSw); go_simp); (try with_reducible rfl)
    simp only [List.getElem_toArray, List.getElem_cons_zero, List.getElem_cons_succ, Act.put, List.setIfInBounds_toArray, List.set_cons_zero, List.set_cons_succ]
    refine wpAnyH_done (by as_aux_lemma => kernel_rfl) ?_ _
    clear y1 y2 y3 y4 hsp Vc_0 Vc_1 Vc_2 Vc_3 Vc_4 Vc_5 Vc_l Vs_0 Vs_1 Vs_2 Vs_3 Vs_4 Vs_5 Vs_l Vo_0 Vo_1 Vo_2 Vo_l
    replace T := T.ext Fu6
    replace P := P.ext Fu6
    replace ic := ic.ext Fu6
    replace is := is.ext Fu6
    replace no := no.ext Fu6
    replace Bt0 := Bt0.ext Fu6
    replace Vc := Vc.ext Fu6
    replace Vs := Vs.ext Fu6
    replace Vo := Vo.ext Fu6
    have EB := EWA.trans Fu6
    clear Fu6 hHeld EWA
    obtain ⟨Bt0_0, Bt0_1⟩ := _root_.id Bt0
    have Bt0_l := World.block_lt_of_cell? _ _ Bt0_0
    go_wp2_with fail
    refine (HQ.out _).mono ?_
    rintro _ w22 ⟨rfl, f22⟩
    clear Bt0_0 Bt0_1 Bt0_l
    have e22 : Ext u6 w22 := (Ext.refl u6).trans f22
    replace T := T.ext e22
    replace P := P.ext e22
    replace ic := ic.ext e22
    replace is := is.ext e22
    replace no := no.ext e22
    replace Bt0 := Bt0.ext e22
    replace Vc := Vc.ext e22
    replace Vs := Vs.ext e22
    replace Vo := Vo.ext e22
    have E22 : Ext w w22 := EB.trans e22
    clear e22 f22 EB
    obtain ⟨Vc_0, Vc_1, Vc_2, Vc_3, Vc_4, Vc_5⟩ := _root_.id Vc
    have Vc_l := World.block_lt_of_cell? _ _ Vc_0
    obtain ⟨Vs_0, Vs_1, Vs_2, Vs_3, Vs_4, Vs_5⟩ := _root_.id Vs
    have Vs_l := World.block_lt_of_cell? _ _ Vs_0
    obtain ⟨Vo_0, Vo_1, Vo_2⟩ := _root_.id Vo
    have Vo_l := World.block_lt_of_cell? _ _ Vo_0
    go_upto_region 13 with fail
    refine wp_region_held_drew (S := (fun w' => (w'.cell? ⟨w4.heap.size, 0, none⟩ = some (.bool bic) ∧ w'.cell? ⟨w4.heap.size, 1, none⟩ = some (.slice Aic lic cic) ∧ w'.cell? ⟨w4.heap.size, 2, none⟩ = some (.int .i64 jic) ∧ w'.cell? ⟨w4.heap.size, 3, none⟩ = some (.bool bic') ∧ w'.cell? ⟨w4.heap.size, 4, none⟩ = some (.slice Aic' lic' cic') ∧ w'.cell? ⟨w4.heap.size, 5, none⟩ = some (.int .i64 jic')) ∧ (w'.cell? ⟨w5.heap.size, 0, none⟩ = some (.bool bis) ∧ w'.cell? ⟨w5.heap.size, 1, none⟩ = some (.slice Ais lis cis) ∧ w'.cell? ⟨w5.heap.size, 2, none⟩ = some (.int .i64 jis) ∧ w'.cell? ⟨w5.heap.size, 3, none⟩ = some (.bool bis') ∧ w'.cell? ⟨w5.heap.size, 4, none⟩ = some (.slice Ais' lis' cis') ∧ w'.cell? ⟨w5.heap.size, 5, none⟩ = some (.int .i64 jis')) ∧ (w'.cell? ⟨w21.heap.size, 0, none⟩ = some (.bool bno) ∧ w'.cell? ⟨w21.heap.size, 1, none⟩ = some (.slice Ano lno cno) ∧ w'.cell? ⟨w21.heap.size, 2, none⟩ = some (.int .i64 jno)))) (by as_aux_lemma => kernel_rfl) ⟨bx6 (Vc.ext (Ext.refl w22).drew), bx6 (Vs.ext (Ext.refl w22).drew), box3 (Vo.ext (Ext.refl w22).drew)⟩ (fun hHeld => ?_)
    refine wpAnyH_take (i := 0) (v := ?_) rfl (by as_aux_lemma => kernel_rfl) (by as_aux_lemma => kernel_rfl) (by as_aux_lemma => kernel_rfl) (fun _ _ _ h => h) (Or.inl ⟨by rfl, ?_⟩) (by assumption) ?_
    rotate_left
    · (intro w hSw; (try dsimp only at hSw); go_simp); (try with_reducible rfl)
    simp only [List.getElem_toArray, List.getElem_cons_zero, Act.put, List.setIfInBounds_toArray, List.set_cons_zero, List.set_cons_succ]
    refine wpAnyH_take (i := 1) (v := ?_) rfl (by as_aux_lemma => kernel_rfl) (by as_aux_lemma => kernel_rfl) (by as_aux_lemma => kernel_rfl) (fun _ _ _ h => h) (Or.inl ⟨by rfl, ?_⟩) (by assumption) ?_
    rotate_left
    · (intro w hSw; (try dsimp only at hSw); go_simp); (try with_reducible rfl)
    simp only [List.getElem_toArray, List.getElem_cons_zero, List.getElem_cons_succ, Act.put, List.setIfInBounds_toArray, List.set_cons_zero, List.set_cons_succ]
    refine wpAnyH_take (i := 2) (v := ?_) rfl (by as_aux_lemma => kernel_rfl) (by as_aux_lemma => kernel_rfl) (by as_aux_lemma => kernel_rfl) (fun _ _ _ h => h) (Or.inl ⟨by rfl, ?_⟩) (by assumption) ?_
    rotate_left
    · (intro w hSw; (try dsimp only at hSw); go_simp); (try with_reducible rfl)
    simp only [List.getElem_toArray, List.getElem_cons_zero, List.getElem_cons_succ, Act.put, List.setIfInBounds_toArray, List.set_cons_zero, List.set_cons_succ]
    refine wpAnyH_take (i := 4) (v := ?_) rfl (by as_aux_lemma => kernel_rfl) (by as_aux_lemma => kernel_rfl) (by as_aux_lemma => kernel_rfl) (fun _ _ _ h => h) (Or.inl ⟨by rfl, ?_⟩) (by assumption) ?_
    rotate_left
    · (intro w hSw; (try dsimp only at hSw); go_simp); (try with_reducible rfl)
    simp only [List.getElem_toArray, List.getElem_cons_zero, List.getElem_cons_succ, Act.put, List.setIfInBounds_toArray, List.set_cons_zero, List.set_cons_succ]
    refine wpAnyH_take (i := 3) (v := ?_) rfl (by as_aux_lemma => kernel_rfl) (by as_aux_lemma => kernel_rfl) (by as_aux_lemma => kernel_rfl) (fun _ _ _ h => h) (Or.inl ⟨by rfl, ?_⟩) (by assumption) ?_
    rotate_left
    · (intro w hSw; (try dsimp only at hSw); go_simp); (try with_reducible rfl)
    simp only [List.getElem_toArray, List.getElem_cons_zero, List.getElem_cons_succ, Act.put, List.setIfInBounds_toArray, List.set_cons_zero, List.set_cons_succ]
    refine wpAnyH_take (i := 5) (v := ?_) rfl (by as_aux_lemma => kernel_rfl) (by as_aux_lemma => kernel_rfl) (by as_aux_lemma => kernel_rfl) (fun _ _ _ h => h) (Or.inl ⟨by rfl, ?_⟩) (by assumption) ?_
    rotate_left
    · (intro w hSw; (try dsimp only at hSw); go_simp); (try with_reducible rfl)
    simp only [List.getElem_toArray, List.getElem_cons_zero, List.getElem_cons_succ, Act.put, List.setIfInBounds_toArray, List.set_cons_zero, List.set_cons_succ]
    refine wpAnyH_ready (rs := [6]) (by as_aux_lemma => kernel_rfl) (by simp) ?_
    refine AllReadyH.cons rfl (fun K hK => ?_) AllReadyH.nil
    go_simp
    refine (rsame_lit7 _ _ _ c1 c2 z1 (ic.lo.ext (Ext.refl w22).drew) (ic.hi.ext (Ext.refl w22).drew)).mono ?_
    rintro _ x1 ⟨rfl, ex1⟩
    have Fx1 : Ext w22 x1 := (Ext.refl w22).drew.trans ex1
    refine hK.out _ _ ⟨bx6 (Vc.ext Fx1), bx6 (Vs.ext Fx1), box3 (Vo.ext Fx1)⟩ (fun hHeld => ?_)
    clear hK K ex1
    refine wpAnyH_take (i := 7) (v := ?_) rfl (by as_aux_lemma => kernel_rfl) (by as_aux_lemma => kernel_rfl) (by as_aux_lemma => kernel_rfl) (fun _ _ _ h => h) (Or.inl ⟨by rfl, ?_⟩) (by assumption) ?_
    rotate_left
    · (intro w hSw; (try dsimp only at hSw); go_simp); (try with_reducible rfl)
    simp only [List.getElem_toArray, List.getElem_cons_zero, List.getElem_cons_succ, Act.put, List.setIfInBounds_toArray, List.set_cons_zero, List.set_cons_succ]
    refine wpAnyH_take (i := 8) (v := ?_) rfl (by as_aux_lemma => kernel_rfl) (by as_aux_lemma => kernel_rfl) (by as_aux_lemma => kernel_rfl) (fun _ _ _ h => h) (Or.inl ⟨by rfl, ?_⟩) (by assumption) ?_
    rotate_left
    · (intro w hSw; (try dsimp only at hSw); go_simp); (try with_reducible rfl)
    simp only [List.getElem_toArray, List.getElem_cons_zero, List.getElem_cons_succ, Act.put, List.setIfInBounds_toArray, List.set_cons_zero, List.set_cons_succ]
    refine wpAnyH_take (i := 9) (v := ?_) rfl (by as_aux_lemma => kernel_rfl) (by as_aux_lemma => kernel_rfl) (by as_aux_lemma => kernel_rfl) (fun _ _ _ h => h) (Or.inl ⟨by rfl, ?_⟩) (by assumption) ?_
    rotate_left
    · (intro w hSw; (try dsimp only at hSw); go_simp); (try with_reducible rfl)
    simp only [List.getElem_toArray, List.getElem_cons_zero, List.getElem_cons_succ, Act.put, List.setIfInBounds_toArray, List.set_cons_zero, List.set_cons_succ]
    refine wpAnyH_take (i := 11) (v := ?_) rfl (by as_aux_lemma => kernel_rfl) (by as_aux_lemma => kernel_rfl) (by as_aux_lemma => kernel_rfl) (fun _ _ _ h => h) (Or.inl ⟨by rfl, ?_⟩) (by assumption) ?_
    rotate_left
    · (intro w hSw; (try dsimp only at hSw); go_simp); (try with_reducible rfl)
    simp only [List.getElem_toArray, List.getElem_cons_zero, List.getElem_cons_succ, Act.put, List.setIfInBounds_toArray, List.set_cons_zero, List.set_cons_succ]
    refine wpAnyH_take (i := 10) (v := ?_) rfl (by as_aux_lemma => kernel_rfl) (by as_aux_lemma => kernel_rfl) (by as_aux_lemma => kernel_rfl) (fun _ _ _ h => h) (Or.inl ⟨by rfl, ?_⟩) (by assumption) ?_
    rotate_left
    · (intro w hSw; (try dsimp only at hSw); go_simp); (try with_reducible rfl)
    simp only [List.getElem_toArray, List.getElem_cons_zero, List.getElem_cons_succ, Act.put, List.setIfInBounds_toArray, List.set_cons_zero, List.set_cons_succ]
    refine wpAnyH_take (i := 12) (v := ?_) rfl (by as_aux_lemma => kernel_rfl) (by as_aux_lemma => kernel_rfl) (by as_aux_lemma => kernel_rfl) (fun _ _ _ h => h) (Or.inl ⟨by rfl, ?_⟩) (by assumption) ?_
    rotate_left
    · (intro w hSw; (try dsimp only at hSw); go_simp); (try with_reducible rfl)
    simp only [List.getElem_toArray, List.getElem_cons_zero, List.getElem_cons_succ, Act.put, List.setIfInBounds_toArray, List.set_cons_zero, List.set_cons_succ]
    refine wpAnyH_ready (rs := [13]) (by as_aux_lemma => kernel_rfl) (by simp) ?_
    refine AllReadyH.cons rfl (fun K hK => ?_) AllReadyH.nil
    go_simp
    refine (rsame_lit7 _ _ _ s1 s2 z2 (is.lo.ext Fx1) (is.hi.ext Fx1)).mono ?_
    rintro _ x2 ⟨rfl, ex2⟩
    have Fx2 : Ext w22 x2 := Fx1.trans ex2
    refine hK.out _ _ ⟨bx6 (Vc.ext Fx2), bx6 (Vs.ext Fx2), box3 (Vo.ext Fx2)⟩ (fun hHeld => ?_)
    clear hK K ex2 Fx1
    refine wpAnyH_take (i := 14) (v := ?_) rfl (by as_aux_lemma => kernel_rfl) (by as_aux_lemma => kernel_rfl) (by as_aux_lemma => kernel_rfl) (fun _ _ _ h => h) (Or.inl ⟨by rfl, ?_⟩) (by assumption) ?_
    rotate_left
    · (intro w hSw; (try dsimp only at hSw); go_simp); (try with_reducible rfl)
    simp only [List.getElem_toArray, List.getElem_cons_zero, List.getElem_cons_succ, Act.put, List.setIfInBounds_toArray, List.set_cons_zero, List.set_cons_succ]
    refine wpAnyH_take (i := 15) (v := ?_) rfl (by as_aux_lemma => kernel_rfl) (by as_aux_lemma => kernel_rfl) (by as_aux_lemma => kernel_rfl) (fun _ _ _ h => h) (Or.inl ⟨by rfl, ?_⟩) (by assumption) ?_
    rotate_left
    · (intro w hSw; (try dsimp only at hSw); go_simp); (try with_reducible rfl)
    simp only [List.getElem_toArray, List.getElem_cons_zero, List.getElem_cons_succ, Act.put, List.setIfInBounds_toArray, List.set_cons_zero, List.set_cons_succ]
    refine wpAnyH_take (i := 16) (v := ?_) rfl (by as_aux_lemma => kernel_rfl) (by as_aux_lemma => kernel_rfl) (by as_aux_lemma => kernel_rfl) (fun _ _ _ h => h) (Or.inl ⟨by rfl, ?_⟩) (by assumption) ?_
    rotate_left
    · (intro w hSw; (try dsimp only at hSw); go_simp); (try with_reducible rfl)
    simp only [List.getElem_toArray, List.getElem_cons_zero, List.getElem_cons_succ, Act.put, List.setIfInBounds_toArray, List.set_cons_zero, List.set_cons_succ]
    refine wpAnyH_take (i := 18) (v := ?_) rfl (by as_aux_lemma => kernel_rfl) (by as_aux_lemma => kernel_rfl) (by as_aux_lemma => kernel_rfl) (fun _ _ _ h => h) (Or.inl ⟨by rfl, ?_⟩) (by assumption) ?_
    rotate_left
    · (intro w hSw; (try dsimp only at hSw); go_simp); (try with_reducible rfl)
    simp only [List.getElem_toArray, List.getElem_cons_zero, List.getElem_cons_succ, Act.put, List.setIfInBounds_toArray, List.set_cons_zero, List.set_cons_succ]
    refine wpAnyH_take (i := 21) (v := ?_) rfl (by as_aux_lemma => kernel_rfl) (by as_aux_lemma => kernel_rfl) (by as_aux_lemma => kernel_rfl) (fun _ _ _ h => h) (Or.inl ⟨by rfl, ?_⟩) (by assumption) ?_
    rotate_left
    · (intro w hSw; (try dsimp only at hSw); go_simp); (try with_reducible rfl)
    simp only [List.getElem_toArray, List.getElem_cons_zero, List.getElem_cons_succ, Act.put, List.setIfInBounds_toArray, List.set_cons_zero, List.set_cons_succ]
    refine wpAnyH_take (i := 23) (v := ?_) rfl (by as_aux_lemma => kernel_rfl) (by as_aux_lemma => kernel_rfl) (by as_aux_lemma => kernel_rfl) (fun _ _ _ h => h) (Or.inl ⟨by rfl, ?_⟩) (by assumption) ?_
    rotate_left
    · (intro w hSw; (try dsimp only at hSw); go_simp); (try with_reducible rfl)
    simp only [List.getElem_toArray, List.getElem_cons_zero, List.getElem_cons_succ, Act.put, List.setIfInBounds_toArray, List.set_cons_zero, List.set_cons_succ]
    refine wpAnyH_take (i := 27) (v := ?_) rfl (by as_aux_lemma => kernel_rfl) (by as_aux_lemma => kernel_rfl) (by as_aux_lemma => kernel_rfl) (fun _ _ _ h => h) (Or.inl ⟨by rfl, ?_⟩) (by assumption) ?_
    rotate_left
    · (intro w hSw; (try dsimp only at hSw); go_simp); (try with_reducible rfl)
    simp only [List.getElem_toArray, List.getElem_cons_zero, List.getElem_cons_succ, Act.put, List.setIfInBounds_toArray, List.set_cons_zero, List.set_cons_succ]
    refine wpAnyH_take (i := 17) (v := ?_) rfl (by as_aux_lemma => kernel_rfl) (by as_aux_lemma => kernel_rfl) (by as_aux_lemma => kernel_rfl) (fun _ _ _ h => h) (Or.inl ⟨by rfl, ?_⟩) (by assumption) ?_
    rotate_left
    · (intro w hSw; (try dsimp only at hSw); go_simp); (try with_reducible rfl)
    simp only [List.getElem_toArray, List.getElem_cons_zero, List.getElem_cons_succ, Act.put, List.setIfInBounds_toArray, List.set_cons_zero, List.set_cons_succ]
    refine wpAnyH_take (i := 19) (v := ?_) rfl (by as_aux_lemma => kernel_rfl) (by as_aux_lemma => kernel_rfl) (by as_aux_lemma => kernel_rfl) (fun _ _ _ h => h) (Or.inl ⟨by rfl, ?_⟩) (by assumption) ?_
    rotate_left
    · (intro w hSw; (try dsimp only at hSw); go_simp); (try with_reducible rfl)
    simp only [List.getElem_toArray, List.getElem_cons_zero, List.getElem_cons_succ, Act.put, List.setIfInBounds_toArray, List.set_cons_zero, List.set_cons_succ]
    refine wpAnyH_take (i := 22) (v := ?_) rfl (by as_aux_lemma => kernel_rfl) (by as_aux_lemma => kernel_rfl) (by as_aux_lemma => kernel_rfl) (fun _ _ _ h => h) (Or.inl ⟨by rfl, ?_⟩) (by assumption) ?_
    rotate_left
    · (intro w hSw; (try dsimp only at hSw); go_simp); (try with_reducible rfl)
    simp only [List.getElem_toArray, List.getElem_cons_zero, List.getElem_cons_succ, Act.put, List.setIfInBounds_toArray, List.set_cons_zero, List.set_cons_succ]
    refine wpAnyH_take (i := 24) (v := ?_) rfl (by as_aux_lemma => kernel_rfl) (by as_aux_lemma => kernel_rfl) (by as_aux_lemma => kernel_rfl) (fun _ _ _ h => h) (Or.inl ⟨by rfl, ?_⟩) (by assumption) ?_
    rotate_left
    · (intro w hSw; (try dsimp only at hSw); go_simp); (try with_reducible rfl)
    simp only [List.getElem_toArray, List.getElem_cons_zero, List.getElem_cons_succ, Act.put, List.setIfInBounds_toArray, List.set_cons_zero, List.set_cons_succ]
    refine wpAnyH_ready (rs := [20]) (by as_aux_lemma => kernel_rfl) (by simp) ?_
    refine AllReadyH.cons rfl (fun K hK => ?_) AllReadyH.nil
    go_simp
    refine (rmulD_any _ _ _ c1 c1 N 1 N 1 (ic.lo.ext Fx2) (ic.lo.ext Fx2) rc1 rc1 (by omega) (by omega)).mono ?_
    rintro _ x3 ⟨vx3, rfl, mx3, ex3⟩
    have Fx3 : Ext w22 x3 := Fx2.trans ex3
    refine hK.out _ _ ⟨bx6 (Vc.ext Fx3), bx6 (Vs.ext Fx3), box3 (Vo.ext Fx3)⟩ (fun hHeld => ?_)
    clear hK K ex3 Fx2
    refine wpAnyH_ready (rs := [25]) (by as_aux_lemma => kernel_rfl) (by simp) ?_
    refine AllReadyH.cons rfl (fun K hK => ?_) AllReadyH.nil
    go_simp
    refine (rmulD_any _ _ _ s1 s1 N 1 N 1 (is.lo.ext Fx3) (is.lo.ext Fx3) rs1 rs1 (by omega) (by omega)).mono ?_
    rintro _ x4 ⟨vx4, rfl, mx4, ex4⟩
    have Fx4 : Ext w22 x4 := Fx3.trans ex4
    replace mx3 := mx3.ext ex4
    refine hK.out _ _ ⟨bx6 (Vc.ext Fx4), bx6 (Vs.ext Fx4), box3 (Vo.ext Fx4)⟩ (fun hHeld => ?_)
    clear hK K ex4 Fx3
    refine wpAnyH_ready (rs := [26]) (by as_aux_lemma => kernel_rfl) (by simp) ?_
    refine AllReadyH.cons rfl (fun K hK => ?_) AllReadyH.nil
    go_simp
    refine (raddD_any _ _ _ _ _ (N + N) (1 + 1) mx3 mx4 (rc1.mul rc1) (rs1.mul rs1) (by omega)).mono ?_
    rintro _ x5 ⟨vx5, rfl, mx5, ex5⟩
    have Fx5 : Ext w22 x5 := Fx4.trans ex5
    replace mx3 := mx3.ext ex5
    replace mx4 := mx4.ext ex5
    refine hK.out _ _ ⟨bx6 (Vc.ext Fx5), bx6 (Vs.ext Fx5), box3 (Vo.ext Fx5)⟩ (fun hHeld => ?_)
    clear hK K ex5 Fx4
    refine wpAnyH_ready (rs := [28]) (by as_aux_lemma => kernel_rfl) (by simp) ?_
    refine AllReadyH.cons rfl (fun K hK => ?_) AllReadyH.nil
    go_simp
    refine (rsame_lit7 _ _ _ _ 1 z3 mx5 (no.ext Fx5)).mono ?_
    rintro _ x6 ⟨rfl, ex6⟩
    have Fx6 : Ext w22 x6 := Fx5.trans ex6
    replace mx5 := mx5.ext ex6
    refine hK.out _ _ ⟨bx6 (Vc.ext Fx6), bx6 (Vs.ext Fx6), box3 (Vo.ext Fx6)⟩ (fun hHeld => ?_)
    clear hK K ex6 Fx5 mx3 mx4
    refine wpAnyH_take (i := 29) (v := ?_) rfl (by as_aux_lemma => kernel_rfl) (by as_aux_lemma => kernel_rfl) (by as_aux_lemma => kernel_rfl) (fun _ _ _ h => h) (Or.inl ⟨by rfl, ?_⟩) (by assumption) ?_
    rotate_left
    · (intro w hSw; (try dsimp only at hSw); go_simp); (try with_reducible rfl)
    simp only [List.getElem_toArray, List.getElem_cons_zero, List.getElem_cons_succ, Act.put, List.setIfInBounds_toArray, List.set_cons_zero, List.set_cons_succ]
    refine wpAnyH_take (i := 30) (v := ?_) rfl (by as_aux_lemma => kernel_rfl) (by as_aux_lemma => kernel_rfl) (by as_aux_lemma => kernel_rfl) (fun _ _ _ h => h) (Or.inl ⟨by rfl, ?_⟩) (by assumption) ?_
    rotate_left
    · (intro w hSw; (try dsimp only at hSw); go_simp); (try with_reducible rfl)
    simp only [List.getElem_toArray, List.getElem_cons_zero, List.getElem_cons_succ, Act.put, List.setIfInBounds_toArray, List.set_cons_zero, List.set_cons_succ]
    refine wpAnyH_done (by as_aux_lemma => kernel_rfl) ?_ _
    go_wp2
    go_ret
    exact ⟨rfl, E22.trans Fx6⟩
set_option maxRecDepth 100000 in
set_option maxHeartbeats 4000000 in
theorem wide_n (w : World) (T0 : Tu w) (K n j : Int) (Q N : Nat) (c1 c2 s1 s2 : Dyadic) (bK : -9223372036854775808 ≤ K ∧ K ≤ 9223372036854775807) (q14 : Q ≤ 14) (hr : goodT K (Q : Int) = true) (hn : 0 ≤ n ∧ n ≤ 255) (hj : n % 70 + 1 = j) (hN : j = (N : Int)) (N1 : 1 ≤ N) (N2 : N ≤ 70)
    (HC : Hid (∀ w', Tb w' → Pl w' → Calls Tryz.prog 14 #[.agg #[.int .i64 K, .int .i64 (Q : Int)], .int .i64 j] w' (RetI w' c1 c2)))
    (HS : Hid (∀ w', Tb w' → Pl w' → Calls Tryz.prog 16 #[.agg #[.int .i64 K, .int .i64 (Q : Int)], .int .i64 j] w' (RetI w' s1 s2)))
    (HQ : Hid (∀ w', Calls Tryz.prog 25 #[.agg #[.int .i64 K, .int .i64 (Q : Int)]] w' (RetE w' (.bool false))))
    (rc1 : Rg N 1 c1) (rc2 : Rg N 1 c2) (rs1 : Rg N 1 s1) (rs2 : Rg N 1 s2) (oc : c1 ≤ c2) (os : s1 ≤ s2) (uc1 : -1 ≤ c1) (uc2 : c2 ≤ 1) (us1 : -1 ≤ s1) (us2 : s2 ≤ 1) (z1 : c2 + -c1 = eps N) (z2 : s2 + -s1 = eps N) :
    Calls Tryz.prog 4 #[.agg #[.int .i64 K, .int .i64 (Q : Int)], .int .u8 n] w (RetE w (.bool true)) := by
  have bQ : -9223372036854775808 ≤ (Q : Int) ∧ (Q : Int) ≤ 9223372036854775807 := by omega
  obtain ⟨x1, hx1⟩ : ∃ x, cmpD c1 (-1) = x := ⟨_, rfl⟩
  obtain ⟨x2, hx2⟩ : ∃ x, cmpD c2 1 = x := ⟨_, rfl⟩
  obtain ⟨x3, hx3⟩ : ∃ x, cmpD s1 (-1) = x := ⟨_, rfl⟩
  obtain ⟨x4, hx4⟩ : ∃ x, cmpD s2 1 = x := ⟨_, rfl⟩
  have y1 : decide (x1 < 0) = false := decide_eq_false (by rw [← hx1]; intro h; have := (cmp_lt _ _).1 h; grind)
  have y2 : decide (0 < x2) = false := decide_eq_false (by have := (cmp_le c2 1).2 uc2; omega)
  have y3 : decide (x3 < 0) = false := decide_eq_false (by rw [← hx3]; intro h; have := (cmp_lt _ _).1 h; grind)
  have y4 : decide (0 < x4) = false := decide_eq_false (by have := (cmp_le s2 1).2 us2; omega)
  have HX := Lib.hid (And.intro (And.intro hx1 hx2) (And.intro hx3 hx4))
  have HY := Lib.hid (And.intro (And.intro y1 y2) (And.intro y3 y4))
  have r1 := rg_one N
  have HN := Lib.hid hN
  clear uc1 uc2 us1 us2 hx1 hx2 hx3 hx4 y1 y2 y3 y4 hN
  have T := T0.tb
  have P := T0.pl
  clear T0
  go_enter Tryz.func4, Tryz.ntmps4
  go_wp2_with fail
  refine (headC_any _ (T.ext ((Ext.refl w).alloc _)) (P.ext ((Ext.refl w).alloc _))).mono ?_
  rintro _ w1 ⟨rfl, f1⟩
  have Bt0 : B2 w1 (w.heap.size) (.int .i64 K) (.int .i64 (Q : Int)) := B2.at ((Ext.refl _).trans f1) (by simp)
  have e1 : Ext w w1 := ((Ext.refl w).alloc _).trans f1
  replace T := T.ext e1
  replace P := P.ext e1
  have E1 : Ext w w1 := e1
  clear f1
  obtain ⟨Bt0_0, Bt0_1⟩ := _root_.id Bt0
  have Bt0_l := World.block_lt_of_cell? _ _ Bt0_0
  go_wp2_with fail
  refine (good1_any _ w1.heap.size K (Q : Int) true hr bK bQ (B2.at (Ext.refl _) rfl)).mono ?_
  rintro _ w2 ⟨rfl, f2⟩
  clear Bt0_0 Bt0_1 Bt0_l
  have e2 : Ext w1 w2 := ((Ext.refl w1).alloc _).trans f2
  replace T := T.ext e2
  replace P := P.ext e2
  replace Bt0 := Bt0.ext e2
  have E2 : Ext w w2 := E1.trans e2
  clear e2 f2 E1
  go_wp2_with fail
  refine (bits_any _ n j hn hj).mono ?_
  rintro _ w3 ⟨rfl, f3⟩
  have e3 : Ext w2 w3 := (Ext.refl w2).trans f3
  replace T := T.ext e3
  replace P := P.ext e3
  replace Bt0 := Bt0.ext e3
  have E3 : Ext w w3 := E2.trans e3
  clear e3 f3 E2
  have hj1 : -1000 ≤ j ∧ j ≤ 1000 := by have := HN.out; omega
  clear hj hn hr bK bQ
  obtain ⟨Bt0_0, Bt0_1⟩ := _root_.id Bt0
  have Bt0_l := World.block_lt_of_cell? _ _ Bt0_0
  go_wp2_with fail
  refine (HC.out _ T P).mono ?_
  rintro _ w4 ⟨v4, rfl, ic, f4⟩
  clear Bt0_0 Bt0_1 Bt0_l
  have e4 : Ext w3 w4 := (Ext.refl w3).trans f4
  replace T := T.ext e4
  replace P := P.ext e4
  replace Bt0 := Bt0.ext e4
  have E4 : Ext w w4 := E3.trans e4
  clear e4 f4 E3
  obtain ⟨bic, Aic, lic, cic, jic, bic', Aic', lic', cic', jic', rfl, ic_l, ic_h⟩ := ic
  have ic := In.mk ic_l ic_h
  clear ic_l ic_h
  obtain ⟨Bt0_0, Bt0_1⟩ := _root_.id Bt0
  have Bt0_l := World.block_lt_of_cell? _ _ Bt0_0
  go_wp2_with fail
  refine (HS.out _ (T.ext ((Ext.refl w4).alloc _)) (P.ext ((Ext.refl w4).alloc _))).mono ?_
  rintro _ w5 ⟨v5, rfl, is, f5⟩
  clear Bt0_0 Bt0_1 Bt0_l
  have Vc : Bx w5 (w4.heap.size) (.bool bic) (.slice Aic lic cic) (.int .i64 jic) (.bool bic') (.slice Aic' lic' cic') (.int .i64 jic') := Bx.at ((Ext.refl _).trans f5) (by simp)
  have e5 : Ext w4 w5 := ((Ext.refl w4).alloc _).trans f5
  replace T := T.ext e5
  replace P := P.ext e5
  replace ic := ic.ext e5
  replace Bt0 := Bt0.ext e5
  have E5 : Ext w w5 := E4.trans e5
  clear e5 f5 E4
  obtain ⟨bis, Ais, lis, cis, jis, bis', Ais', lis', cis', jis', rfl, is_l, is_h⟩ := is
  have is := In.mk is_l is_h
  clear is_l is_h
  clear HC HS
  obtain ⟨Vc_0, Vc_1, Vc_2, Vc_3, Vc_4, Vc_5⟩ := _root_.id Vc
  have Vc_l := World.block_lt_of_cell? _ _ Vc_0
  go_upto_region 7 with fail
  have Vs : Bx (w5.alloc (.cells #[.bool bis, .slice Ais lis cis, .int .i64 jis, .bool bis', .slice Ais' lis' cis', .int .i64 jis'] 33)) w5.heap.size (.bool bis) (.slice Ais lis cis) (.int .i64 jis) (.bool bis') (.slice Ais' lis' cis') (.int .i64 jis') := Bx.at (Ext.refl _) rfl
  have eW7 : Ext w5 (w5.alloc (.cells #[.bool bis, .slice Ais lis cis, .int .i64 jis, .bool bis', .slice Ais' lis' cis', .int .i64 jis'] 33)) := (Ext.refl _).alloc _
  replace T := T.ext eW7
  replace P := P.ext eW7
  replace ic := ic.ext eW7
  replace is := is.ext eW7
  replace Bt0 := Bt0.ext eW7
  replace Vc := Vc.ext eW7
  have EW7 := E5.trans eW7
  clear Vc_0 Vc_1 Vc_2 Vc_3 Vc_4 Vc_5 Vc_l
  clear eW7 E5
  generalize hgen : (w5.alloc (.cells #[.bool bis, .slice Ais lis cis, .int .i64 jis, .bool bis', .slice Ais' lis' cis', .int .i64 jis'] 33)) = W7 at *
  clear hgen
  have k1 : ¬ jic < -j := by have := dn_exp ic.lo rc1; have := HN.out; omega
  have k2 : ¬ jis' < -j := by have := dn_exp is.hi rs2; have := HN.out; omega
  go_cut [62] from 11 (fun t W' => t = .bool false ∧ Ext W7 W')
  case first =>
    obtain ⟨Vc_0, Vc_1, Vc_2, Vc_3, Vc_4, Vc_5⟩ := _root_.id Vc
    have Vc_l := World.block_lt_of_cell? _ _ Vc_0
    go_wp2_with fail
    refine (riright_lit _ _ c1 c2 N 1 true (decide_eq_true oc) ic rc1 rc2 (by omega)).mono ?_
    rintro _ wa ⟨rfl, ea⟩
    clear Vc_0 Vc_1 Vc_2 Vc_3 Vc_4 Vc_5 Vc_l
    have Vs2 := Vs.ext ea
    obtain ⟨p0, p1, p2, p3, p4, p5⟩ := _root_.id Vs2
    go_wp2_with fail
    refine (riright_lit _ _ s1 s2 N 1 true (decide_eq_true os) (is.ext ea) rs1 rs2 (by omega)).mono ?_
    rintro _ wb ⟨rfl, eb⟩
    clear p0 p1 p2 p3 p4 p5
    have Vs3 := Vs2.ext eb
    have Vc3 := Vc.ext (ea.trans eb)
    obtain ⟨p0, p1, p2, p3, p4, p5⟩ := _root_.id Vs3
    obtain ⟨q0, q1, q2, q3, q4, q5⟩ := _root_.id Vc3
    have Eab := Lib.hid (ea.trans eb)
    clear ea eb Vs2 Vs3 Vc3
    rcases Nat.eq_zero_or_pos lic with g1 | g1 <;> rcases Nat.eq_zero_or_pos lis' with g2 | g2
    all_goals (first | (have h1 : ¬ (0 : Int) < (lic : Int) := by omega) | (have h1 : (0 : Int) < (lic : Int) := by omega))
    all_goals (first | (have h2 : ¬ (0 : Int) < (lis' : Int) := by omega) | (have h2 : (0 : Int) < (lis' : Int) := by omega))
    all_goals clear g1 g2
    all_goals (
      go_wp2
      go_meet
      case rel => exact ⟨by simp [k1, k2], Eab.out⟩)
  case rest =>
    obtain ⟨rfl, ec⟩ := hcut
    replace T := T.ext ec
    replace P := P.ext ec
    replace ic := ic.ext ec
    replace is := is.ext ec
    replace Bt0 := Bt0.ext ec
    replace Vc := Vc.ext ec
    replace Vs := Vs.ext ec
    have EC := EW7.trans ec
    clear ec k1 k2 EW7
    go_wp2_with fail
    refine (rof_lit _ 1 1 rfl (by omega)).mono ?_
    rintro _ w21 ⟨v21, rfl, no, f21⟩
    have e21 : Ext wc w21 := (Ext.refl wc).trans f21
    replace T := T.ext e21
    replace P := P.ext e21
    replace ic := ic.ext e21
    replace is := is.ext e21
    replace Bt0 := Bt0.ext e21
    replace Vc := Vc.ext e21
    replace Vs := Vs.ext e21
    have E21 : Ext w w21 := EC.trans e21
    clear e21 f21 EC
    obtain ⟨bno, Ano, lno, cno, jno, rfl⟩ := no.form
    obtain ⟨Vc_0, Vc_1, Vc_2, Vc_3, Vc_4, Vc_5⟩ := _root_.id Vc
    have Vc_l := World.block_lt_of_cell? _ _ Vc_0
    obtain ⟨Vs_0, Vs_1, Vs_2, Vs_3, Vs_4, Vs_5⟩ := _root_.id Vs
    have Vs_l := World.block_lt_of_cell? _ _ Vs_0
    go_upto_region 10 with fail
    have Vo : Box (w21.alloc (.cells #[.bool bno, .slice Ano lno cno, .int .i64 jno] 26)) w21.heap.size (.bool bno) (.slice Ano lno cno) (.int .i64 jno) := Box.at (Ext.refl _) rfl
    have eWA : Ext w21 (w21.alloc (.cells #[.bool bno, .slice Ano lno cno, .int .i64 jno] 26)) := (Ext.refl _).alloc _
    replace T := T.ext eWA
    replace P := P.ext eWA
    replace ic := ic.ext eWA
    replace is := is.ext eWA
    replace no := no.ext eWA
    replace Bt0 := Bt0.ext eWA
    replace Vc := Vc.ext eWA
    replace Vs := Vs.ext eWA
    have EWA := E21.trans eWA
    clear Vc_0 Vc_1 Vc_2 Vc_3 Vc_4 Vc_5 Vc_l Vs_0 Vs_1 Vs_2 Vs_3 Vs_4 Vs_5 Vs_l
    clear eWA E21
    generalize hgen : (w21.alloc (.cells #[.bool bno, .slice Ano lno cno, .int .i64 jno] 26)) = WA at *
    clear hgen
    obtain ⟨⟨y1, y2⟩, y3, y4⟩ := HY.out
    have hsp := HX.out
    obtain ⟨Vc_0, Vc_1, Vc_2, Vc_3, Vc_4, Vc_5⟩ := _root_.id Vc
    have Vc_l := World.block_lt_of_cell? _ _ Vc_0
    obtain ⟨Vs_0, Vs_1, Vs_2, Vs_3, Vs_4, Vs_5⟩ := _root_.id Vs
    have Vs_l := World.block_lt_of_cell? _ _ Vs_0
    obtain ⟨Vo_0, Vo_1, Vo_2⟩ := _root_.id Vo
    have Vo_l := World.block_lt_of_cell? _ _ Vo_0
    refine wp_region_held_drew (S := (fun w' => (w'.cell? ⟨w4.heap.size, 0, none⟩ = some (.bool bic) ∧ w'.cell? ⟨w4.heap.size, 1, none⟩ = some (.slice Aic lic cic) ∧ w'.cell? ⟨w4.heap.size, 2, none⟩ = some (.int .i64 jic) ∧ w'.cell? ⟨w4.heap.size, 3, none⟩ = some (.bool bic') ∧ w'.cell? ⟨w4.heap.size, 4, none⟩ = some (.slice Aic' lic' cic') ∧ w'.cell? ⟨w4.heap.size, 5, none⟩ = some (.int .i64 jic')) ∧ (w'.cell? ⟨w5.heap.size, 0, none⟩ = some (.bool bis) ∧ w'.cell? ⟨w5.heap.size, 1, none⟩ = some (.slice Ais lis cis) ∧ w'.cell? ⟨w5.heap.size, 2, none⟩ = some (.int .i64 jis) ∧ w'.cell? ⟨w5.heap.size, 3, none⟩ = some (.bool bis') ∧ w'.cell? ⟨w5.heap.size, 4, none⟩ = some (.slice Ais' lis' cis') ∧ w'.cell? ⟨w5.heap.size, 5, none⟩ = some (.int .i64 jis')) ∧ (w'.cell? ⟨w21.heap.size, 0, none⟩ = some (.bool bno) ∧ w'.cell? ⟨w21.heap.size, 1, none⟩ = some (.slice Ano lno cno) ∧ w'.cell? ⟨w21.heap.size, 2, none⟩ = some (.int .i64 jno)))) (by as_aux_lemma => kernel_rfl) ⟨bx6 (Vc.ext (Ext.refl WA).drew), bx6 (Vs.ext (Ext.refl WA).drew), box3 (Vo.ext (Ext.refl WA).drew)⟩ (fun hHeld => ?_)
    refine wpAnyH_take (i := 0) (v := ?_) rfl (by as_aux_lemma => kernel_rfl) (by as_aux_lemma => kernel_rfl) (by as_aux_lemma => kernel_rfl) (fun _ _ _ h => h) (Or.inl ⟨by rfl, ?_⟩) (by assumption) ?_
    rotate_left
    · (intro w hSw; (try dsimp only at hSw); go_simp); (try with_reducible rfl)
    simp only [List.getElem_toArray, List.getElem_cons_zero, Act.put, List.setIfInBounds_toArray, List.set_cons_zero, List.set_cons_succ]
    refine wpAnyH_take (i := 2) (v := ?_) rfl (by as_aux_lemma => kernel_rfl) (by as_aux_lemma => kernel_rfl) (by as_aux_lemma => kernel_rfl) (fun _ _ _ h => h) (Or.inl ⟨by rfl, ?_⟩) (by assumption) ?_
    rotate_left
    · (intro w hSw; (try dsimp only at hSw); go_simp); (try with_reducible rfl)
    simp only [List.getElem_toArray, List.getElem_cons_zero, List.getElem_cons_succ, Act.put, List.setIfInBounds_toArray, List.set_cons_zero, List.set_cons_succ]
    refine wpAnyH_take (i := 1) (v := ?_) rfl (by as_aux_lemma => kernel_rfl) (by as_aux_lemma => kernel_rfl) (by as_aux_lemma => kernel_rfl) (fun _ _ _ h => h) (Or.inl ⟨by rfl, ?_⟩) (by assumption) ?_
    rotate_left
    · (intro w hSw; (try dsimp only at hSw); go_simp); (try with_reducible rfl)
    simp only [List.getElem_toArray, List.getElem_cons_zero, List.getElem_cons_succ, Act.put, List.setIfInBounds_toArray, List.set_cons_zero, List.set_cons_succ]
    refine wpAnyH_ready (rs := [3]) (by as_aux_lemma => kernel_rfl) (by simp) ?_
    refine AllReadyH.cons rfl (fun K hK => ?_) AllReadyH.nil
    go_simp
    refine (rflip_any _ _ 1 (no.ext (Ext.refl WA).drew)).mono ?_
    rintro _ u1 ⟨vu1, rfl, mu1, eu1⟩
    have Fu1 : Ext WA u1 := (Ext.refl WA).drew.trans eu1
    refine hK.out _ _ ⟨bx6 (Vc.ext Fu1), bx6 (Vs.ext Fu1), box3 (Vo.ext Fu1)⟩ (fun hHeld => ?_)
    clear hK K eu1
    refine wpAnyH_ready (rs := [4]) (by as_aux_lemma => kernel_rfl) (by simp) ?_
    refine AllReadyH.cons rfl (fun K hK => ?_) AllReadyH.nil
    go_simp
    refine (rcmp_lit _ _ _ c1 (-1) N 1 x1 hsp.1.1 (ic.lo.ext Fu1) mu1 rc1 r1.neg (by omega)).mono ?_
    rintro _ u2 ⟨rfl, eu2⟩
    have Fu2 : Ext WA u2 := Fu1.trans eu2
    replace mu1 := mu1.ext eu2
    refine hK.out _ _ ⟨bx6 (Vc.ext Fu2), bx6 (Vs.ext Fu2), box3 (Vo.ext Fu2)⟩ (fun hHeld => ?_)
    clear hK K eu2 Fu1
    refine wpAnyH_take (i := 5) (v := ?_) rfl (by as_aux_lemma => kernel_rfl) (by as_aux_lemma => kernel_rfl) (by as_aux_lemma => kernel_rfl) (fun _ _ _ h => h) (Or.inl ⟨by rfl, ?_⟩) (by assumption) ?_
    rotate_left
    · (intro w hSw; (try dsimp only at hSw); go_simp); (try with_reducible rfl)
    simp only [List.getElem_toArray, List.getElem_cons_zero, List.getElem_cons_succ, Act.put, List.setIfInBounds_toArray, List.set_cons_zero, List.set_cons_succ]
    refine wpAnyH_take (i := 6) (v := ?_) rfl (by as_aux_lemma => kernel_rfl) (by as_aux_lemma => kernel_rfl) (by as_aux_lemma => kernel_rfl) (fun _ _ _ h => h) (Or.inl ⟨by rfl, ?_⟩) (by assumption) ?_
    rotate_left
    · (intro w hSw; (try dsimp only at hSw); go_simp); (try with_reducible rfl)
    simp only [List.getElem_toArray, List.getElem_cons_zero, List.getElem_cons_succ, Act.put, List.setIfInBounds_toArray, List.set_cons_zero, List.set_cons_succ]
    refine wpAnyH_take (i := 7) (v := ?_) rfl (by as_aux_lemma => kernel_rfl) (by as_aux_lemma => kernel_rfl) (by as_aux_lemma => kernel_rfl) (fun _ _ _ h => h) (Or.inl ⟨by rfl, ?_⟩) (by assumption) ?_
    rotate_left
    · (intro w hSw; (try dsimp only at hSw); go_simp); (try with_reducible rfl)
    simp only [List.getElem_toArray, List.getElem_cons_zero, List.getElem_cons_succ, Act.put, List.setIfInBounds_toArray, List.set_cons_zero, List.set_cons_succ]
    refine wpAnyH_take (i := 9) (v := ?_) rfl (by as_aux_lemma => kernel_rfl) (by as_aux_lemma => kernel_rfl) (by as_aux_lemma => kernel_rfl) (fun _ _ _ h => h) (Or.inl ⟨by rfl, ?_⟩) (by assumption) ?_
    rotate_left
    · (intro w hSw; (try dsimp only at hSw); go_simp); (try with_reducible rfl)
    simp only [List.getElem_toArray, List.getElem_cons_zero, List.getElem_cons_succ, Act.put, List.setIfInBounds_toArray, List.set_cons_zero, List.set_cons_succ]
    refine wpAnyH_take (i := 8) (v := ?_) rfl (by as_aux_lemma => kernel_rfl) (by as_aux_lemma => kernel_rfl) (by as_aux_lemma => kernel_rfl) (fun _ _ _ h => h) (Or.inl ⟨by rfl, ?_⟩) (by assumption) ?_
    rotate_left
    · (intro w hSw; (try dsimp only at hSw); go_simp); (try with_reducible rfl)
    simp only [List.getElem_toArray, List.getElem_cons_zero, List.getElem_cons_succ, Act.put, List.setIfInBounds_toArray, List.set_cons_zero, List.set_cons_succ]
    refine wpAnyH_ready (rs := [10]) (by as_aux_lemma => kernel_rfl) (by simp) ?_
    refine AllReadyH.cons rfl (fun K hK => ?_) AllReadyH.nil
    go_simp
    refine (rcmp_lit _ _ _ c2 1 N 1 x2 hsp.1.2 (ic.hi.ext Fu2) (no.ext Fu2) rc2 r1 (by omega)).mono ?_
    rintro _ u3 ⟨rfl, eu3⟩
    have Fu3 : Ext WA u3 := Fu2.trans eu3
    refine hK.out _ _ ⟨bx6 (Vc.ext Fu3), bx6 (Vs.ext Fu3), box3 (Vo.ext Fu3)⟩ (fun hHeld => ?_)
    clear hK K eu3 Fu2 mu1
    refine wpAnyH_take (i := 11) (v := ?_) rfl (by as_aux_lemma => kernel_rfl) (by as_aux_lemma => kernel_rfl) (by as_aux_lemma => kernel_rfl) (fun _ _ _ h => h) (Or.inl ⟨by rfl, ?_⟩) (by assumption) ?_
    rotate_left
    · (intro w hSw; (try dsimp only at hSw); go_simp); (try with_reducible rfl)
    simp only [List.getElem_toArray, List.getElem_cons_zero, List.getElem_cons_succ, Act.put, List.setIfInBounds_toArray, List.set_cons_zero, List.set_cons_succ]
    refine wpAnyH_take (i := 12) (v := ?_) rfl (by as_aux_lemma => kernel_rfl) (by as_aux_lemma => kernel_rfl) (by as_aux_lemma => kernel_rfl) (fun _ _ _ h => h) (Or.inl ⟨by rfl, ?_⟩) (by assumption) ?_
    rotate_left
    · (intro w hSw; (try dsimp only at hSw); go_simp); (try with_reducible rfl)
    simp only [List.getElem_toArray, List.getElem_cons_zero, List.getElem_cons_succ, Act.put, List.setIfInBounds_toArray, List.set_cons_zero, List.set_cons_succ]
    refine wpAnyH_take (i := 13) (v := ?_) rfl (by as_aux_lemma => kernel_rfl) (by as_aux_lemma => kernel_rfl) (by as_aux_lemma => kernel_rfl) (fun _ _ _ h => h) (Or.inl ⟨by rfl, ?_⟩) (by assumption) ?_
    rotate_left
    · (intro w hSw; (try dsimp only at hSw); go_simp); (try with_reducible rfl)
    simp only [List.getElem_toArray, List.getElem_cons_zero, List.getElem_cons_succ, Act.put, List.setIfInBounds_toArray, List.set_cons_zero, List.set_cons_succ]
    refine wpAnyH_take (i := 14) (v := ?_) rfl (by as_aux_lemma => kernel_rfl) (by as_aux_lemma => kernel_rfl) (by as_aux_lemma => kernel_rfl) (fun _ _ _ h => h) (Or.inl ⟨by rfl, ?_⟩) (by assumption) ?_
    rotate_left
    · (intro w hSw; (try dsimp only at hSw); go_simp); (try with_reducible rfl)
    simp only [List.getElem_toArray, List.getElem_cons_zero, List.getElem_cons_succ, Act.put, List.setIfInBounds_toArray, List.set_cons_zero, List.set_cons_succ]
    refine wpAnyH_take (i := 16) (v := ?_) rfl (by as_aux_lemma => kernel_rfl) (by as_aux_lemma => kernel_rfl) (by as_aux_lemma => kernel_rfl) (fun _ _ _ h => h) (Or.inl ⟨by rfl, ?_⟩) (by assumption) ?_
    rotate_left
    · (intro w hSw; (try dsimp only at hSw); go_simp); (try with_reducible rfl)
    simp only [List.getElem_toArray, List.getElem_cons_zero, List.getElem_cons_succ, Act.put, List.setIfInBounds_toArray, List.set_cons_zero, List.set_cons_succ]
    refine wpAnyH_take (i := 15) (v := ?_) rfl (by as_aux_lemma => kernel_rfl) (by as_aux_lemma => kernel_rfl) (by as_aux_lemma => kernel_rfl) (fun _ _ _ h => h) (Or.inl ⟨by rfl, ?_⟩) (by assumption) ?_
    rotate_left
    · (intro w hSw; (try dsimp only at hSw); go_simp); (try with_reducible rfl)
    simp only [List.getElem_toArray, List.getElem_cons_zero, List.getElem_cons_succ, Act.put, List.setIfInBounds_toArray, List.set_cons_zero, List.set_cons_succ]
    refine wpAnyH_ready (rs := [17]) (by as_aux_lemma => kernel_rfl) (by simp) ?_
    refine AllReadyH.cons rfl (fun K hK => ?_) AllReadyH.nil
    go_simp
    refine (rflip_any _ _ 1 (no.ext Fu3)).mono ?_
    rintro _ u4 ⟨vu4, rfl, mu4, eu4⟩
    have Fu4 : Ext WA u4 := Fu3.trans eu4
    refine hK.out _ _ ⟨bx6 (Vc.ext Fu4), bx6 (Vs.ext Fu4), box3 (Vo.ext Fu4)⟩ (fun hHeld => ?_)
    clear hK K eu4 Fu3
    refine wpAnyH_ready (rs := [18]) (by as_aux_lemma => kernel_rfl) (by simp) ?_
    refine AllReadyH.cons rfl (fun K hK => ?_) AllReadyH.nil
    go_simp
    refine (rcmp_lit _ _ _ s1 (-1) N 1 x3 hsp.2.1 (is.lo.ext Fu4) mu4 rs1 r1.neg (by omega)).mono ?_
    rintro _ u5 ⟨rfl, eu5⟩
    have Fu5 : Ext WA u5 := Fu4.trans eu5
    replace mu4 := mu4.ext eu5
    refine hK.out _ _ ⟨bx6 (Vc.ext Fu5), bx6 (Vs.ext Fu5), box3 (Vo.ext Fu5)⟩ (fun hHeld => ?_)
    clear hK K eu5 Fu4
    refine wpAnyH_take (i := 19) (v := ?_) rfl (by as_aux_lemma => kernel_rfl) (by as_aux_lemma => kernel_rfl) (by as_aux_lemma => kernel_rfl) (fun _ _ _ h => h) (Or.inl ⟨by rfl, ?_⟩) (by assumption) ?_
    rotate_left
    · (intro w hSw; (try dsimp only at hSw); go_simp); (try with_reducible rfl)
    simp only [List.getElem_toArray, List.getElem_cons_zero, List.getElem_cons_succ, Act.put, List.setIfInBounds_toArray, List.set_cons_zero, List.set_cons_succ]
    refine wpAnyH_take (i := 20) (v := ?_) rfl (by as_aux_lemma => kernel_rfl) (by as_aux_lemma => kernel_rfl) (by as_aux_lemma => kernel_rfl) (fun _ _ _ h => h) (Or.inl ⟨by rfl, ?_⟩) (by assumption) ?_
    rotate_left
    · (intro w hSw; (try dsimp only at hSw); go_simp); (try with_reducible rfl)
    simp only [List.getElem_toArray, List.getElem_cons_zero, List.getElem_cons_succ, Act.put, List.setIfInBounds_toArray, List.set_cons_zero, List.set_cons_succ]
    refine wpAnyH_take (i := 21) (v := ?_) rfl (by as_aux_lemma => kernel_rfl) (by as_aux_lemma => kernel_rfl) (by as_aux_lemma => kernel_rfl) (fun _ _ _ h => h) (Or.inl ⟨by rfl, ?_⟩) (by assumption) ?_
    rotate_left
    · (intro w hSw; (try dsimp only at hSw); go_simp); (try with_reducible rfl)
    simp only [List.getElem_toArray, List.getElem_cons_zero, List.getElem_cons_succ, Act.put, List.setIfInBounds_toArray, List.set_cons_zero, List.set_cons_succ]
    refine wpAnyH_take (i := 22) (v := ?_) rfl (by as_aux_lemma => kernel_rfl) (by as_aux_lemma => kernel_rfl) (by as_aux_lemma => kernel_rfl) (fun _ _ _ h => h) (Or.inl ⟨by rfl, ?_⟩) (by assumption) ?_
    rotate_left
    · (intro w hSw; (try dsimp only at hSw); go_simp); (try with_reducible rfl)
    simp only [List.getElem_toArray, List.getElem_cons_zero, List.getElem_cons_succ, Act.put, List.setIfInBounds_toArray, List.set_cons_zero, List.set_cons_succ]
    refine wpAnyH_take (i := 24) (v := ?_) rfl (by as_aux_lemma => kernel_rfl) (by as_aux_lemma => kernel_rfl) (by as_aux_lemma => kernel_rfl) (fun _ _ _ h => h) (Or.inl ⟨by rfl, ?_⟩) (by assumption) ?_
    rotate_left
    · (intro w hSw; (try dsimp only at hSw); go_simp); (try with_reducible rfl)
    simp only [List.getElem_toArray, List.getElem_cons_zero, List.getElem_cons_succ, Act.put, List.setIfInBounds_toArray, List.set_cons_zero, List.set_cons_succ]
    refine wpAnyH_take (i := 23) (v := ?_) rfl (by as_aux_lemma => kernel_rfl) (by as_aux_lemma => kernel_rfl) (by as_aux_lemma => kernel_rfl) (fun _ _ _ h => h) (Or.inl ⟨by rfl, ?_⟩) (by assumption) ?_
    rotate_left
    · (intro w hSw; (try dsimp only at hSw); go_simp); (try with_reducible rfl)
    simp only [List.getElem_toArray, List.getElem_cons_zero, List.getElem_cons_succ, Act.put, List.setIfInBounds_toArray, List.set_cons_zero, List.set_cons_succ]
    refine wpAnyH_ready (rs := [25]) (by as_aux_lemma => kernel_rfl) (by simp) ?_
    refine AllReadyH.cons rfl (fun K hK => ?_) AllReadyH.nil
    go_simp
    refine (rcmp_lit _ _ _ s2 1 N 1 x4 hsp.2.2 (is.hi.ext Fu5) (no.ext Fu5) rs2 r1 (by omega)).mono ?_
    rintro _ u6 ⟨rfl, eu6⟩
    have Fu6 : Ext WA u6 := Fu5.trans eu6
    refine hK.out _ _ ⟨bx6 (Vc.ext Fu6), bx6 (Vs.ext Fu6), box3 (Vo.ext Fu6)⟩ (fun hHeld => ?_)
    clear hK K eu6 Fu5 mu4
    refine wpAnyH_take (i := 26) (v := ?_) rfl (by as_aux_lemma => kernel_rfl) (by as_aux_lemma => kernel_rfl) (by as_aux_lemma => kernel_rfl) (fun _ _ _ h => h) (Or.inl ⟨by rfl, ?_⟩) (by assumption) ?_
    rotate_left
    · (intro w hSw; (try dsimp only at hSw); go_simp); (try with_reducible rfl)
    simp only [List.getElem_toArray, List.getElem_cons_zero, List.getElem_cons_succ, Act.put, List.setIfInBounds_toArray, List.set_cons_zero, List.set_cons_succ]
    refine wpAnyH_take (i := 27) (v := ?_) rfl (by as_aux_lemma => kernel_rfl) (by as_aux_lemma => kernel_rfl) (by as_aux_lemma => kernel_rfl) (fun _ _ _ h => h) (Or.inl ⟨by rfl, ?_⟩) (by assumption) ?_
    rotate_left
    · (intro w hSw; (try dsimp only at hSw); go_simp); (try with_reducible rfl)
    simp only [List.getElem_toArray, List.getElem_cons_zero, List.getElem_cons_succ, Act.put, List.setIfInBounds_toArray, List.set_cons_zero, List.set_cons_succ]
    refine wpAnyH_done (by as_aux_lemma => kernel_rfl) ?_ _
    clear y1 y2 y3 y4 hsp Vc_0 Vc_1 Vc_2 Vc_3 Vc_4 Vc_5 Vc_l Vs_0 Vs_1 Vs_2 Vs_3 Vs_4 Vs_5 Vs_l Vo_0 Vo_1 Vo_2 Vo_l
    replace T := T.ext Fu6
    replace P := P.ext Fu6
    replace ic := ic.ext Fu6
    replace is := is.ext Fu6
    replace no := no.ext Fu6
    replace Bt0 := Bt0.ext Fu6
    replace Vc := Vc.ext Fu6
    replace Vs := Vs.ext Fu6
    replace Vo := Vo.ext Fu6
    have EB := EWA.trans Fu6
    clear Fu6 hHeld EWA
    obtain ⟨Bt0_0, Bt0_1⟩ := _root_.id Bt0
    have Bt0_l := World.block_lt_of_cell? _ _ Bt0_0
    go_wp2_with fail
    refine (HQ.out _).mono ?_
    rintro _ w22 ⟨rfl, f22⟩
    clear Bt0_0 Bt0_1 Bt0_l
    have e22 : Ext u6 w22 := (Ext.refl u6).trans f22
    replace T := T.ext e22
    replace P := P.ext e22
    replace ic := ic.ext e22
    replace is := is.ext e22
    replace no := no.ext e22
    replace Bt0 := Bt0.ext e22
    replace Vc := Vc.ext e22
    replace Vs := Vs.ext e22
    replace Vo := Vo.ext e22
    have E22 : Ext w w22 := EB.trans e22
    clear e22 f22 EB
    obtain ⟨Vc_0, Vc_1, Vc_2, Vc_3, Vc_4, Vc_5⟩ := _root_.id Vc
    have Vc_l := World.block_lt_of_cell? _ _ Vc_0
    obtain ⟨Vs_0, Vs_1, Vs_2, Vs_3, Vs_4, Vs_5⟩ := _root_.id Vs
    have Vs_l := World.block_lt_of_cell? _ _ Vs_0
    obtain ⟨Vo_0, Vo_1, Vo_2⟩ := _root_.id Vo
    have Vo_l := World.block_lt_of_cell? _ _ Vo_0
    go_upto_region 14 with fail
    clear Vc_0 Vc_1 Vc_2 Vc_3 Vc_4 Vc_5 Vc_l Vs_0 Vs_1 Vs_2 Vs_3 Vs_4 Vs_5 Vs_l Vo_0 Vo_1 Vo_2 Vo_l
    obtain ⟨Vc_0, Vc_1, Vc_2, Vc_3, Vc_4, Vc_5⟩ := _root_.id Vc
    have Vc_l := World.block_lt_of_cell? _ _ Vc_0
    obtain ⟨Vs_0, Vs_1, Vs_2, Vs_3, Vs_4, Vs_5⟩ := _root_.id Vs
    have Vs_l := World.block_lt_of_cell? _ _ Vs_0
    go_upto_region 15 with fail
    have np : Dn ((w22.alloc (.cells #[.int .i64 1] 3)).alloc (.cells #[.bool false, .slice (some ⟨w22.heap.size, 0, none⟩) 1 1, .int .i64 (-j)] 26)) (.agg #[.bool false, .slice (some ⟨w22.heap.size, 0, none⟩) 1 1, .int .i64 (-j)]) (eps N) := (by have h := (lit_dn w22 1 (-j) 1 false 3 (by omega) (by omega) (by omega) (by rfl)).ext ((Ext.refl _).alloc (.cells #[.bool false, .slice (some ⟨w22.heap.size, 0, none⟩) 1 1, .int .i64 (-j)] 26)); rw [show dy 1 (-j) = eps N by rw [HN.out]; rfl] at h; exact h)
    have Vp : Box ((w22.alloc (.cells #[.int .i64 1] 3)).alloc (.cells #[.bool false, .slice (some ⟨w22.heap.size, 0, none⟩) 1 1, .int .i64 (-j)] 26)) (w22.heap.size + 1) (.bool false) (.slice (some ⟨w22.heap.size, 0, none⟩) 1 1) (.int .i64 (-j)) := Box.at (Ext.refl _) (by simp)
    have ep : Ext w22 ((w22.alloc (.cells #[.int .i64 1] 3)).alloc (.cells #[.bool false, .slice (some ⟨w22.heap.size, 0, none⟩) 1 1, .int .i64 (-j)] 26)) := ((Ext.refl _).alloc _).alloc _
    replace T := T.ext ep
    replace P := P.ext ep
    replace ic := ic.ext ep
    replace is := is.ext ep
    replace no := no.ext ep
    replace Bt0 := Bt0.ext ep
    replace Vc := Vc.ext ep
    replace Vs := Vs.ext ep
    replace Vo := Vo.ext ep
    have EP := E22.trans ep
    clear ep E22 Vc_0 Vc_1 Vc_2 Vc_3 Vc_4 Vc_5 Vc_l Vs_0 Vs_1 Vs_2 Vs_3 Vs_4 Vs_5 Vs_l
    generalize hgen : ((w22.alloc (.cells #[.int .i64 1] 3)).alloc (.cells #[.bool false, .slice (some ⟨w22.heap.size, 0, none⟩) 1 1, .int .i64 (-j)] 26)) = WP at *
    clear hgen
    generalize hgs : w22.heap.size = gp at *
    clear hgs
    obtain ⟨Vc_0, Vc_1, Vc_2, Vc_3, Vc_4, Vc_5⟩ := _root_.id Vc
    have Vc_l := World.block_lt_of_cell? _ _ Vc_0
    obtain ⟨Vs_0, Vs_1, Vs_2, Vs_3, Vs_4, Vs_5⟩ := _root_.id Vs
    have Vs_l := World.block_lt_of_cell? _ _ Vs_0
    obtain ⟨Vp_0, Vp_1, Vp_2⟩ := _root_.id Vp
    have Vp_l := World.block_lt_of_cell? _ _ Vp_0
    refine wp_region_held_drew (S := (fun w' => (w'.cell? ⟨w4.heap.size, 0, none⟩ = some (.bool bic) ∧ w'.cell? ⟨w4.heap.size, 1, none⟩ = some (.slice Aic lic cic) ∧ w'.cell? ⟨w4.heap.size, 2, none⟩ = some (.int .i64 jic) ∧ w'.cell? ⟨w4.heap.size, 3, none⟩ = some (.bool bic') ∧ w'.cell? ⟨w4.heap.size, 4, none⟩ = some (.slice Aic' lic' cic') ∧ w'.cell? ⟨w4.heap.size, 5, none⟩ = some (.int .i64 jic')) ∧ (w'.cell? ⟨w5.heap.size, 0, none⟩ = some (.bool bis) ∧ w'.cell? ⟨w5.heap.size, 1, none⟩ = some (.slice Ais lis cis) ∧ w'.cell? ⟨w5.heap.size, 2, none⟩ = some (.int .i64 jis) ∧ w'.cell? ⟨w5.heap.size, 3, none⟩ = some (.bool bis') ∧ w'.cell? ⟨w5.heap.size, 4, none⟩ = some (.slice Ais' lis' cis') ∧ w'.cell? ⟨w5.heap.size, 5, none⟩ = some (.int .i64 jis')) ∧ (w'.cell? ⟨gp + 1, 0, none⟩ = some (.bool false) ∧ w'.cell? ⟨gp + 1, 1, none⟩ = some (.slice (some ⟨gp, 0, none⟩) 1 1) ∧ w'.cell? ⟨gp + 1, 2, none⟩ = some (.int .i64 (-j))))) (by as_aux_lemma => kernel_rfl) ⟨bx6 (Vc.ext (Ext.refl WP).drew), bx6 (Vs.ext (Ext.refl WP).drew), box3 (Vp.ext (Ext.refl WP).drew)⟩ (fun hHeld => ?_)
    refine wpAnyH_take (i := 0) (v := ?_) rfl (by as_aux_lemma => kernel_rfl) (by as_aux_lemma => kernel_rfl) (by as_aux_lemma => kernel_rfl) (fun _ _ _ h => h) (Or.inl ⟨by rfl, ?_⟩) (by assumption) ?_
    rotate_left
    · (intro w hSw; (try dsimp only at hSw); go_simp); (try with_reducible rfl)
    simp only [List.getElem_toArray, List.getElem_cons_zero, Act.put, List.setIfInBounds_toArray, List.set_cons_zero, List.set_cons_succ]
    refine wpAnyH_take (i := 1) (v := ?_) rfl (by as_aux_lemma => kernel_rfl) (by as_aux_lemma => kernel_rfl) (by as_aux_lemma => kernel_rfl) (fun _ _ _ h => h) (Or.inl ⟨by rfl, ?_⟩) (by assumption) ?_
    rotate_left
    · (intro w hSw; (try dsimp only at hSw); go_simp); (try with_reducible rfl)
    simp only [List.getElem_toArray, List.getElem_cons_zero, List.getElem_cons_succ, Act.put, List.setIfInBounds_toArray, List.set_cons_zero, List.set_cons_succ]
    refine wpAnyH_take (i := 2) (v := ?_) rfl (by as_aux_lemma => kernel_rfl) (by as_aux_lemma => kernel_rfl) (by as_aux_lemma => kernel_rfl) (fun _ _ _ h => h) (Or.inl ⟨by rfl, ?_⟩) (by assumption) ?_
    rotate_left
    · (intro w hSw; (try dsimp only at hSw); go_simp); (try with_reducible rfl)
    simp only [List.getElem_toArray, List.getElem_cons_zero, List.getElem_cons_succ, Act.put, List.setIfInBounds_toArray, List.set_cons_zero, List.set_cons_succ]
    refine wpAnyH_take (i := 4) (v := ?_) rfl (by as_aux_lemma => kernel_rfl) (by as_aux_lemma => kernel_rfl) (by as_aux_lemma => kernel_rfl) (fun _ _ _ h => h) (Or.inl ⟨by rfl, ?_⟩) (by assumption) ?_
    rotate_left
    · (intro w hSw; (try dsimp only at hSw); go_simp); (try with_reducible rfl)
    simp only [List.getElem_toArray, List.getElem_cons_zero, List.getElem_cons_succ, Act.put, List.setIfInBounds_toArray, List.set_cons_zero, List.set_cons_succ]
    refine wpAnyH_ready (rs := [3]) (by as_aux_lemma => kernel_rfl) (by simp) ?_
    refine AllReadyH.cons rfl (fun K hK => ?_) AllReadyH.nil
    go_simp
    refine (rwide_any _ _ c1 c2 N 1 (ic.ext (Ext.refl WP).drew) rc1 rc2 (by omega)).mono ?_
    rintro _ x1 ⟨vx1, rfl, mx1, ex1⟩
    have Fx1 : Ext WP x1 := (Ext.refl WP).drew.trans ex1
    refine hK.out _ _ ⟨bx6 (Vc.ext Fx1), bx6 (Vs.ext Fx1), box3 (Vp.ext Fx1)⟩ (fun hHeld => ?_)
    clear hK K ex1
    refine wpAnyH_ready (rs := [5]) (by as_aux_lemma => kernel_rfl) (by simp) ?_
    refine AllReadyH.cons rfl (fun K hK => ?_) AllReadyH.nil
    go_simp
    refine (rsame_lit7 _ _ _ _ (eps N) z1 mx1 (np.ext Fx1)).mono ?_
    rintro _ x2 ⟨rfl, ex2⟩
    have Fx2 : Ext WP x2 := Fx1.trans ex2
    replace mx1 := mx1.ext ex2
    refine hK.out _ _ ⟨bx6 (Vc.ext Fx2), bx6 (Vs.ext Fx2), box3 (Vp.ext Fx2)⟩ (fun hHeld => ?_)
    clear hK K ex2 Fx1
    refine wpAnyH_take (i := 6) (v := ?_) rfl (by as_aux_lemma => kernel_rfl) (by as_aux_lemma => kernel_rfl) (by as_aux_lemma => kernel_rfl) (fun _ _ _ h => h) (Or.inl ⟨by rfl, ?_⟩) (by assumption) ?_
    rotate_left
    · (intro w hSw; (try dsimp only at hSw); go_simp); (try with_reducible rfl)
    simp only [List.getElem_toArray, List.getElem_cons_zero, List.getElem_cons_succ, Act.put, List.setIfInBounds_toArray, List.set_cons_zero, List.set_cons_succ]
    refine wpAnyH_take (i := 7) (v := ?_) rfl (by as_aux_lemma => kernel_rfl) (by as_aux_lemma => kernel_rfl) (by as_aux_lemma => kernel_rfl) (fun _ _ _ h => h) (Or.inl ⟨by rfl, ?_⟩) (by assumption) ?_
    rotate_left
    · (intro w hSw; (try dsimp only at hSw); go_simp); (try with_reducible rfl)
    simp only [List.getElem_toArray, List.getElem_cons_zero, List.getElem_cons_succ, Act.put, List.setIfInBounds_toArray, List.set_cons_zero, List.set_cons_succ]
    refine wpAnyH_take (i := 8) (v := ?_) rfl (by as_aux_lemma => kernel_rfl) (by as_aux_lemma => kernel_rfl) (by as_aux_lemma => kernel_rfl) (fun _ _ _ h => h) (Or.inl ⟨by rfl, ?_⟩) (by assumption) ?_
    rotate_left
    · (intro w hSw; (try dsimp only at hSw); go_simp); (try with_reducible rfl)
    simp only [List.getElem_toArray, List.getElem_cons_zero, List.getElem_cons_succ, Act.put, List.setIfInBounds_toArray, List.set_cons_zero, List.set_cons_succ]
    refine wpAnyH_take (i := 10) (v := ?_) rfl (by as_aux_lemma => kernel_rfl) (by as_aux_lemma => kernel_rfl) (by as_aux_lemma => kernel_rfl) (fun _ _ _ h => h) (Or.inl ⟨by rfl, ?_⟩) (by assumption) ?_
    rotate_left
    · (intro w hSw; (try dsimp only at hSw); go_simp); (try with_reducible rfl)
    simp only [List.getElem_toArray, List.getElem_cons_zero, List.getElem_cons_succ, Act.put, List.setIfInBounds_toArray, List.set_cons_zero, List.set_cons_succ]
    refine wpAnyH_ready (rs := [9]) (by as_aux_lemma => kernel_rfl) (by simp) ?_
    refine AllReadyH.cons rfl (fun K hK => ?_) AllReadyH.nil
    go_simp
    refine (rwide_any _ _ s1 s2 N 1 (is.ext Fx2) rs1 rs2 (by omega)).mono ?_
    rintro _ x3 ⟨vx3, rfl, mx3, ex3⟩
    have Fx3 : Ext WP x3 := Fx2.trans ex3
    refine hK.out _ _ ⟨bx6 (Vc.ext Fx3), bx6 (Vs.ext Fx3), box3 (Vp.ext Fx3)⟩ (fun hHeld => ?_)
    clear hK K ex3 Fx2 mx1
    refine wpAnyH_ready (rs := [11]) (by as_aux_lemma => kernel_rfl) (by simp) ?_
    refine AllReadyH.cons rfl (fun K hK => ?_) AllReadyH.nil
    go_simp
    refine (rsame_lit7 _ _ _ _ (eps N) z2 mx3 (np.ext Fx3)).mono ?_
    rintro _ x4 ⟨rfl, ex4⟩
    have Fx4 : Ext WP x4 := Fx3.trans ex4
    replace mx3 := mx3.ext ex4
    refine hK.out _ _ ⟨bx6 (Vc.ext Fx4), bx6 (Vs.ext Fx4), box3 (Vp.ext Fx4)⟩ (fun hHeld => ?_)
    clear hK K ex4 Fx3
    refine wpAnyH_take (i := 12) (v := ?_) rfl (by as_aux_lemma => kernel_rfl) (by as_aux_lemma => kernel_rfl) (by as_aux_lemma => kernel_rfl) (fun _ _ _ h => h) (Or.inl ⟨by rfl, ?_⟩) (by assumption) ?_
    rotate_left
    · (intro w hSw; (try dsimp only at hSw); go_simp); (try with_reducible rfl)
    simp only [List.getElem_toArray, List.getElem_cons_zero, List.getElem_cons_succ, Act.put, List.setIfInBounds_toArray, List.set_cons_zero, List.set_cons_succ]
    refine wpAnyH_take (i := 13) (v := ?_) rfl (by as_aux_lemma => kernel_rfl) (by as_aux_lemma => kernel_rfl) (by as_aux_lemma => kernel_rfl) (fun _ _ _ h => h) (Or.inl ⟨by rfl, ?_⟩) (by assumption) ?_
    rotate_left
    · (intro w hSw; (try dsimp only at hSw); go_simp); (try with_reducible rfl)
    simp only [List.getElem_toArray, List.getElem_cons_zero, List.getElem_cons_succ, Act.put, List.setIfInBounds_toArray, List.set_cons_zero, List.set_cons_succ]
    refine wpAnyH_done (by as_aux_lemma => kernel_rfl) ?_ _
    go_wp2
    go_ret
    exact ⟨rfl, EP.trans Fx4⟩
theorem walk_CircWide (w : World) (T0 : Tu w) (K Q : Int) (bK : -9223372036854775808 ≤ K ∧ K ≤ 9223372036854775807) (bQ : -9223372036854775808 ≤ Q ∧ Q ≤ 9223372036854775807) (n : Int) (hn : 0 ≤ n ∧ n ≤ 255) :
    Calls Tryz.prog 4 #[.agg #[.int .i64 K, .int .i64 Q], .int .u8 n] w (RetE w (.bool true)) := by
  cases hr : goodT K Q with
  | false => exact wide_no w T0 K Q n 0 bK bQ hn hr
  | true =>
    have hr2 := hr
    obtain ⟨⟨q0, q14⟩, hK⟩ := goodT_iff.1 hr2
    obtain ⟨Q, rfl⟩ := Int.eq_ofNat_of_zero_le q0
    replace q14 : Q ≤ 14 := by omega
    obtain ⟨N, hN⟩ := Int.eq_ofNat_of_zero_le (show 0 ≤ n % 70 + 1 by omega)
    obtain ⟨r1, r2⟩ := cv_range (tv K Q)
    have f0 := tv_fine (K := K) q14
    have hv := tv_range K Q
    obtain ⟨kf, qf, hf, hf14⟩ := fm_good hv.1 hv.2 f0
    have a := tgt_at N r1.1 r1.2
    have b := tgt_at N r2.1 r2.2
    have a2 := a.rg r1.1 r1.2
    have b2 := b.rg r2.1 r2.2
    have a3 := a.unit r1.1 r1.2
    have b3 := b.unit r2.1 r2.2
    have HC := Lib.hid fun w' T' P' => ccos_good w' K Q N _ _ _ hN rfl rfl hK q14 (by omega) (by omega) T' P'
    have HS := Lib.hid fun w' T' P' => csin_good w' K Q N _ _ _ hN rfl rfl hK q14 (by omega) (by omega) T' P'
    rcases Nat.lt_or_ge 2 qf with q2 | q2
    · have far := far_cv hf q2 hf14
      exact wide_n w T0 K n _ Q N _ _ _ _ bK q14 hr hn rfl hN (by omega) (by omega) HC HS (Lib.hid fun w' => rquarter_any w' K kf Q qf false (decide_eq_false (by omega)) bK (by omega) hf) a2.1 a2.2 b2.1 b2.2 a3.2.1 b3.2.1 a3.1 a3.2.2 b3.1 b3.2.2
        (by rw [a.apart far.1 (by omega)]; grind) (by rw [b.apart far.2 (by omega)]; grind)
    · obtain ⟨z, y, h1, h2, h3⟩ := quarter_num hf q2
      have t1 := (tgt_point N z _ h1).is
      have t2 := (tgt_point N y _ h2).is
      refine wide_q w T0 K n _ Q N _ _ _ _ bK q14 hr hn rfl hN (by omega) (by omega) HC HS (Lib.hid fun w' => rquarter_any w' K kf Q qf true (decide_eq_true q2) bK (by omega) hf) a2.1 a2.2 b2.1 b2.2 a3.2.1 b3.2.1 a3.1 a3.2.2 b3.1 b3.2.2 ?_ ?_ ?_
      · rw [t1.1, t1.2]
      · rw [t2.1, t2.2]
      · rw [t1.1, t2.1, dy_mul, dy_mul, show (0 : Int) + 0 = 0 from rfl, dy_add, h3]; rfl
end Go.Proofs.YtomdbmjfehoodaaGreatDoor
