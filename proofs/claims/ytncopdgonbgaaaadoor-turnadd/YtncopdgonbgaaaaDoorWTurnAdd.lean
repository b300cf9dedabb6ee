/- The walk of TurnAdd. -/
import Derived.Test.YtncopdgonbgaaaaDoorTL
namespace Go.Proofs.YtncopdgonbgaaaaDoor
open Go.RowKit
set_option linter.unusedVariables false
theorem rright_lit (w : World) (K Q : Int) (r : Bool) (hr : rightT K Q = r) (hK : -9223372036854775808 ≤ K ∧ K ≤ 9223372036854775807) (hQ : -9223372036854775808 ≤ Q ∧ Q ≤ 9223372036854775807) : Calls Tryd.prog 13 #[.agg #[.int .i64 K, .int .i64 Q]] w (RetE w (.bool r)) := by
  subst hr; exact rrightT_any w K Q hK hQ
set_option maxRecDepth 100000 in
set_option maxHeartbeats 4000000 in
theorem add_noa (w : World) (T0 : Tu w) (Ka Qa : Int) (hKa : -9223372036854775808 ≤ Ka ∧ Ka ≤ 9223372036854775807) (hQa : -9223372036854775808 ≤ Qa ∧ Qa ≤ 9223372036854775807) (Kb Qb : Int) (hKb : -9223372036854775808 ≤ Kb ∧ Kb ≤ 9223372036854775807) (hQb : -9223372036854775808 ≤ Qb ∧ Qb ≤ 9223372036854775807) (Kc Qc : Int) (hKc : -9223372036854775808 ≤ Kc ∧ Kc ≤ 9223372036854775807) (hQc : -9223372036854775808 ≤ Qc ∧ Qc ≤ 9223372036854775807) (n : Int) (hn : 0 ≤ n ∧ n ≤ 255) (ra : rightT Ka Qa = false) :
    Calls Tryd.prog 5 #[.agg #[.int .i64 Ka, .int .i64 Qa], .agg #[.int .i64 Kb, .int .i64 Qb], .agg #[.int .i64 Kc, .int .i64 Qc], .int .u8 n] w (RetE w (.bool true)) := by
  have Ha := Lib.hid (fun w' => rright_lit w' Ka Qa false ra hKa hQa)
  clear hKa hQa hKb hQb hKc hQc hn ra
  have T := Lib.hid T0
  clear T0
  go_enter Tryd.func5, Tryd.ntmps5
  go_wp2_with fail
  refine (headT_any _ (T.out.ext ((((Ext.refl w).alloc _).alloc _).alloc _))).mono ?_
  rintro _ w1 ⟨rfl, f1⟩
  have Ba : B2 w1 (w.heap.size) (.int .i64 Ka) (.int .i64 Qa) := B2.at ((((Ext.refl _).alloc _).alloc _).trans f1) (by simp)
  have Bb : B2 w1 (w.heap.size + 1) (.int .i64 Kb) (.int .i64 Qb) := B2.at (((Ext.refl _).alloc _).trans f1) (by simp)
  have Bc : B2 w1 (w.heap.size + 1 + 1) (.int .i64 Kc) (.int .i64 Qc) := B2.at ((Ext.refl _).trans f1) (by simp)
  have e1 : Ext w w1 := ((((Ext.refl w).alloc _).alloc _).alloc _).trans f1
  have E1 : Ext w w1 := e1
  clear f1
  obtain ⟨Ba_0, Ba_1⟩ := id Ba
  have Ba_l := World.block_lt_of_cell? _ _ Ba_0
  go_wp2_with fail
  refine (Ha.out _).mono ?_
  rintro _ w2 ⟨rfl, f2⟩
  clear Ba_0 Ba_1 Ba_l
  have e2 : Ext w1 w2 := (Ext.refl w1).trans f2
  replace Ba := Ba.ext e2
  replace Bb := Bb.ext e2
  replace Bc := Bc.ext e2
  have E2 : Ext w w2 := E1.trans e2
  clear f2
  go_wp2
  go_ret
  exact ⟨rfl, E2⟩
set_option maxRecDepth 100000 in
set_option maxHeartbeats 4000000 in
theorem add_nob (w : World) (T0 : Tu w) (Ka Qa : Int) (hKa : -9223372036854775808 ≤ Ka ∧ Ka ≤ 9223372036854775807) (hQa : -9223372036854775808 ≤ Qa ∧ Qa ≤ 9223372036854775807) (Kb Qb : Int) (hKb : -9223372036854775808 ≤ Kb ∧ Kb ≤ 9223372036854775807) (hQb : -9223372036854775808 ≤ Qb ∧ Qb ≤ 9223372036854775807) (Kc Qc : Int) (hKc : -9223372036854775808 ≤ Kc ∧ Kc ≤ 9223372036854775807) (hQc : -9223372036854775808 ≤ Qc ∧ Qc ≤ 9223372036854775807) (n : Int) (hn : 0 ≤ n ∧ n ≤ 255) (ra : rightT Ka Qa = true) (rb : rightT Kb Qb = false) :
    Calls Tryd.prog 5 #[.agg #[.int .i64 Ka, .int .i64 Qa], .agg #[.int .i64 Kb, .int .i64 Qb], .agg #[.int .i64 Kc, .int .i64 Qc], .int .u8 n] w (RetE w (.bool true)) := by
  have Ha := Lib.hid (fun w' => rright_lit w' Ka Qa true ra hKa hQa)
  have Hb := Lib.hid (fun w' => rright_lit w' Kb Qb false rb hKb hQb)
  clear hKa hQa hKb hQb hKc hQc hn ra rb
  have T := Lib.hid T0
  clear T0
  go_enter Tryd.func5, Tryd.ntmps5
  go_wp2_with fail
  refine (headT_any _ (T.out.ext ((((Ext.refl w).alloc _).alloc _).alloc _))).mono ?_
  rintro _ w1 ⟨rfl, f1⟩
  have Ba : B2 w1 (w.heap.size) (.int .i64 Ka) (.int .i64 Qa) := B2.at ((((Ext.refl _).alloc _).alloc _).trans f1) (by simp)
  have Bb : B2 w1 (w.heap.size + 1) (.int .i64 Kb) (.int .i64 Qb) := B2.at (((Ext.refl _).alloc _).trans f1) (by simp)
  have Bc : B2 w1 (w.heap.size + 1 + 1) (.int .i64 Kc) (.int .i64 Qc) := B2.at ((Ext.refl _).trans f1) (by simp)
  have e1 : Ext w w1 := ((((Ext.refl w).alloc _).alloc _).alloc _).trans f1
  have E1 : Ext w w1 := e1
  clear f1
  obtain ⟨Ba_0, Ba_1⟩ := id Ba
  have Ba_l := World.block_lt_of_cell? _ _ Ba_0
  go_wp2_with fail
  refine (Ha.out _).mono ?_
  rintro _ w2 ⟨rfl, f2⟩
  clear Ba_0 Ba_1 Ba_l
  have e2 : Ext w1 w2 := (Ext.refl w1).trans f2
  replace Ba := Ba.ext e2
  replace Bb := Bb.ext e2
  replace Bc := Bc.ext e2
  have E2 : Ext w w2 := E1.trans e2
  clear f2
  obtain ⟨Bb_0, Bb_1⟩ := id Bb
  have Bb_l := World.block_lt_of_cell? _ _ Bb_0
  go_wp2_with fail
  refine (Hb.out _).mono ?_
  rintro _ w3 ⟨rfl, f3⟩
  clear Bb_0 Bb_1 Bb_l
  have e3 : Ext w2 w3 := (Ext.refl w2).trans f3
  replace Ba := Ba.ext e3
  replace Bb := Bb.ext e3
  replace Bc := Bc.ext e3
  have E3 : Ext w w3 := E2.trans e3
  clear f3
  go_wp2
  go_ret
  exact ⟨rfl, E3⟩
set_option maxRecDepth 100000 in
set_option maxHeartbeats 4000000 in
theorem add_noc (w : World) (T0 : Tu w) (Ka Qa : Int) (hKa : -9223372036854775808 ≤ Ka ∧ Ka ≤ 9223372036854775807) (hQa : -9223372036854775808 ≤ Qa ∧ Qa ≤ 9223372036854775807) (Kb Qb : Int) (hKb : -9223372036854775808 ≤ Kb ∧ Kb ≤ 9223372036854775807) (hQb : -9223372036854775808 ≤ Qb ∧ Qb ≤ 9223372036854775807) (Kc Qc : Int) (hKc : -9223372036854775808 ≤ Kc ∧ Kc ≤ 9223372036854775807) (hQc : -9223372036854775808 ≤ Qc ∧ Qc ≤ 9223372036854775807) (n : Int) (hn : 0 ≤ n ∧ n ≤ 255) (ra : rightT Ka Qa = true) (rb : rightT Kb Qb = true) (rc : rightT Kc Qc = false) :
    Calls Tryd.prog 5 #[.agg #[.int .i64 Ka, .int .i64 Qa], .agg #[.int .i64 Kb, .int .i64 Qb], .agg #[.int .i64 Kc, .int .i64 Qc], .int .u8 n] w (RetE w (.bool true)) := by
  have Ha := Lib.hid (fun w' => rright_lit w' Ka Qa true ra hKa hQa)
  have Hb := Lib.hid (fun w' => rright_lit w' Kb Qb true rb hKb hQb)
  have Hc := Lib.hid (fun w' => rright_lit w' Kc Qc false rc hKc hQc)
  clear hKa hQa hKb hQb hKc hQc hn ra rb rc
  have T := Lib.hid T0
  clear T0
  go_enter Tryd.func5, Tryd.ntmps5
  go_wp2_with fail
  refine (headT_any _ (T.out.ext ((((Ext.refl w).alloc _).alloc _).alloc _))).mono ?_
  rintro _ w1 ⟨rfl, f1⟩
  have Ba : B2 w1 (w.heap.size) (.int .i64 Ka) (.int .i64 Qa) := B2.at ((((Ext.refl _).alloc _).alloc _).trans f1) (by simp)
  have Bb : B2 w1 (w.heap.size + 1) (.int .i64 Kb) (.int .i64 Qb) := B2.at (((Ext.refl _).alloc _).trans f1) (by simp)
  have Bc : B2 w1 (w.heap.size + 1 + 1) (.int .i64 Kc) (.int .i64 Qc) := B2.at ((Ext.refl _).trans f1) (by simp)
  have e1 : Ext w w1 := ((((Ext.refl w).alloc _).alloc _).alloc _).trans f1
  have E1 : Ext w w1 := e1
  clear f1
  obtain ⟨Ba_0, Ba_1⟩ := id Ba
  have Ba_l := World.block_lt_of_cell? _ _ Ba_0
  go_wp2_with fail
  refine (Ha.out _).mono ?_
  rintro _ w2 ⟨rfl, f2⟩
  clear Ba_0 Ba_1 Ba_l
  have e2 : Ext w1 w2 := (Ext.refl w1).trans f2
  replace Ba := Ba.ext e2
  replace Bb := Bb.ext e2
  replace Bc := Bc.ext e2
  have E2 : Ext w w2 := E1.trans e2
  clear f2
  obtain ⟨Bb_0, Bb_1⟩ := id Bb
  have Bb_l := World.block_lt_of_cell? _ _ Bb_0
  go_wp2_with fail
  refine (Hb.out _).mono ?_
  rintro _ w3 ⟨rfl, f3⟩
  clear Bb_0 Bb_1 Bb_l
  have e3 : Ext w2 w3 := (Ext.refl w2).trans f3
  replace Ba := Ba.ext e3
  replace Bb := Bb.ext e3
  replace Bc := Bc.ext e3
  have E3 : Ext w w3 := E2.trans e3
  clear f3
  obtain ⟨Bc_0, Bc_1⟩ := id Bc
  have Bc_l := World.block_lt_of_cell? _ _ Bc_0
  go_wp2_with fail
  refine (Hc.out _).mono ?_
  rintro _ w4 ⟨rfl, f4⟩
  clear Bc_0 Bc_1 Bc_l
  have e4 : Ext w3 w4 := (Ext.refl w3).trans f4
  replace Ba := Ba.ext e4
  replace Bb := Bb.ext e4
  replace Bc := Bc.ext e4
  have E4 : Ext w w4 := E3.trans e4
  clear f4
  go_wp2
  go_ret
  exact ⟨rfl, E4⟩
/-- What the loop of sums leaves: three boxes, and the sum so far. -/
structure LS (w wr : World) (gs : Nat) (Ka Kb Kc : Int) (Qa Qb Qc j : Nat) : Prop where
  out : ∃ (k : Int) (q : Nat), Ext w wr ∧ B2 wr w.heap.size (.int .i64 Ka) (.int .i64 (Qa : Int)) ∧ B2 wr (w.heap.size + 1) (.int .i64 Kb) (.int .i64 (Qb : Int)) ∧ B2 wr (w.heap.size + 1 + 1) (.int .i64 Kc) (.int .i64 (Qc : Int)) ∧
    M2 wr gs (.int .i64 k) (.int .i64 (q : Int)) ∧ Fm ((j : Int) * tv Ka Qa % 1099511627776) k q
theorem M2.at {w w' : World} {x y : Value} {t : TypeId} {g : Nat} (E : Ext (w.alloc (.cells #[x, y] t)) w') (hg : w.heap.size = g) : M2 w' g x y := (M2.fresh hg).ext E
theorem sum_step (j : Nat) (v : Int) : ((j : Int) * v % 1099511627776 + v) % 1099511627776 = ((j + 1 : Nat) : Int) * v % 1099511627776 := by
  rw [Int.emod_add_emod, show ((j + 1 : Nat) : Int) = (j : Int) + 1 from rfl, Int.add_mul, Int.one_mul]
set_option maxRecDepth 100000 in
set_option maxHeartbeats 4000000 in
theorem add_in (w : World) (T0 : Tu w) (Ka : Int) (Qa : Nat) (hKa : -1099511627776 ≤ Ka ∧ Ka ≤ 1099511627776) (hQa : Qa ≤ 40) (Kb : Int) (Qb : Nat) (hKb : -1099511627776 ≤ Kb ∧ Kb ≤ 1099511627776) (hQb : Qb ≤ 40) (Kc : Int) (Qc : Nat) (hKc : -1099511627776 ≤ Kc ∧ Kc ≤ 1099511627776) (hQc : Qc ≤ 40) (n : Int) (hn : 0 ≤ n ∧ n ≤ 255) :
    Calls Tryd.prog 5 #[.agg #[.int .i64 Ka, .int .i64 Qa], .agg #[.int .i64 Kb, .int .i64 Qb], .agg #[.int .i64 Kc, .int .i64 Qc], .int .u8 n] w (RetE w (.bool true)) := by
  obtain ⟨n, rfl⟩ := Int.eq_ofNat_of_zero_le hn.1
  have hn2 : n ≤ 255 := by omega
  have va := tv_range Ka Qa
  have vb := tv_range Kb Qb
  have vc := tv_range Kc Qc
  have ra : rightT Ka Qa = true := rightT_iff.2 (by omega)
  have Ha := Lib.hid (fun w' => rright_lit w' Ka Qa true ra (by omega) (by omega))
  have rb : rightT Kb Qb = true := rightT_iff.2 (by omega)
  have Hb := Lib.hid (fun w' => rright_lit w' Kb Qb true rb (by omega) (by omega))
  have rc : rightT Kc Qc = true := rightT_iff.2 (by omega)
  have Hc := Lib.hid (fun w' => rright_lit w' Kc Qc true rc (by omega) (by omega))
  have HADD := Lib.hid (fun w' (T' : Tu w') (k : Int) (q : Nat) (v : Int) (hk : Fm v k q) (k2 : Int) (q2 : Nat) (h : Fm ((v + tv Ka Qa) % 1099511627776) k2 q2) => tadd_any w' T'.tb k Ka k2 q Qa q2 (by have a := hk.low; have b := p2_le a.2.2.1; rw [p2_40] at b; omega) hKa hk.low.2.2.1 hQa (by rw [hk.tv]; exact h))
  have HRT := Lib.hid (fun w' (k : Int) (q : Nat) (v : Int) (hk : Fm v k q) => rright_lit w' k q true (rightT_iff.2 (by have a := hk.low; have b := p2_le a.2.2.1; rw [p2_40] at b; omega)) (by have a := hk.low; have b := p2_le a.2.2.1; rw [p2_40] at b; omega) (by have a := hk.low; omega))
  have HX := Lib.hid (And.intro hKa (And.intro hQa (And.intro hKb (And.intro hQb (And.intro hKc hQc)))))
  have HV := Lib.hid (And.intro va (And.intro vb vc))
  have hnw : IntKind.i64.wrap (n : Int) = n := IntWalk.i64_in _ (by omega)
  clear va vb vc ra rb rc hKa hQa hKb hQb hKc hQc hn
  have T := Lib.hid T0
  clear T0
  go_enter Tryd.func5, Tryd.ntmps5
  go_wp2_with fail
  refine (headT_any _ (T.out.ext ((((Ext.refl w).alloc _).alloc _).alloc _))).mono ?_
  rintro _ w1 ⟨rfl, f1⟩
  have Ba : B2 w1 (w.heap.size) (.int .i64 Ka) (.int .i64 (Qa : Int)) := B2.at ((((Ext.refl _).alloc _).alloc _).trans f1) (by simp)
  have Bb : B2 w1 (w.heap.size + 1) (.int .i64 Kb) (.int .i64 (Qb : Int)) := B2.at (((Ext.refl _).alloc _).trans f1) (by simp)
  have Bc : B2 w1 (w.heap.size + 1 + 1) (.int .i64 Kc) (.int .i64 (Qc : Int)) := B2.at ((Ext.refl _).trans f1) (by simp)
  have e1 : Ext w w1 := ((((Ext.refl w).alloc _).alloc _).alloc _).trans f1
  have E1 : Ext w w1 := e1
  clear f1
  obtain ⟨Ba_0, Ba_1⟩ := id Ba
  have Ba_l := World.block_lt_of_cell? _ _ Ba_0
  go_wp2_with fail
  refine (Ha.out _).mono ?_
  rintro _ w2 ⟨rfl, f2⟩
  clear Ba_0 Ba_1 Ba_l
  have e2 : Ext w1 w2 := (Ext.refl w1).trans f2
  replace Ba := Ba.ext e2
  replace Bb := Bb.ext e2
  replace Bc := Bc.ext e2
  have E2 : Ext w w2 := E1.trans e2
  clear f2
  obtain ⟨Bb_0, Bb_1⟩ := id Bb
  have Bb_l := World.block_lt_of_cell? _ _ Bb_0
  go_wp2_with fail
  refine (Hb.out _).mono ?_
  rintro _ w3 ⟨rfl, f3⟩
  clear Bb_0 Bb_1 Bb_l
  have e3 : Ext w2 w3 := (Ext.refl w2).trans f3
  replace Ba := Ba.ext e3
  replace Bb := Bb.ext e3
  replace Bc := Bc.ext e3
  have E3 : Ext w w3 := E2.trans e3
  clear f3
  obtain ⟨Bc_0, Bc_1⟩ := id Bc
  have Bc_l := World.block_lt_of_cell? _ _ Bc_0
  go_wp2_with fail
  refine (Hc.out _).mono ?_
  rintro _ w4 ⟨rfl, f4⟩
  clear Bc_0 Bc_1 Bc_l
  have e4 : Ext w3 w4 := (Ext.refl w3).trans f4
  replace Ba := Ba.ext e4
  replace Bb := Bb.ext e4
  replace Bc := Bc.ext e4
  have E4 : Ext w w4 := E3.trans e4
  clear f4
  go_wp2
  have E' := E4
  have Ba' := Ba
  have Bb' := Bb
  have Bc' := Bc
  clear Ba Bb Bc E1 E2 E3 E4 e1 e2 e3 e4
  go_loopw [11] (fun i wr => ∃ j : Nat, i = .int .i64 (j : Int) ∧ j ≤ n ∧ LS w wr w4.heap.size Ka Kb Kc Qa Qb Qc j) (fun i _ => (n - (intOf i)).toNat)
  case atStart => exact ⟨0, rfl, by omega, ⟨0, 0, E'.alloc _, Ba'.ext ((Ext.refl _).alloc _), Bb'.ext ((Ext.refl _).alloc _), Bc'.ext ((Ext.refl _).alloc _), M2.fresh rfl, by rw [show ((0 : Nat) : Int) * tv Ka Qa % 1099511627776 = 0 by simp]; exact fm_zero⟩⟩
  case round =>
    have hgs : w.heap.size + 1 + 1 < w4.heap.size := World.block_lt_of_cell? _ _ Bc'.c0
    clear E' Ba' Bb' Bc'
    generalize w4.heap.size = gs at *
    obtain ⟨j, rfl, hj, hL⟩ := hrel
    obtain ⟨k, q, E, Ba, Bb, Bc, Bs, hs⟩ := hL.out
    clear hL
    by_cases hjn : j < n
    · have hsl := hs.low
      have hji : (j : Int) < (n : Int) := by omega
      obtain ⟨k2, q2, hs2⟩ : ∃ k2 q2, Fm (((j : Int) * tv Ka Qa % 1099511627776 + tv Ka Qa) % 1099511627776) k2 q2 := fm_there (by omega) (by omega)
      have HS := Lib.hid hs
      have HS2 := Lib.hid hs2
      clear hs hs2 hsl
      obtain ⟨Ba_0, Ba_1⟩ := id Ba
      have Ba_l := World.block_lt_of_cell? _ _ Ba_0
      obtain ⟨Bs_0, Bs_1, Bs_f⟩ := id Bs
      have Bs_f0 := Bs_f 0
      have Bs_f1 := Bs_f 1
      have Bs_l := World.block_lt_of_cell? _ _ Bs_0
      clear Bs_f
      go_wp2_with fail
      refine (HADD.out _ (T.out.ext E) k q _ HS.out k2 q2 HS2.out).mono ?_
      rintro _ x1 ⟨rfl, f1⟩
      clear Ba_0 Ba_1 Ba_l Bs_0 Bs_1 Bs_f0 Bs_f1 Bs_l
      replace E := E.trans f1
      replace Ba := Ba.ext f1
      replace Bb := Bb.ext f1
      replace Bc := Bc.ext f1
      replace Bs := Bs.ext f1
      clear f1
      obtain ⟨Bs_0, Bs_1, Bs_f⟩ := id Bs
      have Bs_f0 := Bs_f 0
      have Bs_f1 := Bs_f 1
      have Bs_l := World.block_lt_of_cell? _ _ Bs_0
      clear Bs_f
      go_wp2_with fail
      refine (HRT.out _ k2 q2 _ HS2.out).mono ?_
      rintro _ x2 ⟨rfl, f2⟩
      clear Bs_0 Bs_1 Bs_f0 Bs_f1 Bs_l
      have En := ((E.setCell (show w.heap.size ≤ gs by omega) (.int .i64 k2)).setCell (show w.heap.size ≤ gs by omega) (.int .i64 (q2 : Int))).trans f2
      have Bsn := (Bs.store (a := .int .i64 k2) (b := .int .i64 (q2 : Int))).ext f2
      have Ban := (Ba.off (a := .int .i64 k2) (b := .int .i64 (q2 : Int)) (show (w.heap.size : Nat) ≠ gs by omega)).ext f2
      have Bbn := (Bb.off (a := .int .i64 k2) (b := .int .i64 (q2 : Int)) (show (w.heap.size + 1 : Nat) ≠ gs by omega)).ext f2
      have Bcn := (Bc.off (a := .int .i64 k2) (b := .int .i64 (q2 : Int)) (show (w.heap.size + 1 + 1 : Nat) ≠ gs by omega)).ext f2
      clear E Ba Bb Bc Bs f2
      go_wp2
      go_roundw
      case rel => exact ⟨j + 1, by go_num, by omega, ⟨k2, q2, En, Ban, Bbn, Bcn, Bsn, by rw [← sum_step]; exact HS2.out⟩⟩
      case measure => simp [intOf]; omega
    · obtain rfl : j = n := by omega
      have hjj : ¬ (j : Int) < (j : Int) := by omega
      obtain ⟨⟨va0, va1⟩, ⟨vb0, vb1⟩, vc0, vc1⟩ := HV.out
      obtain ⟨hKa, hQa, hKb, hQb, hKc, hQc⟩ := HX.out
      replace Bs := Bs.b2
      obtain ⟨kd, qd, hd⟩ : ∃ k q, Fm ((tv Ka Qa + tv Kb Qb) % 1099511627776) k q := fm_there (by omega) (by omega)
      obtain ⟨ke, qe, he⟩ : ∃ k q, Fm ((tv Kb Qb + tv Kc Qc) % 1099511627776) k q := fm_there (by omega) (by omega)
      obtain ⟨kt, qt, ht⟩ : ∃ k q, Fm ((tv Ka Qa + tv Kb Qb + tv Kc Qc) % 1099511627776) k q := fm_there (by omega) (by omega)
      obtain ⟨kf, qf, hf⟩ : ∃ k q, Fm ((-tv Ka Qa) % 1099511627776) k q := fm_there (by omega) (by omega)
      obtain ⟨ki, qi, hi⟩ : ∃ k q, Fm (tv Ka Qa) k q := fm_there (by omega) (by omega)
      obtain ⟨km, qm, hm⟩ : ∃ k q, Fm ((-(j : Int)) * tv Ka Qa % 1099511627776) k q := fm_there (by omega) (by omega)
      have bd := hd.low
      have be := he.low
      have bf := hf.low
      have bs := hs.low
      have pd := p2_le bd.2.2.1
      have pe := p2_le be.2.2.1
      have pf := p2_le bf.2.2.1
      have ps := p2_le bs.2.2.1
      rw [p2_40] at pd pe pf ps
      have HAB := Lib.hid (fun w' (T' : Tu w') => tadd_any w' T'.tb Ka Kb kd Qa Qb qd hKa hKb hQa hQb hd)
      have HBC := Lib.hid (fun w' (T' : Tu w') => tadd_any w' T'.tb Kb Kc ke Qb Qc qe hKb hKc hQb hQc he)
      have HBA := Lib.hid (fun w' (T' : Tu w') => tadd_any w' T'.tb Kb Ka kd Qb Qa qd hKb hKa hQb hQa (by rw [Int.add_comm]; exact hd))
      have HDC := Lib.hid (fun w' (T' : Tu w') => tadd_any w' T'.tb kd Kc kt qd Qc qt (by omega) hKc bd.2.2.1 hQc (by rw [hd.tv, Int.emod_add_emod]; exact ht))
      have HAE := Lib.hid (fun w' (T' : Tu w') => tadd_any w' T'.tb Ka ke kt Qa qe qt hKa (by omega) hQa be.2.2.1 (by rw [he.tv, Int.add_emod_emod, ← Int.add_assoc]; exact ht))
      have HF := Lib.hid (fun w' (T' : Tu w') => tflip_any w' T'.tb Ka kf Qa qf hKa hQa hf)
      have HAF := Lib.hid (fun w' (T' : Tu w') => tadd_any w' T'.tb Ka kf 0 Qa qf 0 hKa (by omega) hQa bf.2.2.1 (by rw [hf.tv, show (tv Ka Qa + -tv Ka Qa % 1099511627776) % 1099511627776 = 0 by omega]; exact fm_zero))
      have HA0 := Lib.hid (fun w' (T' : Tu w') => tadd_any w' T'.tb Ka 0 ki Qa 0 qi hKa (by omega) hQa (by omega) (by rw [show tv 0 0 = 0 by decide, show (tv Ka Qa + 0) % 1099511627776 = tv Ka Qa by omega]; exact hi))
      have HFA := Lib.hid (fun w' (T' : Tu w') => tform_any w' T'.tb Ka ki Qa qi hKa hQa hi)
      have HT1 := Lib.hid (fun w' (T' : Tu w') => ttimes_any w' T'.tb Ka (j : Int) k Qa q hKa hQa hs)
      have HT2 := Lib.hid (fun w' (T' : Tu w') => ttimes_any w' T'.tb Ka (-(j : Int)) km Qa qm hKa hQa hm)
      have HFS := Lib.hid (fun w' (T' : Tu w') => tflip_any w' T'.tb k km q qm (by omega) bs.2.2.1 (by rw [hs.tv, show (-((j : Int) * tv Ka Qa % 1099511627776)) % 1099511627776 = (-(j : Int)) * tv Ka Qa % 1099511627776 by rw [Int.neg_mul]; generalize (j : Int) * tv Ka Qa = z; omega]; exact hm))
      have HRD := Lib.hid (fun w' => HRT.out w' kd qd _ hd)
      have HRE := Lib.hid (fun w' => HRT.out w' ke qe _ he)
      have hng : IntKind.i64.wrap (-(j : Int)) = -(j : Int) := IntWalk.i64_in _ (by omega)
      have hngw : wrap64 (-(j : Int)) = -(j : Int) := by unfold wrap64; omega
      clear va0 va1 vb0 vb1 vc0 vc1 hKa hQa hKb hQb hKc hQc hd he ht hf hi hm bd be bf bs pd pe pf ps HV HX HADD HRT hs Ha Hb Hc
      obtain ⟨Ba_0, Ba_1⟩ := id Ba
      have Ba_l := World.block_lt_of_cell? _ _ Ba_0
      obtain ⟨Bb_0, Bb_1⟩ := id Bb
      have Bb_l := World.block_lt_of_cell? _ _ Bb_0
      go_wp2_with fail
      refine (HAB.out _ (T.out.ext (E.trans (Ext.refl wr)))).mono ?_
      rintro _ w11 ⟨rfl, f11⟩
      clear Ba_0 Ba_1 Ba_l Bb_0 Bb_1 Bb_l
      have e11 : Ext wr w11 := (Ext.refl wr).trans f11
      replace Ba := Ba.ext e11
      replace Bb := Bb.ext e11
      replace Bc := Bc.ext e11
      replace Bs := Bs.ext e11
      have E11 : Ext w w11 := E.trans e11
      clear f11
      obtain ⟨Bb_0, Bb_1⟩ := id Bb
      have Bb_l := World.block_lt_of_cell? _ _ Bb_0
      obtain ⟨Bc_0, Bc_1⟩ := id Bc
      have Bc_l := World.block_lt_of_cell? _ _ Bc_0
      go_wp2_with fail
      refine (HBC.out _ (T.out.ext (E11.trans ((Ext.refl w11).alloc _)))).mono ?_
      rintro _ w12 ⟨rfl, f12⟩
      clear Bb_0 Bb_1 Bb_l Bc_0 Bc_1 Bc_l
      have Bd : B2 w12 (w11.heap.size) (.int .i64 kd) (.int .i64 (qd : Int)) := B2.at ((Ext.refl _).trans f12) (by simp)
      have e12 : Ext w11 w12 := ((Ext.refl w11).alloc _).trans f12
      replace Ba := Ba.ext e12
      replace Bb := Bb.ext e12
      replace Bc := Bc.ext e12
      replace Bs := Bs.ext e12
      have E12 : Ext w w12 := E11.trans e12
      clear f12
      obtain ⟨Bd_0, Bd_1⟩ := id Bd
      have Bd_l := World.block_lt_of_cell? _ _ Bd_0
      go_wp2_with fail
      refine (HRD.out _).mono ?_
      rintro _ w13 ⟨rfl, f13⟩
      clear Bd_0 Bd_1 Bd_l
      have Be : B2 w13 (w12.heap.size) (.int .i64 ke) (.int .i64 (qe : Int)) := B2.at ((Ext.refl _).trans f13) (by simp)
      have e13 : Ext w12 w13 := ((Ext.refl w12).alloc _).trans f13
      replace Ba := Ba.ext e13
      replace Bb := Bb.ext e13
      replace Bc := Bc.ext e13
      replace Bs := Bs.ext e13
      replace Bd := Bd.ext e13
      have E13 : Ext w w13 := E12.trans e13
      clear f13
      obtain ⟨Be_0, Be_1⟩ := id Be
      have Be_l := World.block_lt_of_cell? _ _ Be_0
      go_wp2_with fail
      refine (HRE.out _).mono ?_
      rintro _ w14 ⟨rfl, f14⟩
      clear Be_0 Be_1 Be_l
      have e14 : Ext w13 w14 := (Ext.refl w13).trans f14
      replace Ba := Ba.ext e14
      replace Bb := Bb.ext e14
      replace Bc := Bc.ext e14
      replace Bs := Bs.ext e14
      replace Bd := Bd.ext e14
      replace Be := Be.ext e14
      have E14 : Ext w w14 := E13.trans e14
      clear f14
      obtain ⟨Ba_0, Ba_1⟩ := id Ba
      have Ba_l := World.block_lt_of_cell? _ _ Ba_0
      obtain ⟨Bb_0, Bb_1⟩ := id Bb
      have Bb_l := World.block_lt_of_cell? _ _ Bb_0
      obtain ⟨Bc_0, Bc_1⟩ := id Bc
      have Bc_l := World.block_lt_of_cell? _ _ Bc_0
      obtain ⟨Bd_0, Bd_1⟩ := id Bd
      have Bd_l := World.block_lt_of_cell? _ _ Bd_0
      obtain ⟨Be_0, Be_1⟩ := id Be
      have Be_l := World.block_lt_of_cell? _ _ Be_0
      obtain ⟨Bs_0, Bs_1⟩ := id Bs
      have Bs_l := World.block_lt_of_cell? _ _ Bs_0
      go_wp2
      refine wp_region_held_drew (S := (fun w' => (w'.cell? ⟨w.heap.size, 0, none⟩ = some (.int .i64 Ka) ∧ w'.cell? ⟨w.heap.size, 1, none⟩ = some (.int .i64 (Qa : Int))) ∧ (w'.cell? ⟨w.heap.size + 1, 0, none⟩ = some (.int .i64 Kb) ∧ w'.cell? ⟨w.heap.size + 1, 1, none⟩ = some (.int .i64 (Qb : Int))) ∧ (w'.cell? ⟨w.heap.size + 1 + 1, 0, none⟩ = some (.int .i64 Kc) ∧ w'.cell? ⟨w.heap.size + 1 + 1, 1, none⟩ = some (.int .i64 (Qc : Int))) ∧ (w'.cell? ⟨gs, 0, none⟩ = some (.int .i64 k) ∧ w'.cell? ⟨gs, 1, none⟩ = some (.int .i64 (q : Int))) ∧ (w'.cell? ⟨w11.heap.size, 0, none⟩ = some (.int .i64 kd) ∧ w'.cell? ⟨w11.heap.size, 1, none⟩ = some (.int .i64 (qd : Int))) ∧ (w'.cell? ⟨w12.heap.size, 0, none⟩ = some (.int .i64 ke) ∧ w'.cell? ⟨w12.heap.size, 1, none⟩ = some (.int .i64 (qe : Int))))) (by as_aux_lemma => kernel_rfl) ⟨b2 (Ba.ext (Ext.refl w14).drew), b2 (Bb.ext (Ext.refl w14).drew), b2 (Bc.ext (Ext.refl w14).drew), b2 (Bs.ext (Ext.refl w14).drew), b2 (Bd.ext (Ext.refl w14).drew), b2 (Be.ext (Ext.refl w14).drew)⟩ (fun hHeld => ?_)
      refine wpAnyH_take (i := 0) (v := ?_) rfl (by as_aux_lemma => kernel_rfl) (by as_aux_lemma => kernel_rfl) (by as_aux_lemma => kernel_rfl) (fun _ _ _ h => h) (Or.inl ⟨by rfl, ?_⟩) (by assumption) ?_
      rotate_left
      · (intro w hSw; (try dsimp only at hSw); go_simp); (try with_reducible rfl)
      simp only [List.getElem_toArray, List.getElem_cons_zero, Act.put, List.setIfInBounds_toArray, List.set_cons_zero, List.set_cons_succ]
      refine wpAnyH_take (i := 1) (v := ?_) rfl (by as_aux_lemma => kernel_rfl) (by as_aux_lemma => kernel_rfl) (by as_aux_lemma => kernel_rfl) (fun _ _ _ h => h) (Or.inl ⟨by rfl, ?_⟩) (by assumption) ?_
      rotate_left
      · (intro w hSw; (try dsimp only at hSw); go_simp); (try with_reducible rfl)
      simp only [List.getElem_toArray, List.getElem_cons_zero, List.getElem_cons_succ, Act.put, List.setIfInBounds_toArray, List.set_cons_zero, List.set_cons_succ]
      refine wpAnyH_take (i := 2) (v := ?_) rfl (by as_aux_lemma => kernel_rfl) (by as_aux_lemma => kernel_rfl) (by as_aux_lemma => kernel_rfl) (fun _ _ _ h => h) (Or.inl ⟨by rfl, ?_⟩) (by assumption) ?_
      rotate_left
      · (intro w hSw; (try dsimp only at hSw); go_simp); (try with_reducible rfl)
      simp only [List.getElem_toArray, List.getElem_cons_zero, List.getElem_cons_succ, Act.put, List.setIfInBounds_toArray, List.set_cons_zero, List.set_cons_succ]
      refine wpAnyH_take (i := 3) (v := ?_) rfl (by as_aux_lemma => kernel_rfl) (by as_aux_lemma => kernel_rfl) (by as_aux_lemma => kernel_rfl) (fun _ _ _ h => h) (Or.inl ⟨by rfl, ?_⟩) (by assumption) ?_
      rotate_left
      · (intro w hSw; (try dsimp only at hSw); go_simp); (try with_reducible rfl)
      simp only [List.getElem_toArray, List.getElem_cons_zero, List.getElem_cons_succ, Act.put, List.setIfInBounds_toArray, List.set_cons_zero, List.set_cons_succ]
      refine wpAnyH_take (i := 4) (v := ?_) rfl (by as_aux_lemma => kernel_rfl) (by as_aux_lemma => kernel_rfl) (by as_aux_lemma => kernel_rfl) (fun _ _ _ h => h) (Or.inl ⟨by rfl, ?_⟩) (by assumption) ?_
      rotate_left
      · (intro w hSw; (try dsimp only at hSw); go_simp); (try with_reducible rfl)
      simp only [List.getElem_toArray, List.getElem_cons_zero, List.getElem_cons_succ, Act.put, List.setIfInBounds_toArray, List.set_cons_zero, List.set_cons_succ]
      refine wpAnyH_ready (rs := [5]) (by as_aux_lemma => kernel_rfl) (by simp) ?_
      refine AllReadyH.cons rfl (fun K hK => ?_) AllReadyH.nil
      go_simp
      refine (HBA.out _ (T.out.ext (E14.trans (Ext.refl w14).drew))).mono ?_
      rintro _ uz1 ⟨rfl, euz1⟩
      have Fz1 : Ext w14 uz1 := (Ext.refl w14).drew.trans euz1
      refine hK.out _ _ ⟨b2 (Ba.ext Fz1), b2 (Bb.ext Fz1), b2 (Bc.ext Fz1), b2 (Bs.ext Fz1), b2 (Bd.ext Fz1), b2 (Be.ext Fz1)⟩ (fun hHeld => ?_)
      clear hK K euz1
      refine wpAnyH_take (i := 6) (v := ?_) rfl (by as_aux_lemma => kernel_rfl) (by as_aux_lemma => kernel_rfl) (by as_aux_lemma => kernel_rfl) (fun _ _ _ h => h) (Or.inl ⟨by rfl, ?_⟩) (by assumption) ?_
      rotate_left
      · (intro w hSw; (try dsimp only at hSw); go_simp); (try with_reducible rfl)
      simp only [List.getElem_toArray, List.getElem_cons_zero, List.getElem_cons_succ, Act.put, List.setIfInBounds_toArray, List.set_cons_zero, List.set_cons_succ]
      refine wpAnyH_take (i := 7) (v := ?_) rfl (by as_aux_lemma => kernel_rfl) (by as_aux_lemma => kernel_rfl) (by as_aux_lemma => kernel_rfl) (fun _ _ _ h => h) (Or.inl ⟨by rfl, ?_⟩) (by assumption) ?_
      rotate_left
      · (intro w hSw; (try dsimp only at hSw); go_simp); (try with_reducible rfl)
      simp only [List.getElem_toArray, List.getElem_cons_zero, List.getElem_cons_succ, Act.put, List.setIfInBounds_toArray, List.set_cons_zero, List.set_cons_succ]
      refine wpAnyH_take (i := 8) (v := ?_) rfl (by as_aux_lemma => kernel_rfl) (by as_aux_lemma => kernel_rfl) (by as_aux_lemma => kernel_rfl) (fun _ _ _ h => h) (Or.inl ⟨by rfl, ?_⟩) (by assumption) ?_
      rotate_left
      · (intro w hSw; (try dsimp only at hSw); go_simp); (try with_reducible rfl)
      simp only [List.getElem_toArray, List.getElem_cons_zero, List.getElem_cons_succ, Act.put, List.setIfInBounds_toArray, List.set_cons_zero, List.set_cons_succ]
      refine wpAnyH_take (i := 9) (v := ?_) rfl (by as_aux_lemma => kernel_rfl) (by as_aux_lemma => kernel_rfl) (by as_aux_lemma => kernel_rfl) (fun _ _ _ h => h) (Or.inl ⟨by rfl, ?_⟩) (by assumption) ?_
      rotate_left
      · (intro w hSw; (try dsimp only at hSw); go_simp); (try with_reducible rfl)
      simp only [List.getElem_toArray, List.getElem_cons_zero, List.getElem_cons_succ, Act.put, List.setIfInBounds_toArray, List.set_cons_zero, List.set_cons_succ]
      refine wpAnyH_take (i := 10) (v := ?_) rfl (by as_aux_lemma => kernel_rfl) (by as_aux_lemma => kernel_rfl) (by as_aux_lemma => kernel_rfl) (fun _ _ _ h => h) (Or.inl ⟨by rfl, ?_⟩) (by assumption) ?_
      rotate_left
      · (intro w hSw; (try dsimp only at hSw); go_simp); (try with_reducible rfl)
      simp only [List.getElem_toArray, List.getElem_cons_zero, List.getElem_cons_succ, Act.put, List.setIfInBounds_toArray, List.set_cons_zero, List.set_cons_succ]
      refine wpAnyH_take (i := 12) (v := ?_) rfl (by as_aux_lemma => kernel_rfl) (by as_aux_lemma => kernel_rfl) (by as_aux_lemma => kernel_rfl) (fun _ _ _ h => h) (Or.inl ⟨by rfl, ?_⟩) (by assumption) ?_
      rotate_left
      · (intro w hSw; (try dsimp only at hSw); go_simp); (try with_reducible rfl)
      simp only [List.getElem_toArray, List.getElem_cons_zero, List.getElem_cons_succ, Act.put, List.setIfInBounds_toArray, List.set_cons_zero, List.set_cons_succ]
      refine wpAnyH_take (i := 13) (v := ?_) rfl (by as_aux_lemma => kernel_rfl) (by as_aux_lemma => kernel_rfl) (by as_aux_lemma => kernel_rfl) (fun _ _ _ h => h) (Or.inl ⟨by rfl, ?_⟩) (by assumption) ?_
      rotate_left
      · (intro w hSw; (try dsimp only at hSw); go_simp); (try with_reducible rfl)
      simp only [List.getElem_toArray, List.getElem_cons_zero, List.getElem_cons_succ, Act.put, List.setIfInBounds_toArray, List.set_cons_zero, List.set_cons_succ]
      refine wpAnyH_ready (rs := [11]) (by as_aux_lemma => kernel_rfl) (by simp) ?_
      refine AllReadyH.cons rfl (fun K hK => ?_) AllReadyH.nil
      go_simp
      refine (HDC.out _ (T.out.ext (E14.trans Fz1))).mono ?_
      rintro _ uz2 ⟨rfl, euz2⟩
      have Fz2 : Ext w14 uz2 := Fz1.trans euz2
      refine hK.out _ _ ⟨b2 (Ba.ext Fz2), b2 (Bb.ext Fz2), b2 (Bc.ext Fz2), b2 (Bs.ext Fz2), b2 (Bd.ext Fz2), b2 (Be.ext Fz2)⟩ (fun hHeld => ?_)
      clear hK K euz2 Fz1
      refine wpAnyH_ready (rs := [14]) (by as_aux_lemma => kernel_rfl) (by simp) ?_
      refine AllReadyH.cons rfl (fun K hK => ?_) AllReadyH.nil
      go_simp
      refine (HAE.out _ (T.out.ext (E14.trans Fz2))).mono ?_
      rintro _ uz3 ⟨rfl, euz3⟩
      have Fz3 : Ext w14 uz3 := Fz2.trans euz3
      refine hK.out _ _ ⟨b2 (Ba.ext Fz3), b2 (Bb.ext Fz3), b2 (Bc.ext Fz3), b2 (Bs.ext Fz3), b2 (Bd.ext Fz3), b2 (Be.ext Fz3)⟩ (fun hHeld => ?_)
      clear hK K euz3 Fz2
      refine wpAnyH_take (i := 15) (v := ?_) rfl (by as_aux_lemma => kernel_rfl) (by as_aux_lemma => kernel_rfl) (by as_aux_lemma => kernel_rfl) (fun _ _ _ h => h) (Or.inl ⟨by rfl, ?_⟩) (by assumption) ?_
      rotate_left
      · (intro w hSw; (try dsimp only at hSw); go_simp); (try with_reducible rfl)
      simp only [List.getElem_toArray, List.getElem_cons_zero, List.getElem_cons_succ, Act.put, List.setIfInBounds_toArray, List.set_cons_zero, List.set_cons_succ]
      refine wpAnyH_take (i := 16) (v := ?_) rfl (by as_aux_lemma => kernel_rfl) (by as_aux_lemma => kernel_rfl) (by as_aux_lemma => kernel_rfl) (fun _ _ _ h => h) (Or.inl ⟨by rfl, ?_⟩) (by assumption) ?_
      rotate_left
      · (intro w hSw; (try dsimp only at hSw); go_simp); (try with_reducible rfl)
      simp only [List.getElem_toArray, List.getElem_cons_zero, List.getElem_cons_succ, Act.put, List.setIfInBounds_toArray, List.set_cons_zero, List.set_cons_succ]
      refine wpAnyH_take (i := 17) (v := ?_) rfl (by as_aux_lemma => kernel_rfl) (by as_aux_lemma => kernel_rfl) (by as_aux_lemma => kernel_rfl) (fun _ _ _ h => h) (Or.inl ⟨by rfl, ?_⟩) (by assumption) ?_
      rotate_left
      · (intro w hSw; (try dsimp only at hSw); go_simp); (try with_reducible rfl)
      simp only [List.getElem_toArray, List.getElem_cons_zero, List.getElem_cons_succ, Act.put, List.setIfInBounds_toArray, List.set_cons_zero, List.set_cons_succ]
      refine wpAnyH_take (i := 18) (v := ?_) rfl (by as_aux_lemma => kernel_rfl) (by as_aux_lemma => kernel_rfl) (by as_aux_lemma => kernel_rfl) (fun _ _ _ h => h) (Or.inl ⟨by rfl, ?_⟩) (by assumption) ?_
      rotate_left
      · (intro w hSw; (try dsimp only at hSw); go_simp); (try with_reducible rfl)
      simp only [List.getElem_toArray, List.getElem_cons_zero, List.getElem_cons_succ, Act.put, List.setIfInBounds_toArray, List.set_cons_zero, List.set_cons_succ]
      refine wpAnyH_take (i := 19) (v := ?_) rfl (by as_aux_lemma => kernel_rfl) (by as_aux_lemma => kernel_rfl) (by as_aux_lemma => kernel_rfl) (fun _ _ _ h => h) (Or.inl ⟨by rfl, ?_⟩) (by assumption) ?_
      rotate_left
      · (intro w hSw; (try dsimp only at hSw); go_simp); (try with_reducible rfl)
      simp only [List.getElem_toArray, List.getElem_cons_zero, List.getElem_cons_succ, Act.put, List.setIfInBounds_toArray, List.set_cons_zero, List.set_cons_succ]
      refine wpAnyH_take (i := 22) (v := ?_) rfl (by as_aux_lemma => kernel_rfl) (by as_aux_lemma => kernel_rfl) (by as_aux_lemma => kernel_rfl) (fun _ _ _ h => h) (Or.inl ⟨by rfl, ?_⟩) (by assumption) ?_
      rotate_left
      · (intro w hSw; (try dsimp only at hSw); go_simp); (try with_reducible rfl)
      simp only [List.getElem_toArray, List.getElem_cons_zero, List.getElem_cons_succ, Act.put, List.setIfInBounds_toArray, List.set_cons_zero, List.set_cons_succ]
      refine wpAnyH_ready (rs := [20]) (by as_aux_lemma => kernel_rfl) (by simp) ?_
      refine AllReadyH.cons rfl (fun K hK => ?_) AllReadyH.nil
      go_simp
      refine (HF.out _ (T.out.ext (E14.trans Fz3))).mono ?_
      rintro _ uz4 ⟨rfl, euz4⟩
      have Fz4 : Ext w14 uz4 := Fz3.trans euz4
      refine hK.out _ _ ⟨b2 (Ba.ext Fz4), b2 (Bb.ext Fz4), b2 (Bc.ext Fz4), b2 (Bs.ext Fz4), b2 (Bd.ext Fz4), b2 (Be.ext Fz4)⟩ (fun hHeld => ?_)
      clear hK K euz4 Fz3
      refine wpAnyH_ready (rs := [21]) (by as_aux_lemma => kernel_rfl) (by simp) ?_
      refine AllReadyH.cons rfl (fun K hK => ?_) AllReadyH.nil
      go_simp
      refine (HAF.out _ (T.out.ext (E14.trans Fz4))).mono ?_
      rintro _ uz5 ⟨rfl, euz5⟩
      have Fz5 : Ext w14 uz5 := Fz4.trans euz5
      refine hK.out _ _ ⟨b2 (Ba.ext Fz5), b2 (Bb.ext Fz5), b2 (Bc.ext Fz5), b2 (Bs.ext Fz5), b2 (Bd.ext Fz5), b2 (Be.ext Fz5)⟩ (fun hHeld => ?_)
      clear hK K euz5 Fz4
      refine wpAnyH_take (i := 23) (v := ?_) rfl (by as_aux_lemma => kernel_rfl) (by as_aux_lemma => kernel_rfl) (by as_aux_lemma => kernel_rfl) (fun _ _ _ h => h) (Or.inl ⟨by rfl, ?_⟩) (by assumption) ?_
      rotate_left
      · (intro w hSw; (try dsimp only at hSw); go_simp); (try with_reducible rfl)
      simp only [List.getElem_toArray, List.getElem_cons_zero, List.getElem_cons_succ, Act.put, List.setIfInBounds_toArray, List.set_cons_zero, List.set_cons_succ]
      refine wpAnyH_take (i := 24) (v := ?_) rfl (by as_aux_lemma => kernel_rfl) (by as_aux_lemma => kernel_rfl) (by as_aux_lemma => kernel_rfl) (fun _ _ _ h => h) (Or.inl ⟨by rfl, ?_⟩) (by assumption) ?_
      rotate_left
      · (intro w hSw; (try dsimp only at hSw); go_simp); (try with_reducible rfl)
      simp only [List.getElem_toArray, List.getElem_cons_zero, List.getElem_cons_succ, Act.put, List.setIfInBounds_toArray, List.set_cons_zero, List.set_cons_succ]
      refine wpAnyH_take (i := 25) (v := ?_) rfl (by as_aux_lemma => kernel_rfl) (by as_aux_lemma => kernel_rfl) (by as_aux_lemma => kernel_rfl) (fun _ _ _ h => h) (Or.inl ⟨by rfl, ?_⟩) (by assumption) ?_
      rotate_left
      · (intro w hSw; (try dsimp only at hSw); go_simp); (try with_reducible rfl)
      simp only [List.getElem_toArray, List.getElem_cons_zero, List.getElem_cons_succ, Act.put, List.setIfInBounds_toArray, List.set_cons_zero, List.set_cons_succ]
      refine wpAnyH_take (i := 26) (v := ?_) rfl (by as_aux_lemma => kernel_rfl) (by as_aux_lemma => kernel_rfl) (by as_aux_lemma => kernel_rfl) (fun _ _ _ h => h) (Or.inl ⟨by rfl, ?_⟩) (by assumption) ?_
      rotate_left
      · (intro w hSw; (try dsimp only at hSw); go_simp); (try with_reducible rfl)
      simp only [List.getElem_toArray, List.getElem_cons_zero, List.getElem_cons_succ, Act.put, List.setIfInBounds_toArray, List.set_cons_zero, List.set_cons_succ]
      refine wpAnyH_take (i := 27) (v := ?_) rfl (by as_aux_lemma => kernel_rfl) (by as_aux_lemma => kernel_rfl) (by as_aux_lemma => kernel_rfl) (fun _ _ _ h => h) (Or.inl ⟨by rfl, ?_⟩) (by assumption) ?_
      rotate_left
      · (intro w hSw; (try dsimp only at hSw); go_simp); (try with_reducible rfl)
      simp only [List.getElem_toArray, List.getElem_cons_zero, List.getElem_cons_succ, Act.put, List.setIfInBounds_toArray, List.set_cons_zero, List.set_cons_succ]
      refine wpAnyH_take (i := 29) (v := ?_) rfl (by as_aux_lemma => kernel_rfl) (by as_aux_lemma => kernel_rfl) (by as_aux_lemma => kernel_rfl) (fun _ _ _ h => h) (Or.inl ⟨by rfl, ?_⟩) (by assumption) ?_
      rotate_left
      · (intro w hSw; (try dsimp only at hSw); go_simp); (try with_reducible rfl)
      simp only [List.getElem_toArray, List.getElem_cons_zero, List.getElem_cons_succ, Act.put, List.setIfInBounds_toArray, List.set_cons_zero, List.set_cons_succ]
      refine wpAnyH_ready (rs := [28]) (by as_aux_lemma => kernel_rfl) (by simp) ?_
      refine AllReadyH.cons rfl (fun K hK => ?_) AllReadyH.nil
      go_simp
      refine (HA0.out _ (T.out.ext (E14.trans Fz5))).mono ?_
      rintro _ uz6 ⟨rfl, euz6⟩
      have Fz6 : Ext w14 uz6 := Fz5.trans euz6
      refine hK.out _ _ ⟨b2 (Ba.ext Fz6), b2 (Bb.ext Fz6), b2 (Bc.ext Fz6), b2 (Bs.ext Fz6), b2 (Bd.ext Fz6), b2 (Be.ext Fz6)⟩ (fun hHeld => ?_)
      clear hK K euz6 Fz5
      refine wpAnyH_ready (rs := [30]) (by as_aux_lemma => kernel_rfl) (by simp) ?_
      refine AllReadyH.cons rfl (fun K hK => ?_) AllReadyH.nil
      go_simp
      refine (HFA.out _ (T.out.ext (E14.trans Fz6))).mono ?_
      rintro _ uz7 ⟨rfl, euz7⟩
      have Fz7 : Ext w14 uz7 := Fz6.trans euz7
      refine hK.out _ _ ⟨b2 (Ba.ext Fz7), b2 (Bb.ext Fz7), b2 (Bc.ext Fz7), b2 (Bs.ext Fz7), b2 (Bd.ext Fz7), b2 (Be.ext Fz7)⟩ (fun hHeld => ?_)
      clear hK K euz7 Fz6
      refine wpAnyH_take (i := 31) (v := ?_) rfl (by as_aux_lemma => kernel_rfl) (by as_aux_lemma => kernel_rfl) (by as_aux_lemma => kernel_rfl) (fun _ _ _ h => h) (Or.inl ⟨by rfl, ?_⟩) (by assumption) ?_
      rotate_left
      · (intro w hSw; (try dsimp only at hSw); go_simp); (try with_reducible rfl)
      simp only [List.getElem_toArray, List.getElem_cons_zero, List.getElem_cons_succ, Act.put, List.setIfInBounds_toArray, List.set_cons_zero, List.set_cons_succ]
      refine wpAnyH_take (i := 32) (v := ?_) rfl (by as_aux_lemma => kernel_rfl) (by as_aux_lemma => kernel_rfl) (by as_aux_lemma => kernel_rfl) (fun _ _ _ h => h) (Or.inl ⟨by rfl, ?_⟩) (by assumption) ?_
      rotate_left
      · (intro w hSw; (try dsimp only at hSw); go_simp); (try with_reducible rfl)
      simp only [List.getElem_toArray, List.getElem_cons_zero, List.getElem_cons_succ, Act.put, List.setIfInBounds_toArray, List.set_cons_zero, List.set_cons_succ]
      refine wpAnyH_take (i := 33) (v := ?_) rfl (by as_aux_lemma => kernel_rfl) (by as_aux_lemma => kernel_rfl) (by as_aux_lemma => kernel_rfl) (fun _ _ _ h => h) (Or.inl ⟨by rfl, ?_⟩) (by assumption) ?_
      rotate_left
      · (intro w hSw; (try dsimp only at hSw); go_simp); (try with_reducible rfl)
      simp only [List.getElem_toArray, List.getElem_cons_zero, List.getElem_cons_succ, Act.put, List.setIfInBounds_toArray, List.set_cons_zero, List.set_cons_succ]
      refine wpAnyH_take (i := 34) (v := ?_) rfl (by as_aux_lemma => kernel_rfl) (by as_aux_lemma => kernel_rfl) (by as_aux_lemma => kernel_rfl) (fun _ _ _ h => h) (Or.inl ⟨by rfl, ?_⟩) (by assumption) ?_
      rotate_left
      · (intro w hSw; (try dsimp only at hSw); go_simp); (try with_reducible rfl)
      simp only [List.getElem_toArray, List.getElem_cons_zero, List.getElem_cons_succ, Act.put, List.setIfInBounds_toArray, List.set_cons_zero, List.set_cons_succ]
      refine wpAnyH_take (i := 35) (v := ?_) rfl (by as_aux_lemma => kernel_rfl) (by as_aux_lemma => kernel_rfl) (by as_aux_lemma => kernel_rfl) (fun _ _ _ h => h) (Or.inl ⟨by rfl, ?_⟩) (by assumption) ?_
      rotate_left
      · (intro w hSw; (try dsimp only at hSw); go_simp); (try with_reducible rfl)
      simp only [List.getElem_toArray, List.getElem_cons_zero, List.getElem_cons_succ, Act.put, List.setIfInBounds_toArray, List.set_cons_zero, List.set_cons_succ]
      refine wpAnyH_take (i := 38) (v := ?_) rfl (by as_aux_lemma => kernel_rfl) (by as_aux_lemma => kernel_rfl) (by as_aux_lemma => kernel_rfl) (fun _ _ _ h => h) (Or.inl ⟨by rfl, ?_⟩) (by assumption) ?_
      rotate_left
      · (intro w hSw; (try dsimp only at hSw); go_simp); (try with_reducible rfl)
      simp only [List.getElem_toArray, List.getElem_cons_zero, List.getElem_cons_succ, Act.put, List.setIfInBounds_toArray, List.set_cons_zero, List.set_cons_succ]
      refine wpAnyH_take (i := 36) (v := ?_) rfl (by as_aux_lemma => kernel_rfl) (by as_aux_lemma => kernel_rfl) (by as_aux_lemma => kernel_rfl) (fun _ _ _ h => h) (Or.inl ⟨by rfl, ?_⟩) (by assumption) ?_
      rotate_left
      · (intro w hSw; (try dsimp only at hSw); go_simp); (try with_reducible rfl)
      simp only [List.getElem_toArray, List.getElem_cons_zero, List.getElem_cons_succ, Act.put, List.setIfInBounds_toArray, List.set_cons_zero, List.set_cons_succ]
      refine wpAnyH_ready (rs := [37]) (by as_aux_lemma => kernel_rfl) (by simp) ?_
      refine AllReadyH.cons rfl (fun K hK => ?_) AllReadyH.nil
      go_simp
      refine (HT1.out _ (T.out.ext (E14.trans Fz7))).mono ?_
      rintro _ uz8 ⟨rfl, euz8⟩
      have Fz8 : Ext w14 uz8 := Fz7.trans euz8
      refine hK.out _ _ ⟨b2 (Ba.ext Fz8), b2 (Bb.ext Fz8), b2 (Bc.ext Fz8), b2 (Bs.ext Fz8), b2 (Bd.ext Fz8), b2 (Be.ext Fz8)⟩ (fun hHeld => ?_)
      clear hK K euz8 Fz7
      refine wpAnyH_take (i := 39) (v := ?_) rfl (by as_aux_lemma => kernel_rfl) (by as_aux_lemma => kernel_rfl) (by as_aux_lemma => kernel_rfl) (fun _ _ _ h => h) (Or.inl ⟨by rfl, ?_⟩) (by assumption) ?_
      rotate_left
      · (intro w hSw; (try dsimp only at hSw); go_simp); (try with_reducible rfl)
      simp only [List.getElem_toArray, List.getElem_cons_zero, List.getElem_cons_succ, Act.put, List.setIfInBounds_toArray, List.set_cons_zero, List.set_cons_succ]
      refine wpAnyH_take (i := 40) (v := ?_) rfl (by as_aux_lemma => kernel_rfl) (by as_aux_lemma => kernel_rfl) (by as_aux_lemma => kernel_rfl) (fun _ _ _ h => h) (Or.inl ⟨by rfl, ?_⟩) (by assumption) ?_
      rotate_left
      · (intro w hSw; (try dsimp only at hSw); go_simp); (try with_reducible rfl)
      simp only [List.getElem_toArray, List.getElem_cons_zero, List.getElem_cons_succ, Act.put, List.setIfInBounds_toArray, List.set_cons_zero, List.set_cons_succ]
      refine wpAnyH_take (i := 41) (v := ?_) rfl (by as_aux_lemma => kernel_rfl) (by as_aux_lemma => kernel_rfl) (by as_aux_lemma => kernel_rfl) (fun _ _ _ h => h) (Or.inl ⟨by rfl, ?_⟩) (by assumption) ?_
      rotate_left
      · (intro w hSw; (try dsimp only at hSw); go_simp); (try with_reducible rfl)
      simp only [List.getElem_toArray, List.getElem_cons_zero, List.getElem_cons_succ, Act.put, List.setIfInBounds_toArray, List.set_cons_zero, List.set_cons_succ]
      refine wpAnyH_take (i := 42) (v := ?_) rfl (by as_aux_lemma => kernel_rfl) (by as_aux_lemma => kernel_rfl) (by as_aux_lemma => kernel_rfl) (fun _ _ _ h => h) (Or.inl ⟨by rfl, ?_⟩) (by assumption) ?_
      rotate_left
      · (intro w hSw; (try dsimp only at hSw); go_simp); (try with_reducible rfl)
      simp only [List.getElem_toArray, List.getElem_cons_zero, List.getElem_cons_succ, Act.put, List.setIfInBounds_toArray, List.set_cons_zero, List.set_cons_succ]
      refine wpAnyH_take (i := 43) (v := ?_) rfl (by as_aux_lemma => kernel_rfl) (by as_aux_lemma => kernel_rfl) (by as_aux_lemma => kernel_rfl) (fun _ _ _ h => h) (Or.inl ⟨by rfl, ?_⟩) (by assumption) ?_
      rotate_left
      · (intro w hSw; (try dsimp only at hSw); go_simp); (try with_reducible rfl)
      simp only [List.getElem_toArray, List.getElem_cons_zero, List.getElem_cons_succ, Act.put, List.setIfInBounds_toArray, List.set_cons_zero, List.set_cons_succ]
      refine wpAnyH_take (i := 47) (v := ?_) rfl (by as_aux_lemma => kernel_rfl) (by as_aux_lemma => kernel_rfl) (by as_aux_lemma => kernel_rfl) (fun _ _ _ h => h) (Or.inl ⟨by rfl, ?_⟩) (by assumption) ?_
      rotate_left
      · (intro w hSw; (try dsimp only at hSw); go_simp); (try with_reducible rfl)
      simp only [List.getElem_toArray, List.getElem_cons_zero, List.getElem_cons_succ, Act.put, List.setIfInBounds_toArray, List.set_cons_zero, List.set_cons_succ]
      refine wpAnyH_take (i := 44) (v := ?_) rfl (by as_aux_lemma => kernel_rfl) (by as_aux_lemma => kernel_rfl) (by as_aux_lemma => kernel_rfl) (fun _ _ _ h => h) (Or.inl ⟨by rfl, ?_⟩) (by assumption) ?_
      rotate_left
      · (intro w hSw; (try dsimp only at hSw); go_simp); (try with_reducible rfl)
      simp only [List.getElem_toArray, List.getElem_cons_zero, List.getElem_cons_succ, Act.put, List.setIfInBounds_toArray, List.set_cons_zero, List.set_cons_succ]
      refine wpAnyH_take (i := 45) (v := ?_) rfl (by as_aux_lemma => kernel_rfl) (by as_aux_lemma => kernel_rfl) (by as_aux_lemma => kernel_rfl) (fun _ _ _ h => h) (Or.inl ⟨by rfl, ?_⟩) (by assumption) ?_
      rotate_left
      · (intro w hSw; (try dsimp only at hSw); go_simp); (try with_reducible rfl)
      simp only [List.getElem_toArray, List.getElem_cons_zero, List.getElem_cons_succ, Act.put, List.setIfInBounds_toArray, List.set_cons_zero, List.set_cons_succ]
      refine wpAnyH_ready (rs := [46]) (by as_aux_lemma => kernel_rfl) (by simp) ?_
      refine AllReadyH.cons rfl (fun K hK => ?_) AllReadyH.nil
      go_simp
      refine (HT2.out _ (T.out.ext (E14.trans Fz8))).mono ?_
      rintro _ uz9 ⟨rfl, euz9⟩
      have Fz9 : Ext w14 uz9 := Fz8.trans euz9
      refine hK.out _ _ ⟨b2 (Ba.ext Fz9), b2 (Bb.ext Fz9), b2 (Bc.ext Fz9), b2 (Bs.ext Fz9), b2 (Bd.ext Fz9), b2 (Be.ext Fz9)⟩ (fun hHeld => ?_)
      clear hK K euz9 Fz8
      refine wpAnyH_ready (rs := [48]) (by as_aux_lemma => kernel_rfl) (by simp) ?_
      refine AllReadyH.cons rfl (fun K hK => ?_) AllReadyH.nil
      go_simp
      refine (HFS.out _ (T.out.ext (E14.trans Fz9))).mono ?_
      rintro _ uz10 ⟨rfl, euz10⟩
      have Fz10 : Ext w14 uz10 := Fz9.trans euz10
      refine hK.out _ _ ⟨b2 (Ba.ext Fz10), b2 (Bb.ext Fz10), b2 (Bc.ext Fz10), b2 (Bs.ext Fz10), b2 (Bd.ext Fz10), b2 (Be.ext Fz10)⟩ (fun hHeld => ?_)
      clear hK K euz10 Fz9
      refine wpAnyH_take (i := 49) (v := ?_) rfl (by as_aux_lemma => kernel_rfl) (by as_aux_lemma => kernel_rfl) (by as_aux_lemma => kernel_rfl) (fun _ _ _ h => h) (Or.inl ⟨by rfl, ?_⟩) (by assumption) ?_
      rotate_left
      · (intro w hSw; (try dsimp only at hSw); go_simp); (try with_reducible rfl)
      simp only [List.getElem_toArray, List.getElem_cons_zero, List.getElem_cons_succ, Act.put, List.setIfInBounds_toArray, List.set_cons_zero, List.set_cons_succ]
      refine wpAnyH_take (i := 50) (v := ?_) rfl (by as_aux_lemma => kernel_rfl) (by as_aux_lemma => kernel_rfl) (by as_aux_lemma => kernel_rfl) (fun _ _ _ h => h) (Or.inl ⟨by rfl, ?_⟩) (by assumption) ?_
      rotate_left
      · (intro w hSw; (try dsimp only at hSw); go_simp); (try with_reducible rfl)
      simp only [List.getElem_toArray, List.getElem_cons_zero, List.getElem_cons_succ, Act.put, List.setIfInBounds_toArray, List.set_cons_zero, List.set_cons_succ]
      refine wpAnyH_take (i := 51) (v := ?_) rfl (by as_aux_lemma => kernel_rfl) (by as_aux_lemma => kernel_rfl) (by as_aux_lemma => kernel_rfl) (fun _ _ _ h => h) (Or.inl ⟨by rfl, ?_⟩) (by assumption) ?_
      rotate_left
      · (intro w hSw; (try dsimp only at hSw); go_simp); (try with_reducible rfl)
      simp only [List.getElem_toArray, List.getElem_cons_zero, List.getElem_cons_succ, Act.put, List.setIfInBounds_toArray, List.set_cons_zero, List.set_cons_succ]
      refine wpAnyH_done (by as_aux_lemma => kernel_rfl) ?_ _
      clear Ba_0 Ba_1 Ba_l Bb_0 Bb_1 Bb_l Bc_0 Bc_1 Bc_l Bd_0 Bd_1 Bd_l Be_0 Be_1 Be_l Bs_0 Bs_1 Bs_l
      replace Ba := Ba.ext Fz10
      replace Bb := Bb.ext Fz10
      replace Bc := Bc.ext Fz10
      replace Bs := Bs.ext Fz10
      replace Bd := Bd.ext Fz10
      replace Be := Be.ext Fz10
      have Ez := E14.trans Fz10
      clear Fz10 hHeld
      go_wp2
      go_ret
      exact ⟨rfl, Ez⟩
theorem walk_TurnAdd (w : World) (T : Tu w) (Ka Qa : Int) (hKa : -9223372036854775808 ≤ Ka ∧ Ka ≤ 9223372036854775807) (hQa : -9223372036854775808 ≤ Qa ∧ Qa ≤ 9223372036854775807) (Kb Qb : Int) (hKb : -9223372036854775808 ≤ Kb ∧ Kb ≤ 9223372036854775807) (hQb : -9223372036854775808 ≤ Qb ∧ Qb ≤ 9223372036854775807) (Kc Qc : Int) (hKc : -9223372036854775808 ≤ Kc ∧ Kc ≤ 9223372036854775807) (hQc : -9223372036854775808 ≤ Qc ∧ Qc ≤ 9223372036854775807) (n : Int) (hn : 0 ≤ n ∧ n ≤ 255) : Calls Tryd.prog 5 #[.agg #[.int .i64 Ka, .int .i64 Qa], .agg #[.int .i64 Kb, .int .i64 Qb], .agg #[.int .i64 Kc, .int .i64 Qc], .int .u8 n] w (RetE w (.bool true)) := by
  cases ra : rightT Ka Qa
  · exact add_noa w T Ka Qa hKa hQa Kb Qb hKb hQb Kc Qc hKc hQc n hn ra
  · cases rb : rightT Kb Qb
    · exact add_nob w T Ka Qa hKa hQa Kb Qb hKb hQb Kc Qc hKc hQc n hn ra rb
    · cases rc : rightT Kc Qc
      · exact add_noc w T Ka Qa hKa hQa Kb Qb hKb hQb Kc Qc hKc hQc n hn ra rb rc
      · obtain ⟨a1, a2⟩ := rightT_iff.1 ra
        obtain ⟨b1, b2⟩ := rightT_iff.1 rb
        obtain ⟨c1, c2⟩ := rightT_iff.1 rc
        obtain ⟨qa, rfl⟩ : ∃ q : Nat, Qa = (q : Int) := ⟨Qa.toNat, by omega⟩
        obtain ⟨qb, rfl⟩ : ∃ q : Nat, Qb = (q : Int) := ⟨Qb.toNat, by omega⟩
        obtain ⟨qc, rfl⟩ : ∃ q : Nat, Qc = (q : Int) := ⟨Qc.toNat, by omega⟩
        exact add_in w T Ka qa a2 (by omega) Kb qb b2 (by omega) Kc qc c2 (by omega) n hn
end Go.Proofs.YtncopdgonbgaaaaDoor
