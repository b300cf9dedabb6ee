/- The walk of law FloScale. -/
import Derived.Test.YtdfkhaajeojeeaaDoorJ3
import Derived.Test.YtdfkhaajeojeeaaDoorWFloBack
namespace Go.Proofs.YtdfkhaajeojeeaaDoor
open Go.RowKit
set_option linter.unusedVariables false

theorem rung_abs (q : Nat) : (frung q : Int) = fkey q ∨ (frung q : Int) = -fkey q := by unfold fkey; split <;> omega
theorem c1_key : fkey 1905022642377719808 = 1905022642377719808 ∧ Num64 1905022642377719808 := ⟨by decide, ⟨by decide⟩⟩
theorem c2_key : fkey 7309342195222315008 = 7309342195222315008 ∧ Num64 7309342195222315008 := ⟨by decide, ⟨by decide⟩⟩
theorem c3_key : fkey 11128394679232495616 = -1905022642377719808 ∧ Num64 11128394679232495616 := ⟨by decide, ⟨by decide⟩⟩
theorem c4_key : fkey 16532714232077090816 = -7309342195222315008 ∧ Num64 16532714232077090816 := ⟨by decide, ⟨by decide⟩⟩
theorem shift_num (w : World) (v : Value) (d : Dyadic) (k : Int) (h : Dn w v d) (hb : Nb d) (hk : -300 ≤ k ∧ k ≤ 300) : Calls Tryd.prog 24 #[v, .int .i64 k] w (RetD w (d * dy 1 k)) := by
  obtain ⟨z, e, rfl, hc, hl, he⟩ := hb.out
  have := rshift_any w v z e k h hc (hl.mono (by omega)) (by omega) (by omega)
  rwa [dy_mul, Int.mul_one]
theorem canon_shift {z e : Int} (k : Int) (hc : Canon z e) (hz : z ≠ 0) : Canon z (e + k) := ⟨by rcases hc.out with h | h; exact absurd h.1 hz; exact .inr h⟩
theorem goodF_more {w : World} {nb : Bool} {v : Value} {xs : List Int} {e : Int} (h : Row w v xs) (hg : goodF nb xs e = true) (k : Int) (hk : -300 ≤ k ∧ k ≤ 300) : ∃ d : Dyadic, Dn w (.agg #[.bool nb, v, .int .i64 e]) d ∧ Nb d ∧ Nb (d * dy 1 k) := by
  unfold goodF at hg
  rw [Bool.and_eq_true, Bool.and_eq_true, Bool.and_eq_true, decide_eq_true_eq, decide_eq_true_eq, decide_eq_true_eq] at hg
  obtain ⟨h1, h2, h3, h4⟩ := hg
  obtain ⟨z, hD, hc, hz, _⟩ := rightD_form h h2
  have hb : bl z.natAbs ≤ 480 := Nat.le_trans (bl_of_lt hz) (by omega)
  refine ⟨_, hD, ⟨z, e, rfl, hc, Lt.of_bits (by omega), by omega, by omega⟩, ?_⟩
  rw [dy_mul, Int.mul_one]
  by_cases hz0 : z = 0
  · subst hz0
    exact ⟨0, 0, (dy_zero _).trans (dy_zero _).symm, ⟨.inl ⟨rfl, rfl⟩⟩, Lt.of_bits (by simp [bl]), by omega, by omega⟩
  · exact ⟨z, e + k, rfl, canon_shift k hc hz0, Lt.of_bits (by omega), by omega, by omega⟩

set_option maxRecDepth 10000 in
set_option maxHeartbeats 2000000 in
theorem scale_bad (w : World) (T : Tg w) (nbd : Bool) (Md : Value) (xd : List Int) (jd : Int) (rowd : Row w Md xd) (bdd : -9223372036854775808 ≤ jd ∧ jd ≤ 9223372036854775807) (k : Int) (hk : -9223372036854775808 ≤ k ∧ k ≤ 9223372036854775807) (hgd : goodF nbd xd jd = false) : Calls Tryd.prog 8 #[.agg #[.bool nbd, Md, .int .i64 jd], .int .i64 k] w (RetE w (.bool true)) := by
  have hf : FloatKind.f64.format = Ieee.double := rfl
  have hff := ffrom_run
  have HGd : Hid (∀ w' : World, Ext w w' → Calls Tryd.prog 17 #[.agg #[.bool nbd, Md, .int .i64 jd]] w' (RetE w' (.bool false))) := Lib.hid (fun w' hE => hgd ▸ goodF_any w' nbd Md xd jd (rowd.ext hE) bdd)
  clear hgd rowd bdd
  go_enter Tryd.func8, Tryd.ntmps8
  go_wp2_with fail
  refine (headF_any _ (T.ext ((Ext.refl w).alloc _))).mono ?_
  rintro _ w1 ⟨rfl, f1⟩
  have Bd : Box w1 (w.heap.size) (.bool nbd) Md (.int .i64 jd) := Box.at ((Ext.refl _).trans f1) (by simp)
  have e1 : Ext w w1 := ((Ext.refl w).alloc _).trans f1
  replace T := T.ext e1
  have E1 : Ext w w1 := (Ext.refl w).trans e1
  clear f1 e1
  obtain ⟨Bd_0, Bd_1, Bd_2⟩ := id Bd
  have Bd_l := World.block_lt_of_cell? _ _ Bd_0
  go_wp2_with fail
  refine (HGd.out _ E1).mono ?_
  rintro _ w2 ⟨rfl, f2⟩
  clear Bd_0 Bd_1 Bd_2 Bd_l
  have e2 : Ext w1 w2 := (Ext.refl w1).trans f2
  replace T := T.ext e2
  replace Bd := Bd.ext e2
  have E2 : Ext w w2 := E1.trans e2
  clear f2 e2 E1
  go_wp2
  go_ret
  exact ⟨rfl, E2⟩

set_option maxRecDepth 10000 in
set_option maxHeartbeats 2000000 in
theorem scale_lo (w : World) (T : Tg w) (nbd : Bool) (Md : Value) (xd : List Int) (jd : Int) (rowd : Row w Md xd) (bdd : -9223372036854775808 ≤ jd ∧ jd ≤ 9223372036854775807) (k : Int) (hk : -9223372036854775808 ≤ k ∧ k ≤ 9223372036854775807) (hgd : goodF nbd xd jd = true) (k1 : k < -300) : Calls Tryd.prog 8 #[.agg #[.bool nbd, Md, .int .i64 jd], .int .i64 k] w (RetE w (.bool true)) := by
  have hf : FloatKind.f64.format = Ieee.double := rfl
  have hff := ffrom_run
  have HGd : Hid (∀ w' : World, Ext w w' → Calls Tryd.prog 17 #[.agg #[.bool nbd, Md, .int .i64 jd]] w' (RetE w' (.bool true))) := Lib.hid (fun w' hE => hgd ▸ goodF_any w' nbd Md xd jd (rowd.ext hE) bdd)
  clear hgd rowd bdd
  go_enter Tryd.func8, Tryd.ntmps8
  go_wp2_with fail
  refine (headF_any _ (T.ext ((Ext.refl w).alloc _))).mono ?_
  rintro _ w1 ⟨rfl, f1⟩
  have Bd : Box w1 (w.heap.size) (.bool nbd) Md (.int .i64 jd) := Box.at ((Ext.refl _).trans f1) (by simp)
  have e1 : Ext w w1 := ((Ext.refl w).alloc _).trans f1
  replace T := T.ext e1
  have E1 : Ext w w1 := (Ext.refl w).trans e1
  clear f1 e1
  obtain ⟨Bd_0, Bd_1, Bd_2⟩ := id Bd
  have Bd_l := World.block_lt_of_cell? _ _ Bd_0
  go_wp2_with fail
  refine (HGd.out _ E1).mono ?_
  rintro _ w2 ⟨rfl, f2⟩
  clear Bd_0 Bd_1 Bd_2 Bd_l
  have e2 : Ext w1 w2 := (Ext.refl w1).trans f2
  replace T := T.ext e2
  replace Bd := Bd.ext e2
  have E2 : Ext w w2 := E1.trans e2
  clear f2 e2 E1
  go_wp2
  go_ret
  exact ⟨rfl, E2⟩

set_option maxRecDepth 10000 in
set_option maxHeartbeats 2000000 in
theorem scale_hi (w : World) (T : Tg w) (nbd : Bool) (Md : Value) (xd : List Int) (jd : Int) (rowd : Row w Md xd) (bdd : -9223372036854775808 ≤ jd ∧ jd ≤ 9223372036854775807) (k : Int) (hk : -9223372036854775808 ≤ k ∧ k ≤ 9223372036854775807) (hgd : goodF nbd xd jd = true) (k1 : ¬ k < -300) (k2 : 300 < k) : Calls Tryd.prog 8 #[.agg #[.bool nbd, Md, .int .i64 jd], .int .i64 k] w (RetE w (.bool true)) := by
  have hf : FloatKind.f64.format = Ieee.double := rfl
  have hff := ffrom_run
  have HGd : Hid (∀ w' : World, Ext w w' → Calls Tryd.prog 17 #[.agg #[.bool nbd, Md, .int .i64 jd]] w' (RetE w' (.bool true))) := Lib.hid (fun w' hE => hgd ▸ goodF_any w' nbd Md xd jd (rowd.ext hE) bdd)
  clear hgd rowd bdd
  go_enter Tryd.func8, Tryd.ntmps8
  go_wp2_with fail
  refine (headF_any _ (T.ext ((Ext.refl w).alloc _))).mono ?_
  rintro _ w1 ⟨rfl, f1⟩
  have Bd : Box w1 (w.heap.size) (.bool nbd) Md (.int .i64 jd) := Box.at ((Ext.refl _).trans f1) (by simp)
  have e1 : Ext w w1 := ((Ext.refl w).alloc _).trans f1
  replace T := T.ext e1
  have E1 : Ext w w1 := (Ext.refl w).trans e1
  clear f1 e1
  obtain ⟨Bd_0, Bd_1, Bd_2⟩ := id Bd
  have Bd_l := World.block_lt_of_cell? _ _ Bd_0
  go_wp2_with fail
  refine (HGd.out _ E1).mono ?_
  rintro _ w2 ⟨rfl, f2⟩
  clear Bd_0 Bd_1 Bd_2 Bd_l
  have e2 : Ext w1 w2 := (Ext.refl w1).trans f2
  replace T := T.ext e2
  replace Bd := Bd.ext e2
  have E2 : Ext w w2 := E1.trans e2
  clear f2 e2 E1
  go_wp2
  go_ret
  exact ⟨rfl, E2⟩

set_option maxRecDepth 10000 in
set_option maxHeartbeats 2000000 in
theorem scale_good (w : World) (T : Tg w) (nbd : Bool) (Md : Value) (xd : List Int) (jd : Int) (rowd : Row w Md xd) (bdd : -9223372036854775808 ≤ jd ∧ jd ≤ 9223372036854775807) (k : Int) (hk : -9223372036854775808 ≤ k ∧ k ≤ 9223372036854775807) (hgd : goodF nbd xd jd = true) (k1 : ¬ k < -300) (k2 : ¬ 300 < k) : Calls Tryd.prog 8 #[.agg #[.bool nbd, Md, .int .i64 jd], .int .i64 k] w (RetE w (.bool true)) := by
  have hf : FloatKind.f64.format = Ieee.double := rfl
  have hff := ffrom_run
  have HGd : Hid (∀ w' : World, Ext w w' → Calls Tryd.prog 17 #[.agg #[.bool nbd, Md, .int .i64 jd]] w' (RetE w' (.bool true))) := Lib.hid (fun w' hE => hgd ▸ goodF_any w' nbd Md xd jd (rowd.ext hE) bdd)
  obtain ⟨d, nd, hnb, hsh⟩ := goodF_more rowd hgd k (by omega)
  have HN := Lib.hid (fun w' v (h : Dn w' v d) (T' : Tg w') => near_nb w' v d h hnb T')
  have HSH := Lib.hid (fun w' v (h : Dn w' v d) => shift_num w' v d k h hnb (by omega))
  have HNS := Lib.hid (fun w' v (h : Dn w' v (d * dy 1 k)) (T' : Tg w') => near_nb w' v _ h hsh T')
  have hkb : -300 ≤ k ∧ k ≤ 300 := by omega
  have HKB := Lib.hid hkb
  clear hgd rowd bdd hnb hsh hk hkb
  go_enter Tryd.func8, Tryd.ntmps8
  go_wp2_with fail
  refine (headF_any _ (T.ext ((Ext.refl w).alloc _))).mono ?_
  rintro _ w1 ⟨rfl, f1⟩
  have Bd : Box w1 (w.heap.size) (.bool nbd) Md (.int .i64 jd) := Box.at ((Ext.refl _).trans f1) (by simp)
  have e1 : Ext w w1 := ((Ext.refl w).alloc _).trans f1
  replace T := T.ext e1
  have E1 : Ext w w1 := (Ext.refl w).trans e1
  clear f1 e1
  replace nd := nd.ext E1
  obtain ⟨Bd_0, Bd_1, Bd_2⟩ := id Bd
  have Bd_l := World.block_lt_of_cell? _ _ Bd_0
  go_wp2_with fail
  refine (HGd.out _ E1).mono ?_
  rintro _ w2 ⟨rfl, f2⟩
  clear Bd_0 Bd_1 Bd_2 Bd_l
  have e2 : Ext w1 w2 := (Ext.refl w1).trans f2
  replace T := T.ext e2
  replace nd := nd.ext e2
  replace Bd := Bd.ext e2
  have E2 : Ext w w2 := E1.trans e2
  clear f2 e2 E1
  obtain ⟨Bd_0, Bd_1, Bd_2⟩ := id Bd
  have Bd_l := World.block_lt_of_cell? _ _ Bd_0
  go_wp2_with fail
  refine (HN.out _ _ nd T).mono ?_
  rintro _ w3 ⟨q, rfl, hq, f3⟩
  clear Bd_0 Bd_1 Bd_2 Bd_l
  have e3 : Ext w2 w3 := (Ext.refl w2).trans f3
  replace T := T.ext e3
  replace nd := nd.ext e3
  replace Bd := Bd.ext e3
  have E3 : Ext w w3 := E2.trans e3
  clear f3 e3 E2
  have HQ := Lib.hid hq
  have hqn := hq.num
  clear hq k1 k2
  by_cases o1 : 1905022642377719808 < fkey q
  · have p1 := ord_gt hqn c1_key.2 (by rw [c1_key.1]; exact o1)
    by_cases o2 : fkey q < 7309342195222315008
    · have p2 := ord_lt hqn c2_key.2 (by rw [c2_key.1]; exact o2)
      have hr1 : 423 * 4503599627370496 < frung q := by rcases rung_abs q with e | e <;> omega
      have hr2 : frung q < 1623 * 4503599627370496 := by rcases rung_abs q with e | e <;> omega
      have hFq : Fin64 q := ⟨by omega⟩
      have HO := Lib.hid (fun w' (T' : Tg w') => of_fin w' q HQ.out.lt hFq T')
      have HSM := Lib.hid (fun y (hy : Rn (d * dy 1 k) y) => scale_math HQ.out hr1 hr2 HKB.out hy)
      have hnq := fin_nb hFq
      have HS2 := Lib.hid (fun w' v (h : Dn w' v (fval q)) => shift_num w' v _ k h hnq HKB.out)
      clear hr1 hr2 hFq hnq hqn o1 o2
      go_wp2_with fail
      refine (HO.out _ T).mono ?_
      rintro _ w4 ⟨vm, rfl, nm, f4⟩
      have e4 : Ext w3 w4 := (Ext.refl w3).trans f4
      replace T := T.ext e4
      replace nd := nd.ext e4
      replace Bd := Bd.ext e4
      have E4 : Ext w w4 := E3.trans e4
      clear f4 e4 E3
      obtain ⟨bm, Am, lm, cm, jjm, rfl⟩ := nm.form
      obtain ⟨Bd_0, Bd_1, Bd_2⟩ := id Bd
      have Bd_l := World.block_lt_of_cell? _ _ Bd_0
      go_wp2_with fail
      refine (HSH.out _ _ (nd.ext ((Ext.refl w4).alloc _))).mono ?_
      rintro _ w5 ⟨vs, rfl, ns, f5⟩
      clear Bd_0 Bd_1 Bd_2 Bd_l
      have Bm : Box w5 (w4.heap.size) (.bool bm) (.slice Am lm cm) (.int .i64 jjm) := Box.at ((Ext.refl _).trans f5) (by simp)
      have e5 : Ext w4 w5 := ((Ext.refl w4).alloc _).trans f5
      replace T := T.ext e5
      replace nd := nd.ext e5
      replace nm := nm.ext e5
      replace Bd := Bd.ext e5
      have E5 : Ext w w5 := E4.trans e5
      clear f5 e5 E4
      go_wp2_with fail
      refine (HNS.out _ _ ns T).mono ?_
      rintro _ w6 ⟨y, rfl, hy, f6⟩
      have e6 : Ext w5 w6 := (Ext.refl w5).trans f6
      replace T := T.ext e6
      replace nd := nd.ext e6
      replace nm := nm.ext e6
      replace ns := ns.ext e6
      replace Bd := Bd.ext e6
      replace Bm := Bm.ext e6
      have E6 : Ext w w6 := E5.trans e6
      clear f6 e6 E5
      obtain ⟨hFy, hvy⟩ := HSM.out y hy
      have HO2 := Lib.hid (fun w' (T' : Tg w') => of_fin w' y hy.lt hFy T')
      rw [hvy] at HO2
      clear hFy hvy hy
      go_wp2_with fail
      refine (HO2.out _ T).mono ?_
      rintro _ w7 ⟨vn, rfl, nn, f7⟩
      have e7 : Ext w6 w7 := (Ext.refl w6).trans f7
      replace T := T.ext e7
      replace nd := nd.ext e7
      replace nm := nm.ext e7
      replace ns := ns.ext e7
      replace Bd := Bd.ext e7
      replace Bm := Bm.ext e7
      have E7 : Ext w w7 := E6.trans e7
      clear f7 e7 E6
      obtain ⟨bn, An, ln, cn, jjn, rfl⟩ := nn.form
      go_wp2
      have Bn : Box (w7.alloc (.cells #[(.bool bn), (.slice An ln cn), (.int .i64 jjn)] 25)) w7.heap.size (.bool bn) (.slice An ln cn) (.int .i64 jjn) := Box.new _ _ _ _ _
      have eV0 : Ext w7 (w7.alloc (.cells #[(.bool bn), (.slice An ln cn), (.int .i64 jjn)] 25)) := (Ext.refl _).alloc _
      replace T := T.ext eV0
      replace nd := nd.ext eV0
      replace nm := nm.ext eV0
      replace ns := ns.ext eV0
      replace nn := nn.ext eV0
      replace Bd := Bd.ext eV0
      replace Bm := Bm.ext eV0
      have EV0 := E7.trans eV0
      clear eV0 E7
      generalize (w7.alloc (.cells #[(.bool bn), (.slice An ln cn), (.int .i64 jjn)] 25)) = V0 at *
      obtain ⟨Bn_0, Bn_1, Bn_2⟩ := id Bn
      have Bn_l := World.block_lt_of_cell? _ _ Bn_0
      obtain ⟨Bm_0, Bm_1, Bm_2⟩ := id Bm
      have Bm_l := World.block_lt_of_cell? _ _ Bm_0
      go_region_held3 (fun w' => (w'.cell? ⟨w7.heap.size, 0, none⟩ = some (.bool bn) ∧ w'.cell? ⟨w7.heap.size, 1, none⟩ = some (.slice An ln cn) ∧ w'.cell? ⟨w7.heap.size, 2, none⟩ = some (.int .i64 jjn)) ∧ (w'.cell? ⟨w4.heap.size, 0, none⟩ = some (.bool bm) ∧ w'.cell? ⟨w4.heap.size, 1, none⟩ = some (.slice Am lm cm) ∧ w'.cell? ⟨w4.heap.size, 2, none⟩ = some (.int .i64 jjm)))
        (first | (with_reducible exact ⟨box3 (Bn.ext F2), box3 (Bm.ext F2)⟩) | (with_reducible exact ⟨box3 (Bn.ext F1), box3 (Bm.ext F1)⟩) | go_keep)
        (first | ((have hF2 := F1); (go_at_call 12); (refine (same_lit _ _ _ _ _ rfl (nn.ext F1) m1).mono ?_); (rintro _ u2 ⟨rfl, eu2⟩); (have F2 : Ext V0 u2 := F1.trans eu2); (replace m1 := m1.ext eu2)) | ((go_at_call 24); (refine (HS2.out _ _ (nm.ext (Ext.refl V0).drew)).mono ?_); (rintro _ u1 ⟨vu1, rfl, m1, eu1⟩); (have F1 : Ext V0 u1 := (Ext.refl V0).drew.trans eu1)))
      go_wp2
      go_ret
      exact ⟨rfl, EV0.trans F2⟩
    · have p2 := ord_not_lt hqn c2_key.2 (by rw [c2_key.1]; omega)
      have p3 := ord_not_lt hqn c3_key.2 (by rw [c3_key.1]; omega)
      clear o1 o2 hqn
      go_wp2
      go_ret
      exact ⟨rfl, E3⟩
  · have p1 := ord_not_gt hqn c1_key.2 (by rw [c1_key.1]; omega)
    by_cases o3 : fkey q < -1905022642377719808
    · have p3 := ord_lt hqn c3_key.2 (by rw [c3_key.1]; exact o3)
      by_cases o4 : -7309342195222315008 < fkey q
      · have p4 := ord_gt hqn c4_key.2 (by rw [c4_key.1]; exact o4)
        have hr1 : 423 * 4503599627370496 < frung q := by rcases rung_abs q with e | e <;> omega
        have hr2 : frung q < 1623 * 4503599627370496 := by rcases rung_abs q with e | e <;> omega
        have hFq : Fin64 q := ⟨by omega⟩
        have HO := Lib.hid (fun w' (T' : Tg w') => of_fin w' q HQ.out.lt hFq T')
        have HSM := Lib.hid (fun y (hy : Rn (d * dy 1 k) y) => scale_math HQ.out hr1 hr2 HKB.out hy)
        have hnq := fin_nb hFq
        have HS2 := Lib.hid (fun w' v (h : Dn w' v (fval q)) => shift_num w' v _ k h hnq HKB.out)
        clear hr1 hr2 hFq hnq hqn o1 o3 o4
        go_wp2_with fail
        refine (HO.out _ T).mono ?_
        rintro _ w4 ⟨vm, rfl, nm, f4⟩
        have e4 : Ext w3 w4 := (Ext.refl w3).trans f4
        replace T := T.ext e4
        replace nd := nd.ext e4
        replace Bd := Bd.ext e4
        have E4 : Ext w w4 := E3.trans e4
        clear f4 e4 E3
        obtain ⟨bm, Am, lm, cm, jjm, rfl⟩ := nm.form
        obtain ⟨Bd_0, Bd_1, Bd_2⟩ := id Bd
        have Bd_l := World.block_lt_of_cell? _ _ Bd_0
        go_wp2_with fail
        refine (HSH.out _ _ (nd.ext ((Ext.refl w4).alloc _))).mono ?_
        rintro _ w5 ⟨vs, rfl, ns, f5⟩
        clear Bd_0 Bd_1 Bd_2 Bd_l
        have Bm : Box w5 (w4.heap.size) (.bool bm) (.slice Am lm cm) (.int .i64 jjm) := Box.at ((Ext.refl _).trans f5) (by simp)
        have e5 : Ext w4 w5 := ((Ext.refl w4).alloc _).trans f5
        replace T := T.ext e5
        replace nd := nd.ext e5
        replace nm := nm.ext e5
        replace Bd := Bd.ext e5
        have E5 : Ext w w5 := E4.trans e5
        clear f5 e5 E4
        go_wp2_with fail
        refine (HNS.out _ _ ns T).mono ?_
        rintro _ w6 ⟨y, rfl, hy, f6⟩
        have e6 : Ext w5 w6 := (Ext.refl w5).trans f6
        replace T := T.ext e6
        replace nd := nd.ext e6
        replace nm := nm.ext e6
        replace ns := ns.ext e6
        replace Bd := Bd.ext e6
        replace Bm := Bm.ext e6
        have E6 : Ext w w6 := E5.trans e6
        clear f6 e6 E5
        obtain ⟨hFy, hvy⟩ := HSM.out y hy
        have HO2 := Lib.hid (fun w' (T' : Tg w') => of_fin w' y hy.lt hFy T')
        rw [hvy] at HO2
        clear hFy hvy hy
        go_wp2_with fail
        refine (HO2.out _ T).mono ?_
        rintro _ w7 ⟨vn, rfl, nn, f7⟩
        have e7 : Ext w6 w7 := (Ext.refl w6).trans f7
        replace T := T.ext e7
        replace nd := nd.ext e7
        replace nm := nm.ext e7
        replace ns := ns.ext e7
        replace Bd := Bd.ext e7
        replace Bm := Bm.ext e7
        have E7 : Ext w w7 := E6.trans e7
        clear f7 e7 E6
        obtain ⟨bn, An, ln, cn, jjn, rfl⟩ := nn.form
        go_wp2
        have Bn : Box (w7.alloc (.cells #[(.bool bn), (.slice An ln cn), (.int .i64 jjn)] 25)) w7.heap.size (.bool bn) (.slice An ln cn) (.int .i64 jjn) := Box.new _ _ _ _ _
        have eV0 : Ext w7 (w7.alloc (.cells #[(.bool bn), (.slice An ln cn), (.int .i64 jjn)] 25)) := (Ext.refl _).alloc _
        replace T := T.ext eV0
        replace nd := nd.ext eV0
        replace nm := nm.ext eV0
        replace ns := ns.ext eV0
        replace nn := nn.ext eV0
        replace Bd := Bd.ext eV0
        replace Bm := Bm.ext eV0
        have EV0 := E7.trans eV0
        clear eV0 E7
        generalize (w7.alloc (.cells #[(.bool bn), (.slice An ln cn), (.int .i64 jjn)] 25)) = V0 at *
        obtain ⟨Bn_0, Bn_1, Bn_2⟩ := id Bn
        have Bn_l := World.block_lt_of_cell? _ _ Bn_0
        obtain ⟨Bm_0, Bm_1, Bm_2⟩ := id Bm
        have Bm_l := World.block_lt_of_cell? _ _ Bm_0
        go_region_held3 (fun w' => (w'.cell? ⟨w7.heap.size, 0, none⟩ = some (.bool bn) ∧ w'.cell? ⟨w7.heap.size, 1, none⟩ = some (.slice An ln cn) ∧ w'.cell? ⟨w7.heap.size, 2, none⟩ = some (.int .i64 jjn)) ∧ (w'.cell? ⟨w4.heap.size, 0, none⟩ = some (.bool bm) ∧ w'.cell? ⟨w4.heap.size, 1, none⟩ = some (.slice Am lm cm) ∧ w'.cell? ⟨w4.heap.size, 2, none⟩ = some (.int .i64 jjm)))
          (first | (with_reducible exact ⟨box3 (Bn.ext F2), box3 (Bm.ext F2)⟩) | (with_reducible exact ⟨box3 (Bn.ext F1), box3 (Bm.ext F1)⟩) | go_keep)
          (first | ((have hF2 := F1); (go_at_call 12); (refine (same_lit _ _ _ _ _ rfl (nn.ext F1) m1).mono ?_); (rintro _ u2 ⟨rfl, eu2⟩); (have F2 : Ext V0 u2 := F1.trans eu2); (replace m1 := m1.ext eu2)) | ((go_at_call 24); (refine (HS2.out _ _ (nm.ext (Ext.refl V0).drew)).mono ?_); (rintro _ u1 ⟨vu1, rfl, m1, eu1⟩); (have F1 : Ext V0 u1 := (Ext.refl V0).drew.trans eu1)))
        go_wp2
        go_ret
        exact ⟨rfl, EV0.trans F2⟩
      · have p4 := ord_not_gt hqn c4_key.2 (by rw [c4_key.1]; omega)
        clear o1 o3 o4 hqn
        go_wp2
        go_ret
        exact ⟨rfl, E3⟩
    · have p3 := ord_not_lt hqn c3_key.2 (by rw [c3_key.1]; omega)
      clear o1 o3 hqn
      go_wp2
      go_ret
      exact ⟨rfl, E3⟩

theorem walk_FloScale (w : World) (T : Tg w) (nbd : Bool) (Md : Value) (xd : List Int) (jd : Int) (rowd : Row w Md xd) (bdd : -9223372036854775808 ≤ jd ∧ jd ≤ 9223372036854775807) (k : Int) (hk : -9223372036854775808 ≤ k ∧ k ≤ 9223372036854775807) : Calls Tryd.prog 8 #[.agg #[.bool nbd, Md, .int .i64 jd], .int .i64 k] w (RetE w (.bool true)) := by
  cases hgd : goodF nbd xd jd
  · exact scale_bad w T nbd Md xd jd rowd bdd k hk hgd
  · by_cases k1 : k < -300
    · exact scale_lo w T nbd Md xd jd rowd bdd k hk hgd k1
    · by_cases k2 : 300 < k
      · exact scale_hi w T nbd Md xd jd rowd bdd k hk hgd k1 k2
      · exact scale_good w T nbd Md xd jd rowd bdd k hk hgd k1 k2

end Go.Proofs.YtdfkhaajeojeeaaDoor
