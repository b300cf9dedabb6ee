/- The walk of law OpsRoot. -/
import Derived.Test.YtfghcfeldpcgcaaWOpsEither
namespace Go.Proofs.Ytfghcfeldpcgcaa
open Go.RowKit
set_option linter.unusedVariables false

theorem next_word (b : Nat) (hb : b < 18446744073709551616) (hN : Num64 b) (hk : fkey b < 9218868437227405312) : ∃ g, g < 18446744073709551616 ∧ (∀ w : World, Calls Try.prog 26 #[.float .f64 b] w (RetC w g)) ∧ Num64 g ∧ fkey g = fkey b + 1 := by
  obtain ⟨h1, h2⟩ := succ_key hb hN hk
  refine ⟨_, ?_, fun w => rnextF_num w b hb hk hN, h1, h2⟩
  have hw := word_of hb
  rw [word_eq] at hw
  have hr := hN.out
  split
  · omega
  · split
    · omega
    · rename_i h3
      simp only [h3] at hw
      simp at hw
      omega
theorem shift_half (w : World) (v : Value) (d : Dyadic) (h : Dn w v d) (hb : Nb d) : Calls Try.prog 27 #[v, .int .i64 (-1)] w (RetD w (d * dy 1 (-1))) := by
  obtain ⟨z, e, rfl, hc, hl, he⟩ := hb.out
  have := rshift_any w v z e (-1) h hc (hl.mono (by omega)) (by omega) (by omega)
  rwa [dy_mul, Int.mul_one]
theorem half_twice (x : Dyadic) : x * dy 1 (-1) + x * dy 1 (-1) = x := by
  obtain ⟨z, e, rfl⟩ := exists_dy x
  rw [dy_mul, Int.mul_one, dy_add]
  have := dy_up z (e + -1) 1
  rw [show e + -1 + ((1 : Nat) : Int) = e by omega] at this
  rw [← this]; congr 1; omega
theorem half_mid (r : Nat) : (rval r + rval (r + 1)) * dy 1 (-1) = mid r := by
  have h1 := half_twice (rval r + rval (r + 1))
  have h2 := mid_mean r
  grind
theorem cmpD_ge {x y : Dyadic} (h : y ≤ x) : 0 ≤ cmpD x y := by
  unfold cmpD
  rw [if_neg (by grind)]
  split <;> omega
theorem max_k : fkey 9218868437227405311 = 9218868437227405311 ∧ Num64 9218868437227405311 := max_key
theorem ord_ge {a b : Nat} (ha : Num64 a) (hb : Num64 b) (h : fkey b ≤ fkey a) : (Ieee.double.order a b == some .gt || Ieee.double.order a b == some .eq) = true := by
  rw [order_num ha hb]
  rcases Int.lt_or_le (fkey b) (fkey a) with k | k
  · rw [Int.compare_eq_gt.2 k]; rfl
  · rw [Int.compare_eq_eq.2 (by omega)]; rfl
theorem ord_not_ge {a b : Nat} (ha : Num64 a) (hb : Num64 b) (h : fkey a < fkey b) : (Ieee.double.order a b == some .gt || Ieee.double.order a b == some .eq) = false := by
  rw [order_num ha hb, Int.compare_eq_lt.2 h]; rfl
/-- What is around a root. -/
theorem root_around {a c : Nat} (hc : c < 18446744073709551616) (h : RootS a c) (hF : Fin64 a) (hp : 0 < fkey a) : Fin64 c ∧ 0 < fkey c ∧ ∃ (R : Nat), fval c = rval (R + 1) ∧ fkey c = ((R + 1 : Nat) : Int) ∧ R + 2 < 9218868437227405312 ∧ fval a ≤ mid (R + 1) * mid (R + 1) ∧ mid R * mid R ≤ fval a := by
  cases h with
  | nan h _ => rcases h with h | h; exact (h.not hF.num).elim; omega
  | zero _ h _ _ => omega
  | inf h _ _ => exact (h.not hF).elim
  | fin _ _ h1 h2 h3 =>
    obtain ⟨s1, s2⟩ := pos_sign h2
    obtain ⟨R, hR⟩ : ∃ R, frung c = R + 1 := ⟨frung c - 1, by omega⟩
    refine ⟨⟨by omega⟩, h2, R, by unfold fval; rw [s1, hR]; simp, by unfold fkey; rw [s1, hR]; simp, by omega, ?_, ?_⟩
    · have := h3.up (by omega)
      rw [hR] at this
      rcases this with k | ⟨k, _⟩ <;> grind
    · have := h3.down R hR
      rcases this with k | ⟨k, _⟩ <;> grind

set_option maxRecDepth 10000 in
set_option maxHeartbeats 2000000 in
theorem root_none (w : World) (a : Nat) (ha : a < 18446744073709551616) (hn : Nan64 a ∨ (Num64 a ∧ fkey a < 0)) (p1 : (Ieee.double.order a 0 == some .gt) = false) (p2 : (Ieee.double.order a 0 == some .eq) = false) : Calls Try.prog 6 #[.float .f64 a] w (RetE w (.bool true)) := by
  have hf0 : FloatKind.f64.format = Ieee.double := rfl
  have HR := Lib.hid (fun w' => rootp_any w' a)
  go_enter Try.func6, Try.ntmps6
  go_wp2_with fail
  refine (headO_any _).mono ?_
  rintro _ w1 ⟨rfl, f1⟩
  have e1 : Ext w w1 := (Ext.refl w).trans f1
  have E1 : Ext w w1 := (Ext.refl w).trans e1
  clear f1 e1
  go_wp2_with fail
  refine (HR.out _).mono ?_
  rintro _ w2 ⟨c, rfl, hc, hs, f2⟩
  have e2 : Ext w1 w2 := (Ext.refl w1).trans f2
  have E2 : Ext w w2 := E1.trans e2
  clear f2 e2 E1
  have q1 : (Ieee.double.order c c != some .eq) = true := by
    cases hs with
    | nan _ k => exact nan_ne k
    | zero h e _ _ => exact hn.elim (fun k => (k.not h).elim) (fun k => by omega)
    | inf h e _ => exact hn.elim (fun k => (k.not h.num).elim) (fun k => by omega)
    | fin h e _ _ _ => exact hn.elim (fun k => (k.not h.num).elim) (fun k => by omega)
  clear hs hn
  go_wp2
  go_ret
  exact ⟨rfl, E2⟩

set_option maxRecDepth 10000 in
set_option maxHeartbeats 2000000 in
theorem root_zero (w : World) (a : Nat) (ha : a < 18446744073709551616) (hn : Num64 a) (he : fkey a = 0) (p1 : (Ieee.double.order a 0 == some .gt) = false) (p2 : (Ieee.double.order a 0 == some .eq) = true) : Calls Try.prog 6 #[.float .f64 a] w (RetE w (.bool true)) := by
  have hf0 : FloatKind.f64.format = Ieee.double := rfl
  have HR := Lib.hid (fun w' => rootp_any w' a)
  go_enter Try.func6, Try.ntmps6
  go_wp2_with fail
  refine (headO_any _).mono ?_
  rintro _ w1 ⟨rfl, f1⟩
  have e1 : Ext w w1 := (Ext.refl w).trans f1
  have E1 : Ext w w1 := (Ext.refl w).trans e1
  clear f1 e1
  go_wp2_with fail
  refine (HR.out _).mono ?_
  rintro _ w2 ⟨c, rfl, hc, hs, f2⟩
  have e2 : Ext w1 w2 := (Ext.refl w1).trans f2
  have E2 : Ext w w2 := E1.trans e2
  clear f2 e2 E1
  have q1 : (Ieee.double.order c 0 == some .eq) = true := by
    cases hs with
    | nan h _ => exact h.elim (fun k => (k.not hn).elim) (fun k => by omega)
    | zero _ _ h e => exact order_key h zero_key.2 (by rw [e, zero_key.1])
    | inf _ e _ => omega
    | fin _ e _ _ _ => omega
  clear hs hn he
  go_wp2
  go_ret
  exact ⟨rfl, E2⟩

set_option maxRecDepth 10000 in
set_option maxHeartbeats 2000000 in
theorem root_inf (w : World) (a : Nat) (ha : a < 18446744073709551616) (hn : Inf64 a) (he : 0 < fkey a) (p1 : (Ieee.double.order a 0 == some .gt) = true) (p2 : (Ieee.double.order a 0 == some .eq) = false) (p3 : (Ieee.double.order a 9218868437227405311 == some .gt) = true) : Calls Try.prog 6 #[.float .f64 a] w (RetE w (.bool true)) := by
  have hf0 : FloatKind.f64.format = Ieee.double := rfl
  have HR := Lib.hid (fun w' => rootp_any w' a)
  go_enter Try.func6, Try.ntmps6
  go_wp2_with fail
  refine (headO_any _).mono ?_
  rintro _ w1 ⟨rfl, f1⟩
  have e1 : Ext w w1 := (Ext.refl w).trans f1
  have E1 : Ext w w1 := (Ext.refl w).trans e1
  clear f1 e1
  go_wp2_with fail
  refine (HR.out _).mono ?_
  rintro _ w2 ⟨c, rfl, hc, hs, f2⟩
  have e2 : Ext w1 w2 := (Ext.refl w1).trans f2
  have E2 : Ext w w2 := E1.trans e2
  clear f2 e2 E1
  have q1 : (Ieee.double.order c a == some .eq) = true := by
    cases hs with
    | nan h _ => exact h.elim (fun k => (k.not hn.num).elim) (fun k => by omega)
    | zero _ h _ _ => omega
    | inf _ _ h => exact order_key (h.symm.key hn.num).1 hn.num (h.symm.key hn.num).2.symm
    | fin h _ _ _ _ => exact (hn.not h).elim
  clear hs hn he
  go_wp2
  go_ret
  exact ⟨rfl, E2⟩

set_option maxRecDepth 10000 in
set_option maxHeartbeats 2000000 in
theorem root_fin (w : World) (a : Nat) (ha : a < 18446744073709551616) (hF : Fin64 a) (he : 0 < fkey a) (p1 : (Ieee.double.order a 0 == some .gt) = true) (p3 : (Ieee.double.order a 9218868437227405311 == some .gt) = false) : Calls Try.prog 6 #[.float .f64 a] w (RetE w (.bool true)) := by
  have hf0 : FloatKind.f64.format = Ieee.double := rfl
  have HR := Lib.hid (fun w' => rootp_any w' a)
  have HO1 := Lib.hid (fun w' => rofF_fin w' a ha hF)
  have HX := Lib.hid (And.intro hF he)
  have rA := rg_fin hF
  clear hF he ha
  go_enter Try.func6, Try.ntmps6
  go_wp2_with fail
  refine (headO_any _).mono ?_
  rintro _ w1 ⟨rfl, f1⟩
  have e1 : Ext w w1 := (Ext.refl w).trans f1
  have E1 : Ext w w1 := (Ext.refl w).trans e1
  clear f1 e1
  go_wp2_with fail
  refine (HR.out _).mono ?_
  rintro _ w2 ⟨c, rfl, hc, hs, f2⟩
  have e2 : Ext w1 w2 := (Ext.refl w1).trans f2
  have E2 : Ext w w2 := E1.trans e2
  clear f2 e2 E1
  obtain ⟨hFc, hpc, R, hv, hk, hlt, hup, hdn⟩ := root_around hc hs HX.out.1 HX.out.2
  obtain ⟨g, lg, ng, mg, kg⟩ := next_word c hc hFc.num (by omega)
  obtain ⟨d, ud, rd, sd, ld⟩ := opp_word c hc
  have od := Opp.mk ld rd sd
  obtain ⟨i, li, ni, mi, ki⟩ := next_word d ld (od.num hFc.num) (by rw [od.key]; omega)
  obtain ⟨j, uj, rj, sj, lj⟩ := opp_word i li
  have oj := Opp.mk lj rj sj
  have kj : fkey j = (R : Int) := by rw [oj.key, ki, od.key]; omega
  have vg : fval g = rval (R + 2) := by rw [fval_key, kg, hk, show ((R + 1 : Nat) : Int) + 1 = ((R + 2 : Nat) : Int) by omega, kval_nat]
  have vj : fval j = rval R := by rw [fval_key, kj, kval_nat]
  have Fg : Fin64 g := fin_of_key mg (by omega) (by omega)
  have Fj : Fin64 j := fin_of_key (oj.num mi) (by omega) (by omega)
  have p4 := ord_gt hFc.num zero_key.2 (by rw [zero_key.1]; exact hpc)
  have HO2 := Lib.hid (fun w' => hv ▸ rofF_fin w' c hc hFc)
  have HO3 := Lib.hid (fun w' => vg ▸ rofF_fin w' g lg Fg)
  have HO4 := Lib.hid (fun w' => vj ▸ rofF_fin w' j lj Fj)
  have HN1 := Lib.hid ng
  have HN2 := Lib.hid ni
  have g1 : Rg 1074 1024 (rval (R + 1)) := rg_rval (by omega)
  have g2 : Rg 1074 1024 (rval (R + 2)) := rg_rval (by omega)
  have g3 : Rg 1074 1024 (rval R) := rg_rval (by omega)
  have s1 := g1.add g2
  have s2 := g1.add g3
  have e1 : (rval (R + 1) + rval (R + 2)) * dy 1 (-1) = mid (R + 1) := half_mid (R + 1)
  have e2 : (rval (R + 1) + rval R) * dy 1 (-1) = mid R := by rw [show rval (R + 1) + rval R = rval R + rval (R + 1) by grind]; exact half_mid R
  have m1 : Rg 1075 1027 (mid (R + 1)) := by rw [← e1]; exact s1.mul (Rg.pow (k := -1) (K := 1) (by omega))
  have m2 : Rg 1075 1027 (mid R) := by rw [← e2]; exact s2.mul (Rg.pow (k := -1) (K := 1) (by omega))
  have t1 := cmpD_ge hup
  have t2 := cmpD_le hdn
  have HA1 := Lib.hid (fun w' va vb (ha : Dn w' va (rval (R + 1))) (hb : Dn w' vb (rval (R + 2))) => raddD_any w' va vb _ _ 1074 1024 ha hb g1 g2 (by omega))
  have HA2 := Lib.hid (fun w' va vb (ha : Dn w' va (rval (R + 1))) (hb : Dn w' vb (rval R)) => raddD_any w' va vb _ _ 1074 1024 ha hb g1 g3 (by omega))
  have HS1 := Lib.hid (fun w' v (h : Dn w' v (rval (R + 1) + rval (R + 2))) => e1 ▸ shift_half w' v _ h (Nb.of_rg s1 (by omega) (by omega)))
  have HS2 := Lib.hid (fun w' v (h : Dn w' v (rval (R + 1) + rval R)) => e2 ▸ shift_half w' v _ h (Nb.of_rg s2 (by omega) (by omega)))
  have HM1 := Lib.hid (fun w' va vb (ha : Dn w' va (mid (R + 1))) (hb : Dn w' vb (mid (R + 1))) => rmulD_any w' va vb _ _ 1075 1027 1075 1027 ha hb m1 m1 (by omega) (by omega))
  have HM2 := Lib.hid (fun w' va vb (ha : Dn w' va (mid R)) (hb : Dn w' vb (mid R)) => rmulD_any w' va vb _ _ 1075 1027 1075 1027 ha hb m2 m2 (by omega) (by omega))
  have rA2 : Rg 2150 2054 (fval a) := rA.mono (by omega) (by omega)
  have HC1 := Lib.hid (fun w' va vb (ha : Dn w' va (mid (R + 1) * mid (R + 1))) (hb : Dn w' vb (fval a)) => rcmpD_any w' va vb _ _ 2150 2054 ha hb (m1.mul m1) rA2 (by omega))
  have HC2 := Lib.hid (fun w' va vb (ha : Dn w' va (mid R * mid R)) (hb : Dn w' vb (fval a)) => rcmpD_any w' va vb _ _ 2150 2054 ha hb (m2.mul m2) rA2 (by omega))
  generalize cmpD (mid (R + 1) * mid (R + 1)) (fval a) = T1 at *
  generalize cmpD (mid R * mid R) (fval a) = T2 at *
  generalize fval a = A at *
  generalize mid (R + 1) = M1 at *
  generalize mid R = M2 at *
  generalize rval (R + 1) = X at *
  generalize rval (R + 2) = Y at *
  generalize rval R = Z at *
  clear hs hFc hpc hv hk hlt hup hdn lg ng mg kg rd sd ld od li ni mi ki rj sj lj oj kj vg vj Fg Fj g1 g2 g3 s1 s2 e1 e2 m1 m2 rA2 rA HX HR hc
  go_wp2_with fail
  refine (HO1.out _).mono ?_
  rintro _ w3 ⟨vd, rfl, nd, f3⟩
  have e3 : Ext w2 w3 := (Ext.refl w2).trans f3
  have E3 : Ext w w3 := E2.trans e3
  clear f3 e3 E2
  obtain ⟨bd, Ad, ld, cd, jjd, rfl⟩ := nd.form
  go_wp2_with fail
  refine (HO2.out _).mono ?_
  rintro _ w4 ⟨vx, rfl, nx, f4⟩
  have Bd : Box w4 (w3.heap.size) (.bool bd) (.slice Ad ld cd) (.int .i64 jjd) := Box.at ((Ext.refl _).trans f4) (by simp)
  have e4 : Ext w3 w4 := ((Ext.refl w3).alloc _).trans f4
  replace nd := nd.ext e4
  have E4 : Ext w w4 := E3.trans e4
  clear f4 e4 E3
  obtain ⟨bx, Ax, lx, cx, jjx, rfl⟩ := nx.form
  go_wp2_with fail
  refine (HN1.out _).mono ?_
  rintro _ _ ⟨rfl, rfl⟩
  go_wp2_with fail
  refine (HO3.out _).mono ?_
  rintro _ w5 ⟨vy, rfl, ny, f5⟩
  have Bx : Box w5 (w4.heap.size) (.bool bx) (.slice Ax lx cx) (.int .i64 jjx) := Box.at ((Ext.refl _).trans f5) (by simp)
  have e5 : Ext w4 w5 := ((Ext.refl w4).alloc _).trans f5
  replace nd := nd.ext e5
  replace nx := nx.ext e5
  replace Bd := Bd.ext e5
  have E5 : Ext w w5 := E4.trans e5
  clear f5 e5 E4
  obtain ⟨bq, Aq, lq, cq, jjq, rfl⟩ := ny.form
  go_wp2_with fail
  refine (HN2.out _).mono ?_
  rintro _ _ ⟨rfl, rfl⟩
  go_wp2_with fail
  refine (HO4.out _).mono ?_
  rintro _ w6 ⟨vz, rfl, nz, f6⟩
  have By : Box w6 (w5.heap.size) (.bool bq) (.slice Aq lq cq) (.int .i64 jjq) := Box.at ((Ext.refl _).trans f6) (by simp)
  have e6 : Ext w5 w6 := ((Ext.refl w5).alloc _).trans f6
  replace nd := nd.ext e6
  replace nx := nx.ext e6
  replace ny := ny.ext e6
  replace Bd := Bd.ext e6
  replace Bx := Bx.ext e6
  have E6 : Ext w w6 := E5.trans e6
  clear f6 e6 E5
  obtain ⟨bz, Az, lz, cz, jjz, rfl⟩ := nz.form
  obtain ⟨Bx_0, Bx_1, Bx_2⟩ := id Bx
  have Bx_l := World.block_lt_of_cell? _ _ Bx_0
  obtain ⟨By_0, By_1, By_2⟩ := id By
  have By_l := World.block_lt_of_cell? _ _ By_0
  go_wp2_with fail
  refine (HA1.out _ _ _ (nx.ext ((Ext.refl w6).alloc _)) (ny.ext ((Ext.refl w6).alloc _))).mono ?_
  rintro _ w7 ⟨vs, rfl, ns, f7⟩
  clear Bx_0 Bx_1 Bx_2 Bx_l By_0 By_1 By_2 By_l
  have Bz : Box w7 (w6.heap.size) (.bool bz) (.slice Az lz cz) (.int .i64 jjz) := Box.at ((Ext.refl _).trans f7) (by simp)
  have e7 : Ext w6 w7 := ((Ext.refl w6).alloc _).trans f7
  replace nd := nd.ext e7
  replace nx := nx.ext e7
  replace ny := ny.ext e7
  replace nz := nz.ext e7
  replace Bd := Bd.ext e7
  replace Bx := Bx.ext e7
  replace By := By.ext e7
  have E7 : Ext w w7 := E6.trans e7
  clear f7 e7 E6
  go_wp2_with fail
  refine (HS1.out _ _ ns).mono ?_
  rintro _ w8 ⟨vh, rfl, nh, f8⟩
  have e8 : Ext w7 w8 := (Ext.refl w7).trans f8
  replace nd := nd.ext e8
  replace nx := nx.ext e8
  replace ny := ny.ext e8
  replace nz := nz.ext e8
  replace Bd := Bd.ext e8
  replace Bx := Bx.ext e8
  replace By := By.ext e8
  replace Bz := Bz.ext e8
  have E8 : Ext w w8 := E7.trans e8
  clear f8 e8 E7
  obtain ⟨bh, Ah, lh, ch, jjh, rfl⟩ := nh.form
  obtain ⟨Bx_0, Bx_1, Bx_2⟩ := id Bx
  have Bx_l := World.block_lt_of_cell? _ _ Bx_0
  obtain ⟨Bz_0, Bz_1, Bz_2⟩ := id Bz
  have Bz_l := World.block_lt_of_cell? _ _ Bz_0
  go_wp2_with fail
  refine (HA2.out _ _ _ (nx.ext ((Ext.refl w8).alloc _)) (nz.ext ((Ext.refl w8).alloc _))).mono ?_
  rintro _ w9 ⟨vt, rfl, nt, f9⟩
  clear Bx_0 Bx_1 Bx_2 Bx_l Bz_0 Bz_1 Bz_2 Bz_l
  have Bh : Box w9 (w8.heap.size) (.bool bh) (.slice Ah lh ch) (.int .i64 jjh) := Box.at ((Ext.refl _).trans f9) (by simp)
  have e9 : Ext w8 w9 := ((Ext.refl w8).alloc _).trans f9
  replace nd := nd.ext e9
  replace nx := nx.ext e9
  replace ny := ny.ext e9
  replace nz := nz.ext e9
  replace nh := nh.ext e9
  replace Bd := Bd.ext e9
  replace Bx := Bx.ext e9
  replace By := By.ext e9
  replace Bz := Bz.ext e9
  have E9 : Ext w w9 := E8.trans e9
  clear f9 e9 E8
  go_wp2_with fail
  refine (HS2.out _ _ nt).mono ?_
  rintro _ w10 ⟨vl, rfl, nl, f10⟩
  have e10 : Ext w9 w10 := (Ext.refl w9).trans f10
  replace nd := nd.ext e10
  replace nx := nx.ext e10
  replace ny := ny.ext e10
  replace nz := nz.ext e10
  replace nh := nh.ext e10
  replace Bd := Bd.ext e10
  replace Bx := Bx.ext e10
  replace By := By.ext e10
  replace Bz := Bz.ext e10
  replace Bh := Bh.ext e10
  have E10 : Ext w w10 := E9.trans e10
  clear f10 e10 E9
  obtain ⟨bl, Al, ll, cl, jjl, rfl⟩ := nl.form
  go_wp2
  have Bl : Box (w10.alloc (.cells #[(.bool bl), (.slice Al ll cl), (.int .i64 jjl)] 31)) w10.heap.size (.bool bl) (.slice Al ll cl) (.int .i64 jjl) := Box.new _ _ _ _ _
  have eV0 : Ext w10 (w10.alloc (.cells #[(.bool bl), (.slice Al ll cl), (.int .i64 jjl)] 31)) := (Ext.refl _).alloc _
  replace nd := nd.ext eV0
  replace nx := nx.ext eV0
  replace ny := ny.ext eV0
  replace nz := nz.ext eV0
  replace nh := nh.ext eV0
  replace nl := nl.ext eV0
  replace Bd := Bd.ext eV0
  replace Bx := Bx.ext eV0
  replace By := By.ext eV0
  replace Bz := Bz.ext eV0
  replace Bh := Bh.ext eV0
  have EV0 := E10.trans eV0
  clear eV0 E10
  generalize (w10.alloc (.cells #[(.bool bl), (.slice Al ll cl), (.int .i64 jjl)] 31)) = V0 at *
  obtain ⟨Bh_0, Bh_1, Bh_2⟩ := id Bh
  have Bh_l := World.block_lt_of_cell? _ _ Bh_0
  obtain ⟨Bl_0, Bl_1, Bl_2⟩ := id Bl
  have Bl_l := World.block_lt_of_cell? _ _ Bl_0
  obtain ⟨Bd_0, Bd_1, Bd_2⟩ := id Bd
  have Bd_l := World.block_lt_of_cell? _ _ Bd_0
  go_region_held3 (fun w' => (w'.cell? ⟨w8.heap.size, 0, none⟩ = some (.bool bh) ∧ w'.cell? ⟨w8.heap.size, 1, none⟩ = some (.slice Ah lh ch) ∧ w'.cell? ⟨w8.heap.size, 2, none⟩ = some (.int .i64 jjh)) ∧ (w'.cell? ⟨w10.heap.size, 0, none⟩ = some (.bool bl) ∧ w'.cell? ⟨w10.heap.size, 1, none⟩ = some (.slice Al ll cl) ∧ w'.cell? ⟨w10.heap.size, 2, none⟩ = some (.int .i64 jjl)) ∧ (w'.cell? ⟨w3.heap.size, 0, none⟩ = some (.bool bd) ∧ w'.cell? ⟨w3.heap.size, 1, none⟩ = some (.slice Ad ld cd) ∧ w'.cell? ⟨w3.heap.size, 2, none⟩ = some (.int .i64 jjd)))
    (first | (with_reducible exact ⟨box3 (Bh.ext F4), box3 (Bl.ext F4), box3 (Bd.ext F4)⟩) | (with_reducible exact ⟨box3 (Bh.ext F3), box3 (Bl.ext F3), box3 (Bd.ext F3)⟩) | (with_reducible exact ⟨box3 (Bh.ext F2), box3 (Bl.ext F2), box3 (Bd.ext F2)⟩) | (with_reducible exact ⟨box3 (Bh.ext F1), box3 (Bl.ext F1), box3 (Bd.ext F1)⟩) | go_keep)
    (first | ((have hF4 := F3); (go_at_call 25); (refine (HC2.out _ _ _ m3 (nd.ext F3)).mono ?_); (rintro _ u4 ⟨rfl, eu4⟩); (have F4 : Ext V0 u4 := F3.trans eu4); (replace m3 := m3.ext eu4)) | ((have hF3 := F2); (go_at_call 24); (refine (HM2.out _ _ _ (nl.ext F2) (nl.ext F2)).mono ?_); (rintro _ u3 ⟨vu3, rfl, m3, eu3⟩); (have F3 : Ext V0 u3 := F2.trans eu3)) | ((have hF2 := F1); (go_at_call 25); (refine (HC1.out _ _ _ m1 (nd.ext F1)).mono ?_); (rintro _ u2 ⟨rfl, eu2⟩); (have F2 : Ext V0 u2 := F1.trans eu2); (replace m1 := m1.ext eu2)) | ((go_at_call 24); (refine (HM1.out _ _ _ (nh.ext (Ext.refl V0).drew) (nh.ext (Ext.refl V0).drew)).mono ?_); (rintro _ u1 ⟨vu1, rfl, m1, eu1⟩); (have F1 : Ext V0 u1 := (Ext.refl V0).drew.trans eu1)))
  go_wp2
  go_ret
  exact ⟨rfl, EV0.trans F4⟩

theorem walk_OpsRoot (w : World) (a : Nat) (ha : a < 18446744073709551616) : Calls Try.prog 6 #[.float .f64 a] w (RetE w (.bool true)) := by
  rcases kinds a with h | h | h
  · exact root_none w a ha (.inl h) (by rw [order_nan (.inl h.out)]; rfl) (by rw [order_nan (.inl h.out)]; rfl)
  · rcases Int.lt_or_le (fkey a) 0 with k | k
    · exact root_none w a ha (.inr ⟨h.num, k⟩) (ord_not_gt h.num zero_key.2 (by rw [zero_key.1]; omega)) (ord_neq h.num zero_key.2 (by rw [zero_key.1]; omega))
    · have hp : 0 < fkey a := by have := inf_key_ne h; omega
      have hm : fkey a = 9218868437227405312 := by rw [h.key] at hp ⊢; split at hp <;> simp_all
      exact root_inf w a ha h hp (ord_gt h.num zero_key.2 (by rw [zero_key.1]; exact hp)) (ord_neq h.num zero_key.2 (by rw [zero_key.1]; omega)) (ord_gt h.num max_key.2 (by rw [max_key.1, hm]; decide))
  · rcases Int.lt_trichotomy (fkey a) 0 with k | k | k
    · exact root_none w a ha (.inr ⟨h.num, k⟩) (ord_not_gt h.num zero_key.2 (by rw [zero_key.1]; omega)) (ord_neq h.num zero_key.2 (by rw [zero_key.1]; omega))
    · exact root_zero w a ha h.num k (ord_not_gt h.num zero_key.2 (by rw [zero_key.1]; omega)) (order_key h.num zero_key.2 (by rw [zero_key.1]; exact k))
    · exact root_fin w a ha h k (ord_gt h.num zero_key.2 (by rw [zero_key.1]; exact k)) (ord_not_gt h.num max_key.2 (by rw [max_key.1]; exact (fin_key h).2))

end Go.Proofs.Ytfghcfeldpcgcaa
