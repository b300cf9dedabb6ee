/- The walk of law OpsNear. -/
import Derived.Test.YtfghcfeldpcgcaaWOpsEither
import Derived.Deep.Cut
namespace Go.Proofs.Ytfghcfeldpcgcaa
open Go.RowKit
set_option linter.unusedVariables false

/-- What number a double is, whichever it is. -/
theorem of_all (b : Nat) (hb : b < 18446744073709551616) : ∃ (D : Dyadic) (s : Bool), (∀ w' : World, Calls Try.prog 21 #[.float .f64 b] w' (RetDB w' D s)) ∧ (s = true → Fin64 b ∧ D = fval b) ∧ (s = false → 9218868437227405312 ≤ frung b) ∧ Rg 1074 1024 D := by
  by_cases h : frung b < 9218868437227405312
  · exact ⟨fval b, true, fun w' => rofF_fin w' b hb ⟨h⟩, fun _ => ⟨⟨h⟩, rfl⟩, (fun k => by cases k), rg_fin ⟨h⟩⟩
  · exact ⟨0, false, fun w' => rofF_no w' b hb (by omega), (fun k => by cases k), fun _ => by omega, by rw [← val0]; exact rg_fin fin0⟩
/-- A block that is not frozen. -/
structure Fz (w : World) (g : Nat) : Prop where
  out : ∀ j, w.frozen? ⟨g, j, none⟩ = false
  lt : g < w.heap.size
theorem Fz.ext {w w' : World} {g : Nat} (h : Fz w g) (E : Ext w w') : Fz w' g := ⟨fun j => (E.frozen (p := ⟨g, j, none⟩) h.lt).trans (h.out j), Nat.lt_of_lt_of_le h.lt E.size⟩
theorem Fz.at {w w' : World} {c : Array Value} {t : TypeId} {g : Nat} (E : Ext (w.alloc (.cells c t)) w') (hg : w.heap.size = g) : Fz w' g := by
  subst hg
  exact Fz.ext ⟨fun j => by rw [World.frozen?_alloc_new], by simp⟩ E
theorem Fz.new (w : World) (c : Array Value) (t : TypeId) : Fz (w.alloc (.cells c t)) w.heap.size := ⟨fun j => by rw [World.frozen?_alloc_new], by simp⟩
/-- Four bools are set. -/
def set4 (w : World) (g1 g2 g3 g4 : Nat) : World := (((w.setCell ⟨g1, 0, none⟩ (.bool false)).setCell ⟨g2, 0, none⟩ (.bool false)).setCell ⟨g3, 0, none⟩ (.bool false)).setCell ⟨g4, 0, none⟩ (.bool false)
theorem cell_other {w : World} {g i : Nat} {u : Value} {x : Option Value} (n : i ≠ g) (h : w.cell? ⟨g, 0, none⟩ = x) : (w.setCell ⟨i, 0, none⟩ u).cell? ⟨g, 0, none⟩ = x := by
  rw [World.cell?_setCell_other _ _ _ _ (by intro e; injection e with e _ _; first | exact n e | exact n e.symm)]; exact h
theorem Dn.set4 {w : World} {v : Value} {d : Dyadic} {g1 g2 g3 g4 : Nat} {b1 b2 b3 b4 : Bool} (h : Dn w v d) (c1 : w.cell? ⟨g1, 0, none⟩ = some (.bool b1)) (c2 : w.cell? ⟨g2, 0, none⟩ = some (.bool b2)) (c3 : w.cell? ⟨g3, 0, none⟩ = some (.bool b3)) (c4 : w.cell? ⟨g4, 0, none⟩ = some (.bool b4))
    (n12 : g1 ≠ g2) (n13 : g1 ≠ g3) (n14 : g1 ≠ g4) (n23 : g2 ≠ g3) (n24 : g2 ≠ g4) (n34 : g3 ≠ g4) : Dn (set4 w g1 g2 g3 g4) v d :=
  (((h.setb c1 _).setb (cell_other n12 c2) _).setb (cell_other n23 (cell_other n13 c3)) _).setb (cell_other n34 (cell_other n24 (cell_other n14 c4))) _
theorem off_other {w : World} {g i k : Nat} {u : Value} {x : Option Value} (h : w.cell? ⟨g, k + 1, none⟩ = x) : (w.setCell ⟨i, 0, none⟩ u).cell? ⟨g, k + 1, none⟩ = x := by
  rw [World.cell?_setCell_other _ _ _ _ (by intro e; injection e with _ e _; omega)]; exact h
theorem box_w4 {w : World} {g1 g2 g3 g4 : Nat} {b3 : Bool} {y z : Value} (c3 : w.cell? ⟨g3, 0, none⟩ = some (.bool b3)) (d1 : w.cell? ⟨g3, 1, none⟩ = some y) (d2 : w.cell? ⟨g3, 2, none⟩ = some z) (n13 : g1 ≠ g3) (n23 : g2 ≠ g3) (n34 : g3 ≠ g4) : Box (set4 w g1 g2 g3 g4) g3 (.bool false) y z :=
  ⟨cell_other (fun e => n34 e.symm) (World.cell?_setCell_same _ _ _ (cell_other n23 (cell_other n13 c3))), off_other (off_other (off_other (off_other d1))), off_other (off_other (off_other (off_other d2)))⟩
theorem box_q4 {w : World} {g1 g2 g3 g4 : Nat} {b4 : Bool} {y z : Value} (c4 : w.cell? ⟨g4, 0, none⟩ = some (.bool b4)) (d1 : w.cell? ⟨g4, 1, none⟩ = some y) (d2 : w.cell? ⟨g4, 2, none⟩ = some z) (n14 : g1 ≠ g4) (n24 : g2 ≠ g4) (n34 : g3 ≠ g4) : Box (set4 w g1 g2 g3 g4) g4 (.bool false) y z :=
  ⟨World.cell?_setCell_same _ _ _ (cell_other n34 (cell_other n24 (cell_other n14 c4))), off_other (off_other (off_other (off_other d1))), off_other (off_other (off_other (off_other d2)))⟩
theorem Ext.set4 {a w : World} {g1 g2 g3 g4 : Nat} (h : Ext a w) (h1 : a.heap.size ≤ g1) (h2 : a.heap.size ≤ g2) (h3 : a.heap.size ≤ g3) (h4 : a.heap.size ≤ g4) : Ext a (set4 w g1 g2 g3 g4) :=
  (((h.setCell (p := ⟨g1, 0, none⟩) h1 _).setCell (p := ⟨g2, 0, none⟩) h2 _).setCell (p := ⟨g3, 0, none⟩) h3 _).setCell (p := ⟨g4, 0, none⟩) h4 _

set_option maxRecDepth 10000 in
set_option maxHeartbeats 2000000 in
theorem walk_OpsNear (w : World) (a : Nat) (ha : a < 18446744073709551616) (b : Nat) (hb : b < 18446744073709551616) (f : Nat) (hf : f < 18446744073709551616) : Calls Try.prog 5 #[.float .f64 a, .float .f64 b, .float .f64 f] w (RetE w (.bool true)) := by
  have hf0 : FloatKind.f64.format = Ieee.double := rfl
  obtain ⟨DX, is, ox, ix, _, gX⟩ := of_all a ha
  obtain ⟨DY, it, oy, iy, _, gY⟩ := of_all b hb
  obtain ⟨DZ, inn, oz, iz, _, gZ⟩ := of_all f hf
  have HOX := Lib.hid ox; have HOY := Lib.hid oy; have HOZ := Lib.hid oz
  have HIX := Lib.hid ix; have HIY := Lib.hid iy; have HIZ := Lib.hid iz
  clear ox oy oz ix iy iz ha hb hf
  go_enter Try.func5, Try.ntmps5
  go_wp2_with fail
  refine (headO_any _).mono ?_
  rintro _ w1 ⟨rfl, f1⟩
  have e1 : Ext w w1 := (Ext.refl w).trans f1
  have E1 : Ext w w1 := (Ext.refl w).trans e1
  clear f1 e1
  go_wp2_with fail
  refine (HOX.out _).mono ?_
  rintro _ w2 ⟨vx, rfl, nx, f2⟩
  have e2 : Ext w1 w2 := (Ext.refl w1).trans f2
  have E2 : Ext w w2 := E1.trans e2
  clear f2 e2 E1
  obtain ⟨bx, Ax, lx, cx, jjx, rfl⟩ := nx.form
  go_wp2_with fail
  refine (HOY.out _).mono ?_
  rintro _ w3 ⟨vy, rfl, ny, f3⟩
  have Bx : Box w3 (w2.heap.size) (.bool bx) (.slice Ax lx cx) (.int .i64 jjx) := Box.at ((Ext.refl _).trans f3) (by simp)
  have e3 : Ext w2 w3 := ((Ext.refl w2).alloc _).trans f3
  replace nx := nx.ext e3
  have E3 : Ext w w3 := E2.trans e3
  clear f3 e3 E2
  obtain ⟨br, Ar, lr, cr, jjr, rfl⟩ := ny.form
  go_wp2_with fail
  refine (HOZ.out _).mono ?_
  rintro _ w4 ⟨vz, rfl, nz, f4⟩
  have By : Box w4 (w3.heap.size) (.bool br) (.slice Ar lr cr) (.int .i64 jjr) := Box.at ((Ext.refl _).trans f4) (by simp)
  have e4 : Ext w3 w4 := ((Ext.refl w3).alloc _).trans f4
  replace nx := nx.ext e4
  replace ny := ny.ext e4
  replace Bx := Bx.ext e4
  have E4 : Ext w w4 := E3.trans e4
  clear f4 e4 E3
  obtain ⟨bz, Az, lz, cz, jjz, rfl⟩ := nz.form
  go_wp2_with fail
  refine (addp_any _ a b).mono ?_
  rintro _ w5 ⟨ca, rfl, la, sa, f5⟩
  have Bz : Box w5 (w4.heap.size) (.bool bz) (.slice Az lz cz) (.int .i64 jjz) := Box.at ((Ext.refl _).trans f5) (by simp)
  have e5 : Ext w4 w5 := ((Ext.refl w4).alloc _).trans f5
  replace nx := nx.ext e5
  replace ny := ny.ext e5
  replace nz := nz.ext e5
  replace Bx := Bx.ext e5
  replace By := By.ext e5
  have E5 : Ext w w5 := E4.trans e5
  clear f5 e5 E4
  obtain ⟨DS, on, os, js, _, gS⟩ := of_all ca la
  have HOS := Lib.hid os; have HJS := Lib.hid js; have HSA := Lib.hid sa
  clear os js sa la
  go_wp2_with fail
  refine (HOS.out _).mono ?_
  rintro _ w6 ⟨vs, rfl, ns, f6⟩
  have e6 : Ext w5 w6 := (Ext.refl w5).trans f6
  replace nx := nx.ext e6
  replace ny := ny.ext e6
  replace nz := nz.ext e6
  replace Bx := Bx.ext e6
  replace By := By.ext e6
  replace Bz := Bz.ext e6
  have E6 : Ext w w6 := E5.trans e6
  clear f6 e6 E5
  obtain ⟨bs, As, ls, cs, jjs, rfl⟩ := ns.form
  go_wp2_with fail
  refine (mulp_any _ a b).mono ?_
  rintro _ w7 ⟨cm, rfl, lm, sm, f7⟩
  have Bs : Box w7 (w6.heap.size) (.bool bs) (.slice As ls cs) (.int .i64 jjs) := Box.at ((Ext.refl _).trans f7) (by simp)
  have e7 : Ext w6 w7 := ((Ext.refl w6).alloc _).trans f7
  replace nx := nx.ext e7
  replace ny := ny.ext e7
  replace nz := nz.ext e7
  replace ns := ns.ext e7
  replace Bx := Bx.ext e7
  replace By := By.ext e7
  replace Bz := Bz.ext e7
  have E7 : Ext w w7 := E6.trans e7
  clear f7 e7 E6
  obtain ⟨DP, off, op, jp, _, gP⟩ := of_all cm lm
  have HOP := Lib.hid op; have HJP := Lib.hid jp; have HSM := Lib.hid sm
  clear op jp sm lm
  go_wp2_with fail
  refine (HOP.out _).mono ?_
  rintro _ w8 ⟨vp, rfl, np, f8⟩
  have e8 : Ext w7 w8 := (Ext.refl w7).trans f8
  replace nx := nx.ext e8
  replace ny := ny.ext e8
  replace nz := nz.ext e8
  replace ns := ns.ext e8
  replace Bx := Bx.ext e8
  replace By := By.ext e8
  replace Bz := Bz.ext e8
  replace Bs := Bs.ext e8
  have E8 : Ext w w8 := E7.trans e8
  clear f8 e8 E7
  obtain ⟨bp, Ap, lp, cp, jjp, rfl⟩ := np.form
  cases is
  · go_wp2
    go_ret
    exact ⟨rfl, (E8.trans ((Ext.refl w8).alloc _))⟩
  cases it
  · go_wp2
    go_ret
    exact ⟨rfl, (E8.trans ((Ext.refl w8).alloc _))⟩
  cases inn
  · go_wp2
    go_ret
    exact ⟨rfl, (E8.trans ((Ext.refl w8).alloc _))⟩
  obtain ⟨fX, rfl⟩ := HIX.out rfl
  obtain ⟨fY, rfl⟩ := HIY.out rfl
  obtain ⟨fZ, rfl⟩ := HIZ.out rfl
  have hRA : Rn (fval a + fval b) ca := by
    cases HSA.out with
    | nanl k _ => exact (k.not fX.num).elim
    | nanr k _ => exact (k.not fY.num).elim
    | apart k _ _ _ => exact (k.not fX).elim
    | infl k _ _ _ => exact (k.not fX).elim
    | infr _ k _ => exact (k.not fY).elim
    | fin _ _ k => exact k
  have hRM : Rn (fval a * fval b) cm := by
    cases HSM.out with
    | nanl k _ => exact (k.not fX.num).elim
    | nanr k _ => exact (k.not fY.num).elim
    | zerl _ _ k _ => exact (k.not fY).elim
    | zerr k _ _ _ => exact (k.not fX).elim
    | inf _ _ k _ _ _ _ => exact (k.elim (fun k => (k.not fX).elim) (fun k => (k.not fY).elim))
    | fin _ _ k => exact k
  have t1 : on = true → cmpD (absD (DS + -(fval a + fval b))) (absD (fval f + -(fval a + fval b))) ≤ 0 := fun e => by
    obtain ⟨k, rfl⟩ := HJS.out e
    exact cmpD_le (hRA.least k)
  have t2 : off = true → cmpD (absD (DP + -(fval a * fval b))) (absD (fval f + -(fval a * fval b))) ≤ 0 := fun e => by
    obtain ⟨k, rfl⟩ := HJP.out e
    exact cmpD_le (hRM.least k)
  have gA := (gX.add gY).neg
  have gM := (gX.mul gY).neg
  have gS2 : Rg 2148 2050 DS := gS.mono (by omega) (by omega)
  have gP2 : Rg 2148 2050 DP := gP.mono (by omega) (by omega)
  have gZ2 : Rg 2148 2050 (fval f) := gZ.mono (by omega) (by omega)
  have gA2 : Rg 2148 2050 (-(fval a + fval b)) := gA.mono (by omega) (by omega)
  have gM2 : Rg 2148 2050 (-(fval a * fval b)) := gM.mono (by omega) (by omega)
  have HAD := Lib.hid (fun w' va vb (ha : Dn w' va (fval a)) (hb : Dn w' vb (fval b)) => raddD_any w' va vb _ _ 1074 1024 ha hb gX gY (by omega))
  have HMD := Lib.hid (fun w' va vb (ha : Dn w' va (fval a)) (hb : Dn w' vb (fval b)) => rmulD_any w' va vb _ _ 1074 1024 1074 1024 ha hb gX gY (by omega) (by omega))
  have HU := Lib.hid (fun w' va vb (ha : Dn w' va DS) (hb : Dn w' vb (-(fval a + fval b))) => raddD_any w' va vb _ _ 2148 2050 ha hb gS2 gA2 (by omega))
  have HV := Lib.hid (fun w' va vb (ha : Dn w' va (fval f)) (hb : Dn w' vb (-(fval a + fval b))) => raddD_any w' va vb _ _ 2148 2050 ha hb gZ2 gA2 (by omega))
  have HW := Lib.hid (fun w' va vb (ha : Dn w' va DP) (hb : Dn w' vb (-(fval a * fval b))) => raddD_any w' va vb _ _ 2148 2050 ha hb gP2 gM2 (by omega))
  have HQ := Lib.hid (fun w' va vb (ha : Dn w' va (fval f)) (hb : Dn w' vb (-(fval a * fval b))) => raddD_any w' va vb _ _ 2148 2050 ha hb gZ2 gM2 (by omega))
  have HC1 := Lib.hid (fun w' va vb (ha : Dn w' va (absD (DS + -(fval a + fval b)))) (hb : Dn w' vb (absD (fval f + -(fval a + fval b)))) => rcmpD_any w' va vb _ _ 2148 2051 ha hb (gS2.add gA2).abs (gZ2.add gA2).abs (by omega))
  have HC2 := Lib.hid (fun w' va vb (ha : Dn w' va (absD (DP + -(fval a * fval b)))) (hb : Dn w' vb (absD (fval f + -(fval a * fval b)))) => rcmpD_any w' va vb _ _ 2148 2051 ha hb (gP2.add gM2).abs (gZ2.add gM2).abs (by omega))
  generalize cmpD (absD (DS + -(fval a + fval b))) (absD (fval f + -(fval a + fval b))) = T1 at *
  generalize cmpD (absD (DP + -(fval a * fval b))) (absD (fval f + -(fval a * fval b))) = T2 at *
  clear gX gY gZ gS gP gA gM gS2 gP2 gZ2 gA2 gM2 hRA hRM fX fY fZ HIX HIY HIZ HOX HOY HOZ HOS HOP HJS HJP HSA HSM
  generalize fval a = X at *
  generalize fval b = Y at *
  generalize fval f = Z at *
  obtain ⟨Bx_0, Bx_1, Bx_2⟩ := id Bx
  have Bx_l := World.block_lt_of_cell? _ _ Bx_0
  obtain ⟨By_0, By_1, By_2⟩ := id By
  have By_l := World.block_lt_of_cell? _ _ By_0
  go_wp2_with fail
  refine (HAD.out _ _ _ (nx.ext ((Ext.refl w8).alloc _)) (ny.ext ((Ext.refl w8).alloc _))).mono ?_
  rintro _ w9 ⟨v1, rfl, n1, f9⟩
  clear Bx_0 Bx_1 Bx_2 Bx_l By_0 By_1 By_2 By_l
  have Bp : Box w9 (w8.heap.size) (.bool bp) (.slice Ap lp cp) (.int .i64 jjp) := Box.at ((Ext.refl _).trans f9) (by simp)
  have e9 : Ext w8 w9 := ((Ext.refl w8).alloc _).trans f9
  replace nx := nx.ext e9
  replace ny := ny.ext e9
  replace nz := nz.ext e9
  replace ns := ns.ext e9
  replace np := np.ext e9
  replace Bx := Bx.ext e9
  replace By := By.ext e9
  replace Bz := Bz.ext e9
  replace Bs := Bs.ext e9
  have E9 : Ext w w9 := E8.trans e9
  clear f9 e9 E8
  go_wp2_with fail
  refine (rflip_any _ _ _ n1).mono ?_
  rintro _ w10 ⟨ve, rfl, ne, f10⟩
  have e10 : Ext w9 w10 := (Ext.refl w9).trans f10
  replace nx := nx.ext e10
  replace ny := ny.ext e10
  replace nz := nz.ext e10
  replace ns := ns.ext e10
  replace np := np.ext e10
  replace Bx := Bx.ext e10
  replace By := By.ext e10
  replace Bz := Bz.ext e10
  replace Bs := Bs.ext e10
  replace Bp := Bp.ext e10
  have E10 : Ext w w10 := E9.trans e10
  clear f10 e10 E9
  obtain ⟨be, Ae, le, ce, jje, rfl⟩ := ne.form
  obtain ⟨Bx_0, Bx_1, Bx_2⟩ := id Bx
  have Bx_l := World.block_lt_of_cell? _ _ Bx_0
  obtain ⟨By_0, By_1, By_2⟩ := id By
  have By_l := World.block_lt_of_cell? _ _ By_0
  go_wp2_with fail
  refine (HMD.out _ _ _ (nx.ext ((Ext.refl w10).alloc _)) (ny.ext ((Ext.refl w10).alloc _))).mono ?_
  rintro _ w11 ⟨v2, rfl, n2, f11⟩
  clear Bx_0 Bx_1 Bx_2 Bx_l By_0 By_1 By_2 By_l
  have Be : Box w11 (w10.heap.size) (.bool be) (.slice Ae le ce) (.int .i64 jje) := Box.at ((Ext.refl _).trans f11) (by simp)
  have e11 : Ext w10 w11 := ((Ext.refl w10).alloc _).trans f11
  replace nx := nx.ext e11
  replace ny := ny.ext e11
  replace nz := nz.ext e11
  replace ns := ns.ext e11
  replace np := np.ext e11
  replace ne := ne.ext e11
  replace Bx := Bx.ext e11
  replace By := By.ext e11
  replace Bz := Bz.ext e11
  replace Bs := Bs.ext e11
  replace Bp := Bp.ext e11
  have E11 : Ext w w11 := E10.trans e11
  clear f11 e11 E10
  go_wp2_with fail
  refine (rflip_any _ _ _ n2).mono ?_
  rintro _ w12 ⟨vg, rfl, ng, f12⟩
  have e12 : Ext w11 w12 := (Ext.refl w11).trans f12
  replace nx := nx.ext e12
  replace ny := ny.ext e12
  replace nz := nz.ext e12
  replace ns := ns.ext e12
  replace np := np.ext e12
  replace ne := ne.ext e12
  replace Bx := Bx.ext e12
  replace By := By.ext e12
  replace Bz := Bz.ext e12
  replace Bs := Bs.ext e12
  replace Bp := Bp.ext e12
  replace Be := Be.ext e12
  have E12 : Ext w w12 := E11.trans e12
  clear f12 e12 E11
  obtain ⟨bg, Ag, lg, cg, jjg, rfl⟩ := ng.form
  obtain ⟨Bs_0, Bs_1, Bs_2⟩ := id Bs
  have Bs_l := World.block_lt_of_cell? _ _ Bs_0
  obtain ⟨Be_0, Be_1, Be_2⟩ := id Be
  have Be_l := World.block_lt_of_cell? _ _ Be_0
  go_wp2_with fail
  refine (HU.out _ _ _ (ns.ext ((Ext.refl w12).alloc _)) (ne.ext ((Ext.refl w12).alloc _))).mono ?_
  rintro _ w13 ⟨vu, rfl, nu, f13⟩
  clear Bs_0 Bs_1 Bs_2 Bs_l Be_0 Be_1 Be_2 Be_l
  have Bg : Box w13 (w12.heap.size) (.bool bg) (.slice Ag lg cg) (.int .i64 jjg) := Box.at ((Ext.refl _).trans f13) (by simp)
  have e13 : Ext w12 w13 := ((Ext.refl w12).alloc _).trans f13
  replace nz := nz.ext e13
  replace ns := ns.ext e13
  replace np := np.ext e13
  replace ne := ne.ext e13
  replace ng := ng.ext e13
  replace Bz := Bz.ext e13
  replace Bs := Bs.ext e13
  replace Bp := Bp.ext e13
  replace Be := Be.ext e13
  have E13 : Ext w w13 := E12.trans e13
  clear f13 e13 E12
  obtain ⟨bu, Au, lu, cu, jju, rfl⟩ := nu.form
  have ge_u : w.heap.size ≤ w13.heap.size := E13.size
  obtain ⟨Bz_0, Bz_1, Bz_2⟩ := id Bz
  have Bz_l := World.block_lt_of_cell? _ _ Bz_0
  obtain ⟨Be_0, Be_1, Be_2⟩ := id Be
  have Be_l := World.block_lt_of_cell? _ _ Be_0
  go_wp2_with fail
  refine (HV.out _ _ _ (nz.ext ((Ext.refl w13).alloc _)) (ne.ext ((Ext.refl w13).alloc _))).mono ?_
  rintro _ w14 ⟨vv, rfl, nv, f14⟩
  clear Bz_0 Bz_1 Bz_2 Bz_l Be_0 Be_1 Be_2 Be_l
  have Bu : Box w14 (w13.heap.size) (.bool bu) (.slice Au lu cu) (.int .i64 jju) := Box.at ((Ext.refl _).trans f14) (by simp)
  have ZBu : Fz w14 (w13.heap.size) := Fz.at ((Ext.refl _).trans f14) (by simp)
  have e14 : Ext w13 w14 := ((Ext.refl w13).alloc _).trans f14
  replace nz := nz.ext e14
  replace ns := ns.ext e14
  replace np := np.ext e14
  replace ne := ne.ext e14
  replace ng := ng.ext e14
  replace nu := nu.ext e14
  replace Bz := Bz.ext e14
  replace Bs := Bs.ext e14
  replace Bp := Bp.ext e14
  replace Be := Be.ext e14
  replace Bg := Bg.ext e14
  have E14 : Ext w w14 := E13.trans e14
  clear f14 e14 E13
  obtain ⟨bv, Av, lv, cv, jjv, rfl⟩ := nv.form
  have ge_v : w.heap.size ≤ w14.heap.size := E14.size
  obtain ⟨Bp_0, Bp_1, Bp_2⟩ := id Bp
  have Bp_l := World.block_lt_of_cell? _ _ Bp_0
  obtain ⟨Bg_0, Bg_1, Bg_2⟩ := id Bg
  have Bg_l := World.block_lt_of_cell? _ _ Bg_0
  go_wp2_with fail
  refine (HW.out _ _ _ (np.ext ((Ext.refl w14).alloc _)) (ng.ext ((Ext.refl w14).alloc _))).mono ?_
  rintro _ w15 ⟨vw, rfl, nw, f15⟩
  clear Bp_0 Bp_1 Bp_2 Bp_l Bg_0 Bg_1 Bg_2 Bg_l
  have Bv : Box w15 (w14.heap.size) (.bool bv) (.slice Av lv cv) (.int .i64 jjv) := Box.at ((Ext.refl _).trans f15) (by simp)
  have ne_Bu_Bv : w13.heap.size ≠ w14.heap.size := by have := ZBu.lt; omega
  have ZBv : Fz w15 (w14.heap.size) := Fz.at ((Ext.refl _).trans f15) (by simp)
  have e15 : Ext w14 w15 := ((Ext.refl w14).alloc _).trans f15
  replace nz := nz.ext e15
  replace ns := ns.ext e15
  replace np := np.ext e15
  replace ne := ne.ext e15
  replace ng := ng.ext e15
  replace nu := nu.ext e15
  replace nv := nv.ext e15
  replace Bz := Bz.ext e15
  replace Bs := Bs.ext e15
  replace Bp := Bp.ext e15
  replace Be := Be.ext e15
  replace Bg := Bg.ext e15
  replace Bu := Bu.ext e15
  replace ZBu := ZBu.ext e15
  have E15 : Ext w w15 := E14.trans e15
  clear f15 e15 E14
  obtain ⟨bw, Aw, lw, cw, jjw, rfl⟩ := nw.form
  have ge_w : w.heap.size ≤ w15.heap.size := E15.size
  obtain ⟨Bz_0, Bz_1, Bz_2⟩ := id Bz
  have Bz_l := World.block_lt_of_cell? _ _ Bz_0
  obtain ⟨Bg_0, Bg_1, Bg_2⟩ := id Bg
  have Bg_l := World.block_lt_of_cell? _ _ Bg_0
  go_wp2_with fail
  refine (HQ.out _ _ _ (nz.ext ((Ext.refl w15).alloc _)) (ng.ext ((Ext.refl w15).alloc _))).mono ?_
  rintro _ w16 ⟨vq, rfl, nq, f16⟩
  clear Bz_0 Bz_1 Bz_2 Bz_l Bg_0 Bg_1 Bg_2 Bg_l
  have Bw : Box w16 (w15.heap.size) (.bool bw) (.slice Aw lw cw) (.int .i64 jjw) := Box.at ((Ext.refl _).trans f16) (by simp)
  have ne_Bu_Bw : w13.heap.size ≠ w15.heap.size := by have := ZBu.lt; omega
  have ne_Bv_Bw : w14.heap.size ≠ w15.heap.size := by have := ZBv.lt; omega
  have ZBw : Fz w16 (w15.heap.size) := Fz.at ((Ext.refl _).trans f16) (by simp)
  have e16 : Ext w15 w16 := ((Ext.refl w15).alloc _).trans f16
  replace nz := nz.ext e16
  replace ns := ns.ext e16
  replace np := np.ext e16
  replace ne := ne.ext e16
  replace ng := ng.ext e16
  replace nu := nu.ext e16
  replace nv := nv.ext e16
  replace nw := nw.ext e16
  replace Bz := Bz.ext e16
  replace Bs := Bs.ext e16
  replace Bp := Bp.ext e16
  replace Be := Be.ext e16
  replace Bg := Bg.ext e16
  replace Bu := Bu.ext e16
  replace ZBu := ZBu.ext e16
  replace Bv := Bv.ext e16
  replace ZBv := ZBv.ext e16
  have E16 : Ext w w16 := E15.trans e16
  clear f16 e16 E15
  obtain ⟨bq, Aq, lq, cq, jjq, rfl⟩ := nq.form
  have ge_q : w.heap.size ≤ w16.heap.size := E16.size
  go_upto_region 15 with fail
  have ne_Bu_Bq : w13.heap.size ≠ w16.heap.size := by have := ZBu.lt; omega
  have ne_Bv_Bq : w14.heap.size ≠ w16.heap.size := by have := ZBv.lt; omega
  have ne_Bw_Bq : w15.heap.size ≠ w16.heap.size := by have := ZBw.lt; omega
  have ZBq := Fz.new w16 #[(.bool bq), (.slice Aq lq cq), (.int .i64 jjq)] 31
  have Bq : Box (w16.alloc (.cells #[(.bool bq), (.slice Aq lq cq), (.int .i64 jjq)] 31)) w16.heap.size (.bool bq) (.slice Aq lq cq) (.int .i64 jjq) := Box.new _ _ _ _ _
  have eV0 : Ext w16 (w16.alloc (.cells #[(.bool bq), (.slice Aq lq cq), (.int .i64 jjq)] 31)) := (Ext.refl _).alloc _
  replace nz := nz.ext eV0
  replace ns := ns.ext eV0
  replace np := np.ext eV0
  replace ne := ne.ext eV0
  replace ng := ng.ext eV0
  replace nu := nu.ext eV0
  replace nv := nv.ext eV0
  replace nw := nw.ext eV0
  replace nq := nq.ext eV0
  replace Bz := Bz.ext eV0
  replace Bs := Bs.ext eV0
  replace Bp := Bp.ext eV0
  replace Be := Be.ext eV0
  replace Bg := Bg.ext eV0
  replace Bu := Bu.ext eV0
  replace ZBu := ZBu.ext eV0
  replace Bv := Bv.ext eV0
  replace ZBv := ZBv.ext eV0
  replace Bw := Bw.ext eV0
  replace ZBw := ZBw.ext eV0
  have EV0 := E16.trans eV0
  clear eV0 E16
  generalize (w16.alloc (.cells #[(.bool bq), (.slice Aq lq cq), (.int .i64 jjq)] 31)) = V0 at *
  have c_u := Bu.c0; have c1_u := Bu.c1; have c2_u := Bu.c2; have z_u := ZBu.out 0
  have c_v := Bv.c0; have c1_v := Bv.c1; have c2_v := Bv.c2; have z_v := ZBv.out 0
  have c_w := Bw.c0; have c1_w := Bw.c1; have c2_w := Bw.c2; have z_w := ZBw.out 0
  have c_q := Bq.c0; have c1_q := Bq.c1; have c2_q := Bq.c2; have z_q := ZBq.out 0
  have m_u := nu.pos.set4 c_u c_v c_w c_q ne_Bu_Bv ne_Bu_Bw ne_Bu_Bq ne_Bv_Bw ne_Bv_Bq ne_Bw_Bq
  have m_v := nv.pos.set4 c_u c_v c_w c_q ne_Bu_Bv ne_Bu_Bw ne_Bu_Bq ne_Bv_Bw ne_Bv_Bq ne_Bw_Bq
  have m_w := nw.pos.set4 c_u c_v c_w c_q ne_Bu_Bv ne_Bu_Bw ne_Bu_Bq ne_Bv_Bw ne_Bv_Bq ne_Bw_Bq
  have m_q := nq.pos.set4 c_u c_v c_w c_q ne_Bu_Bv ne_Bu_Bw ne_Bu_Bq ne_Bv_Bw ne_Bv_Bq ne_Bw_Bq
  have EV4 := EV0.set4 ge_u ge_v ge_w ge_q
  have Bw4 := box_w4 (g1 := w13.heap.size) (g2 := w14.heap.size) (g4 := w16.heap.size) c_w c1_w c2_w ne_Bu_Bw ne_Bv_Bw ne_Bw_Bq
  have Bq4 := box_q4 (g1 := w13.heap.size) (g2 := w14.heap.size) (g3 := w15.heap.size) c_q c1_q c2_q ne_Bu_Bq ne_Bv_Bq ne_Bw_Bq
  unfold set4 at m_u m_v m_w m_q EV4 Bw4 Bq4
  clear nz ns np ne ng nu nv nw nq Bz Bs Bp Be Bg Bu Bv Bw Bq ZBu ZBv ZBw ZBq EV0 ge_u ge_v ge_w ge_q HU HV HW HQ HAD HMD
  generalize w13.heap.size = g_u at *
  generalize w14.heap.size = g_v at *
  generalize w15.heap.size = g_w at *
  generalize w16.heap.size = g_q at *
  cases on
  · cases off
    · go_wp2
      go_ret
      exact ⟨rfl, EV4⟩
    · have t2 := t2 rfl
      go_wp2_with fail
      refine (HC2.out _ _ _ m_w m_q).mono ?_
      rintro _ w21 ⟨rfl, e21⟩
      go_wp2
      go_ret
      exact ⟨rfl, EV4.trans e21⟩
  · have t1 := t1 rfl
    cases off
    · go_wp2_with fail
      refine (HC1.out _ _ _ m_u m_v).mono ?_
      rintro _ w20 ⟨rfl, e20⟩
      go_wp2
      go_ret
      exact ⟨rfl, EV4.trans e20⟩
    · have t2 := t2 rfl
      go_wp2_with fail
      refine (HC1.out _ _ _ m_u m_v).mono ?_
      rintro _ w20 ⟨rfl, e20⟩
      obtain ⟨x0, x1, x2⟩ := Bw4.ext e20
      obtain ⟨y0, y1, y2⟩ := Bq4.ext e20
      go_wp2_with fail
      refine (HC2.out _ _ _ (m_w.ext e20) (m_q.ext e20)).mono ?_
      rintro _ w21 ⟨rfl, e21⟩
      go_wp2
      go_ret
      exact ⟨rfl, (EV4.trans e20).trans e21⟩

end Go.Proofs.Ytfghcfeldpcgcaa
