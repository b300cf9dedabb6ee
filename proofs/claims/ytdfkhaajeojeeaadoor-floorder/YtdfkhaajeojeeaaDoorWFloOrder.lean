/- The walk of law FloOrder. -/
import Derived.Test.YtdfkhaajeojeeaaDoorJ3
import Derived.Test.YtdfkhaajeojeeaaDoorWFloBack
namespace Go.Proofs.YtdfkhaajeojeeaaDoor
open Go.RowKit
set_option linter.unusedVariables false

theorem neg_case (y : Nat) (hy : y < 18446744073709551616) (hn : Num64 y) : ∃ y', Op.unary .neg (.float .f64 y) = pure (.float .f64 y') ∧ fkey y' = -fkey y ∧ Num64 y' := by
  have hw := word_of hy
  have hr : frung y < 9223372036854775808 := by unfold frung; omega
  have hc := hn.out
  refine ⟨Ieee.double.word (!fneg y) (frung y), ?_, ?_, ⟨by rw [frung_word _ hr]; exact hc⟩⟩
  · have key : Op.negFloat .f64 y = Ieee.double.word (!fneg y) (frung y) := by
      rw [word_eq] at hw ⊢
      cases hs : fneg y
      · rw [hs] at hw
        simp only [Bool.false_eq_true, if_false] at hw
        rw [hw, neg_word y (by omega)]; rfl
      · rw [hs] at hw
        simp only [if_true] at hw
        have h1 := xor_top hr
        show y ^^^ 9223372036854775808 = frung y
        rw [← hw, ← h1, Nat.xor_assoc, Nat.xor_self, Nat.xor_zero, h1]
        unfold frung; omega
    rw [← key]; rfl
  · unfold fkey
    rw [frung_word _ hr, fneg_word _ hr]
    cases fneg y <;> simp
theorem ord_le {a b : Nat} (ha : Num64 a) (hb : Num64 b) (h : fkey a ≤ fkey b) : (Ieee.double.order a b == some .lt || Ieee.double.order a b == some .eq) = true := by
  rw [order_num ha hb]
  rcases Int.lt_or_eq_of_le h with k | k
  · rw [Int.compare_eq_lt.2 k]; rfl
  · rw [Int.compare_eq_eq.2 k]; rfl
theorem ord_vals {f g : Nat} (hf : Fin64 f) (hg : Fin64 g) : (Ieee.double.order f g == some .lt) = decide (cmpD (fval f) (fval g) < 0) ∧ (Ieee.double.order f g == some .eq) = decide (fval f = fval g) := by
  rw [order_fin hf hg]
  unfold ord cmpD
  by_cases h1 : fval f < fval g
  · rw [if_pos h1, if_pos h1]
    exact ⟨rfl, by rw [decide_eq_false (fun k => by rw [k] at h1; grind)]; rfl⟩
  · rw [if_neg h1, if_neg h1]
    by_cases h2 : fval f = fval g
    · rw [if_pos h2, if_pos h2, decide_eq_true h2]; exact ⟨rfl, rfl⟩
    · rw [if_neg h2, if_neg h2, decide_eq_false h2]; exact ⟨rfl, rfl⟩

set_option maxRecDepth 10000 in
set_option maxHeartbeats 2000000 in
theorem order_ba (w : World) (T : Tg w) (nba : Bool) (Ma : Value) (xa : List Int) (ja : Int) (rowa : Row w Ma xa) (bda : -9223372036854775808 ≤ ja ∧ ja ≤ 9223372036854775807) (nbb : Bool) (Mb : Value) (xb : List Int) (jb : Int) (rowb : Row w Mb xb) (bdb : -9223372036854775808 ≤ jb ∧ jb ≤ 9223372036854775807) (f : Nat) (hf : f < 18446744073709551616) (g : Nat) (hg : g < 18446744073709551616) (hga : goodF nba xa ja = false) : Calls Tryd.prog 6 #[.agg #[.bool nba, Ma, .int .i64 ja], .agg #[.bool nbb, Mb, .int .i64 jb], .float .f64 f, .float .f64 g] w (RetE w (.bool true)) := by
  have hff0 : FloatKind.f64.format = Ieee.double := rfl
  have hff := ffrom_run
  have HGa : Hid (∀ w' : World, Ext w w' → Calls Tryd.prog 17 #[.agg #[.bool nba, Ma, .int .i64 ja]] w' (RetE w' (.bool false))) := Lib.hid (fun w' hE => hga ▸ goodF_any w' nba Ma xa ja (rowa.ext hE) bda)
  obtain ⟨D1, s1, ho1, hs1, _, _⟩ := of_case f hf
  obtain ⟨D2, s2, ho2, hs2, _, _⟩ := of_case g hg
  have HO1 := Lib.hid ho1
  have HO2 := Lib.hid ho2
  have HS1 := Lib.hid hs1
  have HS2 := Lib.hid hs2
  clear hga rowa bda rowb bdb hf hg ho1 ho2 hs1 hs2
  go_enter Tryd.func6, Tryd.ntmps6
  go_wp2_with fail
  refine (headF_any _ (T.ext (((Ext.refl w).alloc _).alloc _))).mono ?_
  rintro _ w1 ⟨rfl, f1⟩
  have Ba : Box w1 (w.heap.size) (.bool nba) Ma (.int .i64 ja) := Box.at (((Ext.refl _).alloc _).trans f1) (by simp)
  have Bb : Box w1 (w.heap.size + 1) (.bool nbb) Mb (.int .i64 jb) := Box.at ((Ext.refl _).trans f1) (by simp)
  have e1 : Ext w w1 := (((Ext.refl w).alloc _).alloc _).trans f1
  replace T := T.ext e1
  have E1 : Ext w w1 := (Ext.refl w).trans e1
  clear f1 e1
  go_wp2_with fail
  refine (HO1.out _ T).mono ?_
  rintro _ w2 ⟨vm, rfl, nm, f2⟩
  have e2 : Ext w1 w2 := (Ext.refl w1).trans f2
  replace T := T.ext e2
  replace Ba := Ba.ext e2
  replace Bb := Bb.ext e2
  have E2 : Ext w w2 := E1.trans e2
  clear f2 e2 E1
  obtain ⟨bm, Am, lm, cm, jjm, rfl⟩ := nm.form
  go_wp2_with fail
  refine (HO2.out _ (T.ext ((Ext.refl w2).alloc _))).mono ?_
  rintro _ w3 ⟨vn, rfl, nn, f3⟩
  have Bm : Box w3 (w2.heap.size) (.bool bm) (.slice Am lm cm) (.int .i64 jjm) := Box.at ((Ext.refl _).trans f3) (by simp)
  have e3 : Ext w2 w3 := ((Ext.refl w2).alloc _).trans f3
  replace T := T.ext e3
  replace nm := nm.ext e3
  replace Ba := Ba.ext e3
  replace Bb := Bb.ext e3
  have E3 : Ext w w3 := E2.trans e3
  clear f3 e3 E2
  obtain ⟨bn, An, ln, cn, jjn, rfl⟩ := nn.form
  cases s1
  · clear HS1 HS2 HO1 HO2
    obtain ⟨Ba_0, Ba_1, Ba_2⟩ := id Ba
    have Ba_l := World.block_lt_of_cell? _ _ Ba_0
    go_wp2_with fail
    refine (HGa.out _ (E3.trans ((Ext.refl w3).alloc _))).mono ?_
    rintro _ w4 ⟨rfl, f4⟩
    clear Ba_0 Ba_1 Ba_2 Ba_l
    have Bn : Box w4 (w3.heap.size) (.bool bn) (.slice An ln cn) (.int .i64 jjn) := Box.at ((Ext.refl _).trans f4) (by simp)
    have e4 : Ext w3 w4 := ((Ext.refl w3).alloc _).trans f4
    replace T := T.ext e4
    replace nm := nm.ext e4
    replace nn := nn.ext e4
    replace Ba := Ba.ext e4
    replace Bb := Bb.ext e4
    replace Bm := Bm.ext e4
    have E4 : Ext w w4 := E3.trans e4
    clear f4 e4 E3
    go_wp2
    go_ret
    exact ⟨rfl, E4⟩
  cases s2
  · clear HS1 HS2 HO1 HO2
    obtain ⟨Ba_0, Ba_1, Ba_2⟩ := id Ba
    have Ba_l := World.block_lt_of_cell? _ _ Ba_0
    go_wp2_with fail
    refine (HGa.out _ (E3.trans ((Ext.refl w3).alloc _))).mono ?_
    rintro _ w4 ⟨rfl, f4⟩
    clear Ba_0 Ba_1 Ba_2 Ba_l
    have Bn : Box w4 (w3.heap.size) (.bool bn) (.slice An ln cn) (.int .i64 jjn) := Box.at ((Ext.refl _).trans f4) (by simp)
    have e4 : Ext w3 w4 := ((Ext.refl w3).alloc _).trans f4
    replace T := T.ext e4
    replace nm := nm.ext e4
    replace nn := nn.ext e4
    replace Ba := Ba.ext e4
    replace Bb := Bb.ext e4
    replace Bm := Bm.ext e4
    have E4 : Ext w w4 := E3.trans e4
    clear f4 e4 E3
    go_wp2
    go_ret
    exact ⟨rfl, E4⟩
  obtain ⟨hF1, rfl⟩ := HS1.out rfl
  obtain ⟨hF2, rfl⟩ := HS2.out rfl
  obtain ⟨ov1, ov2⟩ := ord_vals hF1 hF2
  have r1 : Rw (fval f) := fin_rw hF1
  have r2 : Rw (fval g) := fin_rw hF2
  obtain ⟨t, ht⟩ : ∃ t, cmpD (fval f) (fval g) = t := ⟨_, rfl⟩
  obtain ⟨eb, heb⟩ : ∃ eb, decide (fval f = fval g) = eb := ⟨_, rfl⟩
  have HC : Hid (∀ w' va vb, Dn w' va (fval f) → Dn w' vb (fval g) → Calls Tryd.prog 23 #[va, vb] w' (RetE w' (.int .i64 t))) := Lib.hid (fun w' va vb ha hb => ht ▸ rcmpD_any w' va vb _ _ 3000 3500 ha hb r1 r2 (by omega))
  have HE : Hid (∀ w' va vb, Dn w' va (fval f) → Dn w' vb (fval g) → Calls Tryd.prog 12 #[va, vb] w' (RetE w' (.bool eb))) := Lib.hid (fun w' va vb ha hb => heb ▸ rsameD_any w' va vb _ _ ha hb)
  rw [ht] at ov1
  rw [heb] at ov2
  obtain ⟨lb, hlb⟩ : ∃ lb, decide (t < 0) = lb := ⟨_, rfl⟩
  rw [hlb] at ov1
  have hl2 : (lb != lb) = false := by cases lb <;> rfl
  have he2 : (eb != eb) = false := by cases eb <;> rfl
  clear HS1 HS2 HO1 HO2 hF1 hF2 r1 r2 ht heb
  obtain ⟨Bm_0, Bm_1, Bm_2⟩ := id Bm
  have Bm_l := World.block_lt_of_cell? _ _ Bm_0
  go_wp2_with fail
  refine (HC.out _ _ _ (nm.ext ((Ext.refl w3).alloc _)) (nn.ext ((Ext.refl w3).alloc _))).mono ?_
  rintro _ w4 ⟨rfl, f4⟩
  clear Bm_0 Bm_1 Bm_2 Bm_l
  have Bn : Box w4 (w3.heap.size) (.bool bn) (.slice An ln cn) (.int .i64 jjn) := Box.at ((Ext.refl _).trans f4) (by simp)
  have e4 : Ext w3 w4 := ((Ext.refl w3).alloc _).trans f4
  replace T := T.ext e4
  replace nm := nm.ext e4
  replace nn := nn.ext e4
  replace Ba := Ba.ext e4
  replace Bb := Bb.ext e4
  replace Bm := Bm.ext e4
  have E4 : Ext w w4 := E3.trans e4
  clear f4 e4 E3
  obtain ⟨Bm_0, Bm_1, Bm_2⟩ := id Bm
  have Bm_l := World.block_lt_of_cell? _ _ Bm_0
  obtain ⟨Bn_0, Bn_1, Bn_2⟩ := id Bn
  have Bn_l := World.block_lt_of_cell? _ _ Bn_0
  go_wp2_with fail
  refine (HE.out _ _ _ nm nn).mono ?_
  rintro _ w5 ⟨rfl, f5⟩
  clear Bm_0 Bm_1 Bm_2 Bm_l Bn_0 Bn_1 Bn_2 Bn_l
  have e5 : Ext w4 w5 := (Ext.refl w4).trans f5
  replace T := T.ext e5
  replace nm := nm.ext e5
  replace nn := nn.ext e5
  replace Ba := Ba.ext e5
  replace Bb := Bb.ext e5
  replace Bm := Bm.ext e5
  replace Bn := Bn.ext e5
  have E5 : Ext w w5 := E4.trans e5
  clear f5 e5 E4
  clear HC HE
  obtain ⟨Ba_0, Ba_1, Ba_2⟩ := id Ba
  have Ba_l := World.block_lt_of_cell? _ _ Ba_0
  go_wp2_with fail
  refine (HGa.out _ E5).mono ?_
  rintro _ w6 ⟨rfl, f6⟩
  clear Ba_0 Ba_1 Ba_2 Ba_l
  have e6 : Ext w5 w6 := (Ext.refl w5).trans f6
  replace T := T.ext e6
  replace nm := nm.ext e6
  replace nn := nn.ext e6
  replace Ba := Ba.ext e6
  replace Bb := Bb.ext e6
  replace Bm := Bm.ext e6
  replace Bn := Bn.ext e6
  have E6 : Ext w w6 := E5.trans e6
  clear f6 e6 E5
  go_wp2
  go_ret
  exact ⟨rfl, E6⟩

set_option maxRecDepth 10000 in
set_option maxHeartbeats 2000000 in
theorem order_bb (w : World) (T : Tg w) (nba : Bool) (Ma : Value) (xa : List Int) (ja : Int) (rowa : Row w Ma xa) (bda : -9223372036854775808 ≤ ja ∧ ja ≤ 9223372036854775807) (nbb : Bool) (Mb : Value) (xb : List Int) (jb : Int) (rowb : Row w Mb xb) (bdb : -9223372036854775808 ≤ jb ∧ jb ≤ 9223372036854775807) (f : Nat) (hf : f < 18446744073709551616) (g : Nat) (hg : g < 18446744073709551616) (hga : goodF nba xa ja = true) (hgb : goodF nbb xb jb = false) : Calls Tryd.prog 6 #[.agg #[.bool nba, Ma, .int .i64 ja], .agg #[.bool nbb, Mb, .int .i64 jb], .float .f64 f, .float .f64 g] w (RetE w (.bool true)) := by
  have hff0 : FloatKind.f64.format = Ieee.double := rfl
  have hff := ffrom_run
  have HGa : Hid (∀ w' : World, Ext w w' → Calls Tryd.prog 17 #[.agg #[.bool nba, Ma, .int .i64 ja]] w' (RetE w' (.bool true))) := Lib.hid (fun w' hE => hga ▸ goodF_any w' nba Ma xa ja (rowa.ext hE) bda)
  have HGb : Hid (∀ w' : World, Ext w w' → Calls Tryd.prog 17 #[.agg #[.bool nbb, Mb, .int .i64 jb]] w' (RetE w' (.bool false))) := Lib.hid (fun w' hE => hgb ▸ goodF_any w' nbb Mb xb jb (rowb.ext hE) bdb)
  obtain ⟨D1, s1, ho1, hs1, _, _⟩ := of_case f hf
  obtain ⟨D2, s2, ho2, hs2, _, _⟩ := of_case g hg
  have HO1 := Lib.hid ho1
  have HO2 := Lib.hid ho2
  have HS1 := Lib.hid hs1
  have HS2 := Lib.hid hs2
  clear hga hgb rowa bda rowb bdb hf hg ho1 ho2 hs1 hs2
  go_enter Tryd.func6, Tryd.ntmps6
  go_wp2_with fail
  refine (headF_any _ (T.ext (((Ext.refl w).alloc _).alloc _))).mono ?_
  rintro _ w1 ⟨rfl, f1⟩
  have Ba : Box w1 (w.heap.size) (.bool nba) Ma (.int .i64 ja) := Box.at (((Ext.refl _).alloc _).trans f1) (by simp)
  have Bb : Box w1 (w.heap.size + 1) (.bool nbb) Mb (.int .i64 jb) := Box.at ((Ext.refl _).trans f1) (by simp)
  have e1 : Ext w w1 := (((Ext.refl w).alloc _).alloc _).trans f1
  replace T := T.ext e1
  have E1 : Ext w w1 := (Ext.refl w).trans e1
  clear f1 e1
  go_wp2_with fail
  refine (HO1.out _ T).mono ?_
  rintro _ w2 ⟨vm, rfl, nm, f2⟩
  have e2 : Ext w1 w2 := (Ext.refl w1).trans f2
  replace T := T.ext e2
  replace Ba := Ba.ext e2
  replace Bb := Bb.ext e2
  have E2 : Ext w w2 := E1.trans e2
  clear f2 e2 E1
  obtain ⟨bm, Am, lm, cm, jjm, rfl⟩ := nm.form
  go_wp2_with fail
  refine (HO2.out _ (T.ext ((Ext.refl w2).alloc _))).mono ?_
  rintro _ w3 ⟨vn, rfl, nn, f3⟩
  have Bm : Box w3 (w2.heap.size) (.bool bm) (.slice Am lm cm) (.int .i64 jjm) := Box.at ((Ext.refl _).trans f3) (by simp)
  have e3 : Ext w2 w3 := ((Ext.refl w2).alloc _).trans f3
  replace T := T.ext e3
  replace nm := nm.ext e3
  replace Ba := Ba.ext e3
  replace Bb := Bb.ext e3
  have E3 : Ext w w3 := E2.trans e3
  clear f3 e3 E2
  obtain ⟨bn, An, ln, cn, jjn, rfl⟩ := nn.form
  cases s1
  · clear HS1 HS2 HO1 HO2
    obtain ⟨Ba_0, Ba_1, Ba_2⟩ := id Ba
    have Ba_l := World.block_lt_of_cell? _ _ Ba_0
    go_wp2_with fail
    refine (HGa.out _ (E3.trans ((Ext.refl w3).alloc _))).mono ?_
    rintro _ w4 ⟨rfl, f4⟩
    clear Ba_0 Ba_1 Ba_2 Ba_l
    have Bn : Box w4 (w3.heap.size) (.bool bn) (.slice An ln cn) (.int .i64 jjn) := Box.at ((Ext.refl _).trans f4) (by simp)
    have e4 : Ext w3 w4 := ((Ext.refl w3).alloc _).trans f4
    replace T := T.ext e4
    replace nm := nm.ext e4
    replace nn := nn.ext e4
    replace Ba := Ba.ext e4
    replace Bb := Bb.ext e4
    replace Bm := Bm.ext e4
    have E4 : Ext w w4 := E3.trans e4
    clear f4 e4 E3
    obtain ⟨Bb_0, Bb_1, Bb_2⟩ := id Bb
    have Bb_l := World.block_lt_of_cell? _ _ Bb_0
    go_wp2_with fail
    refine (HGb.out _ E4).mono ?_
    rintro _ w5 ⟨rfl, f5⟩
    clear Bb_0 Bb_1 Bb_2 Bb_l
    have e5 : Ext w4 w5 := (Ext.refl w4).trans f5
    replace T := T.ext e5
    replace nm := nm.ext e5
    replace nn := nn.ext e5
    replace Ba := Ba.ext e5
    replace Bb := Bb.ext e5
    replace Bm := Bm.ext e5
    replace Bn := Bn.ext e5
    have E5 : Ext w w5 := E4.trans e5
    clear f5 e5 E4
    go_wp2
    go_ret
    exact ⟨rfl, E5⟩
  cases s2
  · clear HS1 HS2 HO1 HO2
    obtain ⟨Ba_0, Ba_1, Ba_2⟩ := id Ba
    have Ba_l := World.block_lt_of_cell? _ _ Ba_0
    go_wp2_with fail
    refine (HGa.out _ (E3.trans ((Ext.refl w3).alloc _))).mono ?_
    rintro _ w4 ⟨rfl, f4⟩
    clear Ba_0 Ba_1 Ba_2 Ba_l
    have Bn : Box w4 (w3.heap.size) (.bool bn) (.slice An ln cn) (.int .i64 jjn) := Box.at ((Ext.refl _).trans f4) (by simp)
    have e4 : Ext w3 w4 := ((Ext.refl w3).alloc _).trans f4
    replace T := T.ext e4
    replace nm := nm.ext e4
    replace nn := nn.ext e4
    replace Ba := Ba.ext e4
    replace Bb := Bb.ext e4
    replace Bm := Bm.ext e4
    have E4 : Ext w w4 := E3.trans e4
    clear f4 e4 E3
    obtain ⟨Bb_0, Bb_1, Bb_2⟩ := id Bb
    have Bb_l := World.block_lt_of_cell? _ _ Bb_0
    go_wp2_with fail
    refine (HGb.out _ E4).mono ?_
    rintro _ w5 ⟨rfl, f5⟩
    clear Bb_0 Bb_1 Bb_2 Bb_l
    have e5 : Ext w4 w5 := (Ext.refl w4).trans f5
    replace T := T.ext e5
    replace nm := nm.ext e5
    replace nn := nn.ext e5
    replace Ba := Ba.ext e5
    replace Bb := Bb.ext e5
    replace Bm := Bm.ext e5
    replace Bn := Bn.ext e5
    have E5 : Ext w w5 := E4.trans e5
    clear f5 e5 E4
    go_wp2
    go_ret
    exact ⟨rfl, E5⟩
  obtain ⟨hF1, rfl⟩ := HS1.out rfl
  obtain ⟨hF2, rfl⟩ := HS2.out rfl
  obtain ⟨ov1, ov2⟩ := ord_vals hF1 hF2
  have r1 : Rw (fval f) := fin_rw hF1
  have r2 : Rw (fval g) := fin_rw hF2
  obtain ⟨t, ht⟩ : ∃ t, cmpD (fval f) (fval g) = t := ⟨_, rfl⟩
  obtain ⟨eb, heb⟩ : ∃ eb, decide (fval f = fval g) = eb := ⟨_, rfl⟩
  have HC : Hid (∀ w' va vb, Dn w' va (fval f) → Dn w' vb (fval g) → Calls Tryd.prog 23 #[va, vb] w' (RetE w' (.int .i64 t))) := Lib.hid (fun w' va vb ha hb => ht ▸ rcmpD_any w' va vb _ _ 3000 3500 ha hb r1 r2 (by omega))
  have HE : Hid (∀ w' va vb, Dn w' va (fval f) → Dn w' vb (fval g) → Calls Tryd.prog 12 #[va, vb] w' (RetE w' (.bool eb))) := Lib.hid (fun w' va vb ha hb => heb ▸ rsameD_any w' va vb _ _ ha hb)
  rw [ht] at ov1
  rw [heb] at ov2
  obtain ⟨lb, hlb⟩ : ∃ lb, decide (t < 0) = lb := ⟨_, rfl⟩
  rw [hlb] at ov1
  have hl2 : (lb != lb) = false := by cases lb <;> rfl
  have he2 : (eb != eb) = false := by cases eb <;> rfl
  clear HS1 HS2 HO1 HO2 hF1 hF2 r1 r2 ht heb
  obtain ⟨Bm_0, Bm_1, Bm_2⟩ := id Bm
  have Bm_l := World.block_lt_of_cell? _ _ Bm_0
  go_wp2_with fail
  refine (HC.out _ _ _ (nm.ext ((Ext.refl w3).alloc _)) (nn.ext ((Ext.refl w3).alloc _))).mono ?_
  rintro _ w4 ⟨rfl, f4⟩
  clear Bm_0 Bm_1 Bm_2 Bm_l
  have Bn : Box w4 (w3.heap.size) (.bool bn) (.slice An ln cn) (.int .i64 jjn) := Box.at ((Ext.refl _).trans f4) (by simp)
  have e4 : Ext w3 w4 := ((Ext.refl w3).alloc _).trans f4
  replace T := T.ext e4
  replace nm := nm.ext e4
  replace nn := nn.ext e4
  replace Ba := Ba.ext e4
  replace Bb := Bb.ext e4
  replace Bm := Bm.ext e4
  have E4 : Ext w w4 := E3.trans e4
  clear f4 e4 E3
  obtain ⟨Bm_0, Bm_1, Bm_2⟩ := id Bm
  have Bm_l := World.block_lt_of_cell? _ _ Bm_0
  obtain ⟨Bn_0, Bn_1, Bn_2⟩ := id Bn
  have Bn_l := World.block_lt_of_cell? _ _ Bn_0
  go_wp2_with fail
  refine (HE.out _ _ _ nm nn).mono ?_
  rintro _ w5 ⟨rfl, f5⟩
  clear Bm_0 Bm_1 Bm_2 Bm_l Bn_0 Bn_1 Bn_2 Bn_l
  have e5 : Ext w4 w5 := (Ext.refl w4).trans f5
  replace T := T.ext e5
  replace nm := nm.ext e5
  replace nn := nn.ext e5
  replace Ba := Ba.ext e5
  replace Bb := Bb.ext e5
  replace Bm := Bm.ext e5
  replace Bn := Bn.ext e5
  have E5 : Ext w w5 := E4.trans e5
  clear f5 e5 E4
  clear HC HE
  obtain ⟨Ba_0, Ba_1, Ba_2⟩ := id Ba
  have Ba_l := World.block_lt_of_cell? _ _ Ba_0
  go_wp2_with fail
  refine (HGa.out _ E5).mono ?_
  rintro _ w6 ⟨rfl, f6⟩
  clear Ba_0 Ba_1 Ba_2 Ba_l
  have e6 : Ext w5 w6 := (Ext.refl w5).trans f6
  replace T := T.ext e6
  replace nm := nm.ext e6
  replace nn := nn.ext e6
  replace Ba := Ba.ext e6
  replace Bb := Bb.ext e6
  replace Bm := Bm.ext e6
  replace Bn := Bn.ext e6
  have E6 : Ext w w6 := E5.trans e6
  clear f6 e6 E5
  obtain ⟨Bb_0, Bb_1, Bb_2⟩ := id Bb
  have Bb_l := World.block_lt_of_cell? _ _ Bb_0
  go_wp2_with fail
  refine (HGb.out _ E6).mono ?_
  rintro _ w7 ⟨rfl, f7⟩
  clear Bb_0 Bb_1 Bb_2 Bb_l
  have e7 : Ext w6 w7 := (Ext.refl w6).trans f7
  replace T := T.ext e7
  replace nm := nm.ext e7
  replace nn := nn.ext e7
  replace Ba := Ba.ext e7
  replace Bb := Bb.ext e7
  replace Bm := Bm.ext e7
  replace Bn := Bn.ext e7
  have E7 : Ext w w7 := E6.trans e7
  clear f7 e7 E6
  go_wp2
  go_ret
  exact ⟨rfl, E7⟩

set_option maxRecDepth 10000 in
set_option maxHeartbeats 2000000 in
theorem order_gt (w : World) (T : Tg w) (nba : Bool) (Ma : Value) (xa : List Int) (ja : Int) (rowa : Row w Ma xa) (bda : -9223372036854775808 ≤ ja ∧ ja ≤ 9223372036854775807) (nbb : Bool) (Mb : Value) (xb : List Int) (jb : Int) (rowb : Row w Mb xb) (bdb : -9223372036854775808 ≤ jb ∧ jb ≤ 9223372036854775807) (f : Nat) (hf : f < 18446744073709551616) (g : Nat) (hg : g < 18446744073709551616) (hga : goodF nba xa ja = true) (hgb : goodF nbb xb jb = true) (a b : Dyadic) (na : Dn w (.agg #[.bool nba, Ma, .int .i64 ja]) a) (nb : Dn w (.agg #[.bool nbb, Mb, .int .i64 jb]) b) (ha1 : Nb a) (ha2 : Rw a) (hb1 : Nb b) (hb2 : Rw b) (u : Int) (hu : cmpD a b = u) (hu1 : u = 1) : Calls Tryd.prog 6 #[.agg #[.bool nba, Ma, .int .i64 ja], .agg #[.bool nbb, Mb, .int .i64 jb], .float .f64 f, .float .f64 g] w (RetE w (.bool true)) := by
  have hff0 : FloatKind.f64.format = Ieee.double := rfl
  have hff := ffrom_run
  have HGa : Hid (∀ w' : World, Ext w w' → Calls Tryd.prog 17 #[.agg #[.bool nba, Ma, .int .i64 ja]] w' (RetE w' (.bool true))) := Lib.hid (fun w' hE => hga ▸ goodF_any w' nba Ma xa ja (rowa.ext hE) bda)
  have HGb : Hid (∀ w' : World, Ext w w' → Calls Tryd.prog 17 #[.agg #[.bool nbb, Mb, .int .i64 jb]] w' (RetE w' (.bool true))) := Lib.hid (fun w' hE => hgb ▸ goodF_any w' nbb Mb xb jb (rowb.ext hE) bdb)
  obtain ⟨D1, s1, ho1, hs1, _, _⟩ := of_case f hf
  obtain ⟨D2, s2, ho2, hs2, _, _⟩ := of_case g hg
  have HO1 := Lib.hid ho1
  have HO2 := Lib.hid ho2
  have HS1 := Lib.hid hs1
  have HS2 := Lib.hid hs2
  have HCab : Hid (∀ w' va vb, Dn w' va a → Dn w' vb b → Calls Tryd.prog 23 #[va, vb] w' (RetE w' (.int .i64 u))) := Lib.hid (fun w' va vb ha hb => hu ▸ rcmpD_any w' va vb _ _ 3000 3500 ha hb ha2 hb2 (by omega))
  have HNa := Lib.hid (fun w' v (h : Dn w' v a) (T' : Tg w') => near_nb w' v a h ha1 T')
  have HNb := Lib.hid (fun w' v (h : Dn w' v b) (T' : Tg w') => near_nb w' v b h hb1 T')
  have HNm := Lib.hid (fun w' v (h : Dn w' v (-a)) (T' : Tg w') => near_nb w' v (-a) h ha1.neg T')
  subst hu1
  clear hga hgb rowa bda rowb bdb hf hg ho1 ho2 hs1 hs2 ha1 ha2 hb1 hb2 hu
  go_enter Tryd.func6, Tryd.ntmps6
  go_wp2_with fail
  refine (headF_any _ (T.ext (((Ext.refl w).alloc _).alloc _))).mono ?_
  rintro _ w1 ⟨rfl, f1⟩
  have Ba : Box w1 (w.heap.size) (.bool nba) Ma (.int .i64 ja) := Box.at (((Ext.refl _).alloc _).trans f1) (by simp)
  have Bb : Box w1 (w.heap.size + 1) (.bool nbb) Mb (.int .i64 jb) := Box.at ((Ext.refl _).trans f1) (by simp)
  have e1 : Ext w w1 := (((Ext.refl w).alloc _).alloc _).trans f1
  replace T := T.ext e1
  have E1 : Ext w w1 := (Ext.refl w).trans e1
  clear f1 e1
  replace na := na.ext E1
  replace nb := nb.ext E1
  go_wp2_with fail
  refine (HO1.out _ T).mono ?_
  rintro _ w2 ⟨vm, rfl, nm, f2⟩
  have e2 : Ext w1 w2 := (Ext.refl w1).trans f2
  replace T := T.ext e2
  replace na := na.ext e2
  replace nb := nb.ext e2
  replace Ba := Ba.ext e2
  replace Bb := Bb.ext e2
  have E2 : Ext w w2 := E1.trans e2
  clear f2 e2 E1
  obtain ⟨bm, Am, lm, cm, jjm, rfl⟩ := nm.form
  go_wp2_with fail
  refine (HO2.out _ (T.ext ((Ext.refl w2).alloc _))).mono ?_
  rintro _ w3 ⟨vn, rfl, nn, f3⟩
  have Bm : Box w3 (w2.heap.size) (.bool bm) (.slice Am lm cm) (.int .i64 jjm) := Box.at ((Ext.refl _).trans f3) (by simp)
  have e3 : Ext w2 w3 := ((Ext.refl w2).alloc _).trans f3
  replace T := T.ext e3
  replace na := na.ext e3
  replace nb := nb.ext e3
  replace nm := nm.ext e3
  replace Ba := Ba.ext e3
  replace Bb := Bb.ext e3
  have E3 : Ext w w3 := E2.trans e3
  clear f3 e3 E2
  obtain ⟨bn, An, ln, cn, jjn, rfl⟩ := nn.form
  cases s1
  · clear HS1 HS2 HO1 HO2
    obtain ⟨Ba_0, Ba_1, Ba_2⟩ := id Ba
    have Ba_l := World.block_lt_of_cell? _ _ Ba_0
    go_wp2_with fail
    refine (HGa.out _ (E3.trans ((Ext.refl w3).alloc _))).mono ?_
    rintro _ w4 ⟨rfl, f4⟩
    clear Ba_0 Ba_1 Ba_2 Ba_l
    have Bn : Box w4 (w3.heap.size) (.bool bn) (.slice An ln cn) (.int .i64 jjn) := Box.at ((Ext.refl _).trans f4) (by simp)
    have e4 : Ext w3 w4 := ((Ext.refl w3).alloc _).trans f4
    replace T := T.ext e4
    replace na := na.ext e4
    replace nb := nb.ext e4
    replace nm := nm.ext e4
    replace nn := nn.ext e4
    replace Ba := Ba.ext e4
    replace Bb := Bb.ext e4
    replace Bm := Bm.ext e4
    have E4 : Ext w w4 := E3.trans e4
    clear f4 e4 E3
    obtain ⟨Bb_0, Bb_1, Bb_2⟩ := id Bb
    have Bb_l := World.block_lt_of_cell? _ _ Bb_0
    go_wp2_with fail
    refine (HGb.out _ E4).mono ?_
    rintro _ w5 ⟨rfl, f5⟩
    clear Bb_0 Bb_1 Bb_2 Bb_l
    have e5 : Ext w4 w5 := (Ext.refl w4).trans f5
    replace T := T.ext e5
    replace na := na.ext e5
    replace nb := nb.ext e5
    replace nm := nm.ext e5
    replace nn := nn.ext e5
    replace Ba := Ba.ext e5
    replace Bb := Bb.ext e5
    replace Bm := Bm.ext e5
    replace Bn := Bn.ext e5
    have E5 : Ext w w5 := E4.trans e5
    clear f5 e5 E4
    go_wp2
    obtain ⟨Ba_0, Ba_1, Ba_2⟩ := id Ba
    have Ba_l := World.block_lt_of_cell? _ _ Ba_0
    obtain ⟨Bb_0, Bb_1, Bb_2⟩ := id Bb
    have Bb_l := World.block_lt_of_cell? _ _ Bb_0
    refine wp_region_held_drew (S := (fun w' => (w'.cell? ⟨w.heap.size, 0, none⟩ = some (.bool nba) ∧ w'.cell? ⟨w.heap.size, 1, none⟩ = some Ma ∧ w'.cell? ⟨w.heap.size, 2, none⟩ = some (.int .i64 ja)) ∧ (w'.cell? ⟨w.heap.size + 1, 0, none⟩ = some (.bool nbb) ∧ w'.cell? ⟨w.heap.size + 1, 1, none⟩ = some Mb ∧ w'.cell? ⟨w.heap.size + 1, 2, none⟩ = some (.int .i64 jb)))) (by kernel_rfl) ⟨box3 (Ba.ext (Ext.refl w5).drew), box3 (Bb.ext (Ext.refl w5).drew)⟩ (fun hHeld => ?_)
    refine wpAnyH_take (i := 0) (v := ?_) rfl (by kernel_rfl) (by kernel_rfl) (by kernel_rfl) (fun _ _ _ h => h) (Or.inl ⟨by rfl, ?_⟩) (by assumption) ?_
    rotate_left
    · (intro w hSw; (try dsimp only at hSw); go_simp); (try with_reducible rfl)
    simp only [List.getElem_toArray, List.getElem_cons_zero, Act.put, List.setIfInBounds_toArray, List.set_cons_zero, List.set_cons_succ]
    refine wpAnyH_take (i := 1) (v := ?_) rfl (by kernel_rfl) (by kernel_rfl) (by kernel_rfl) (fun _ _ _ h => h) (Or.inl ⟨by rfl, ?_⟩) (by assumption) ?_
    rotate_left
    · (intro w hSw; (try dsimp only at hSw); go_simp); (try with_reducible rfl)
    simp only [List.getElem_toArray, List.getElem_cons_zero, List.getElem_cons_succ, Act.put, List.setIfInBounds_toArray, List.set_cons_zero, List.set_cons_succ]
    refine wpAnyH_take (i := 2) (v := ?_) rfl (by kernel_rfl) (by kernel_rfl) (by kernel_rfl) (fun _ _ _ h => h) (Or.inl ⟨by rfl, ?_⟩) (by assumption) ?_
    rotate_left
    · (intro w hSw; (try dsimp only at hSw); go_simp); (try with_reducible rfl)
    simp only [List.getElem_toArray, List.getElem_cons_zero, List.getElem_cons_succ, Act.put, List.setIfInBounds_toArray, List.set_cons_zero, List.set_cons_succ]
    refine wpAnyH_take (i := 3) (v := ?_) rfl (by kernel_rfl) (by kernel_rfl) (by kernel_rfl) (fun _ _ _ h => h) (Or.inl ⟨by rfl, ?_⟩) (by assumption) ?_
    rotate_left
    · (intro w hSw; (try dsimp only at hSw); go_simp); (try with_reducible rfl)
    simp only [List.getElem_toArray, List.getElem_cons_zero, List.getElem_cons_succ, Act.put, List.setIfInBounds_toArray, List.set_cons_zero, List.set_cons_succ]
    refine wpAnyH_ready (rs := [4]) (by kernel_rfl) (by simp) ?_
    refine AllReadyH.cons rfl (fun K hK => ?_) AllReadyH.nil
    go_simp
    refine (HCab.out _ _ _ (na.ext (Ext.refl w5).drew) (nb.ext (Ext.refl w5).drew)).mono ?_
    rintro _ u1 ⟨rfl, eu1⟩
    have F1 : Ext w5 u1 := (Ext.refl w5).drew.trans eu1
    refine hK.out _ _ ⟨box3 (Ba.ext F1), box3 (Bb.ext F1)⟩ (fun hHeld => ?_)
    clear hK K
    refine wpAnyH_take (i := 5) (v := ?_) rfl (by kernel_rfl) (by kernel_rfl) (by kernel_rfl) (fun _ _ _ h => h) (Or.inl ⟨by rfl, ?_⟩) (by assumption) ?_
    rotate_left
    · (intro w hSw; (try dsimp only at hSw); go_simp); (try with_reducible rfl)
    simp only [List.getElem_toArray, List.getElem_cons_zero, List.getElem_cons_succ, Act.put, List.setIfInBounds_toArray, List.set_cons_zero, List.set_cons_succ]
    refine wpAnyH_take (i := 6) (v := ?_) rfl (by kernel_rfl) (by kernel_rfl) (by kernel_rfl) (fun _ _ _ h => h) (Or.inl ⟨by rfl, ?_⟩) (by assumption) ?_
    rotate_left
    · (intro w hSw; (try dsimp only at hSw); go_simp); (try with_reducible rfl)
    simp only [List.getElem_toArray, List.getElem_cons_zero, List.getElem_cons_succ, Act.put, List.setIfInBounds_toArray, List.set_cons_zero, List.set_cons_succ]
    refine wpAnyH_take (i := 7) (v := undef) rfl (by kernel_rfl) (by kernel_rfl) (by kernel_rfl) (fun _ _ _ h => h) (Or.inr ⟨by rfl, rfl⟩) (by assumption) ?_
    simp only [List.getElem_toArray, List.getElem_cons_zero, List.getElem_cons_succ, Act.put, List.setIfInBounds_toArray, List.set_cons_zero, List.set_cons_succ]
    refine wpAnyH_take (i := 8) (v := undef) rfl (by kernel_rfl) (by kernel_rfl) (by kernel_rfl) (fun _ _ _ h => h) (Or.inr ⟨by rfl, rfl⟩) (by assumption) ?_
    simp only [List.getElem_toArray, List.getElem_cons_zero, List.getElem_cons_succ, Act.put, List.setIfInBounds_toArray, List.set_cons_zero, List.set_cons_succ]
    refine wpAnyH_take (i := 9) (v := undef) rfl (by kernel_rfl) (by kernel_rfl) (by kernel_rfl) (fun _ _ _ h => h) (Or.inr ⟨by rfl, rfl⟩) (by assumption) ?_
    simp only [List.getElem_toArray, List.getElem_cons_zero, List.getElem_cons_succ, Act.put, List.setIfInBounds_toArray, List.set_cons_zero, List.set_cons_succ]
    refine wpAnyH_take (i := 10) (v := undef) rfl (by kernel_rfl) (by kernel_rfl) (by kernel_rfl) (fun _ _ _ h => h) (Or.inr ⟨by rfl, rfl⟩) (by assumption) ?_
    simp only [List.getElem_toArray, List.getElem_cons_zero, List.getElem_cons_succ, Act.put, List.setIfInBounds_toArray, List.set_cons_zero, List.set_cons_succ]
    refine wpAnyH_take (i := 11) (v := undef) rfl (by kernel_rfl) (by kernel_rfl) (by kernel_rfl) (fun _ _ _ h => h) (Or.inr ⟨by rfl, rfl⟩) (by assumption) ?_
    simp only [List.getElem_toArray, List.getElem_cons_zero, List.getElem_cons_succ, Act.put, List.setIfInBounds_toArray, List.set_cons_zero, List.set_cons_succ]
    refine wpAnyH_take (i := 12) (v := ?_) rfl (by kernel_rfl) (by kernel_rfl) (by kernel_rfl) (fun _ _ _ h => h) (Or.inl ⟨by rfl, ?_⟩) (by assumption) ?_
    rotate_left
    · (intro w hSw; (try dsimp only at hSw); go_simp); (try with_reducible rfl)
    simp only [List.getElem_toArray, List.getElem_cons_zero, List.getElem_cons_succ, Act.put, List.setIfInBounds_toArray, List.set_cons_zero, List.set_cons_succ]
    refine wpAnyH_take (i := 13) (v := ?_) rfl (by kernel_rfl) (by kernel_rfl) (by kernel_rfl) (fun _ _ _ h => h) (Or.inl ⟨by rfl, ?_⟩) (by assumption) ?_
    rotate_left
    · (intro w hSw; (try dsimp only at hSw); go_simp); (try with_reducible rfl)
    simp only [List.getElem_toArray, List.getElem_cons_zero, List.getElem_cons_succ, Act.put, List.setIfInBounds_toArray, List.set_cons_zero, List.set_cons_succ]
    refine wpAnyH_take (i := 14) (v := ?_) rfl (by kernel_rfl) (by kernel_rfl) (by kernel_rfl) (fun _ _ _ h => h) (Or.inl ⟨by rfl, ?_⟩) (by assumption) ?_
    rotate_left
    · (intro w hSw; (try dsimp only at hSw); go_simp); (try with_reducible rfl)
    simp only [List.getElem_toArray, List.getElem_cons_zero, List.getElem_cons_succ, Act.put, List.setIfInBounds_toArray, List.set_cons_zero, List.set_cons_succ]
    refine wpAnyH_take (i := 15) (v := ?_) rfl (by kernel_rfl) (by kernel_rfl) (by kernel_rfl) (fun _ _ _ h => h) (Or.inl ⟨by rfl, ?_⟩) (by assumption) ?_
    rotate_left
    · (intro w hSw; (try dsimp only at hSw); go_simp); (try with_reducible rfl)
    simp only [List.getElem_toArray, List.getElem_cons_zero, List.getElem_cons_succ, Act.put, List.setIfInBounds_toArray, List.set_cons_zero, List.set_cons_succ]
    refine wpAnyH_take (i := 18) (v := ?_) rfl (by kernel_rfl) (by kernel_rfl) (by kernel_rfl) (fun _ _ _ h => h) (Or.inl ⟨by rfl, ?_⟩) (by assumption) ?_
    rotate_left
    · (intro w hSw; (try dsimp only at hSw); go_simp); (try with_reducible rfl)
    simp only [List.getElem_toArray, List.getElem_cons_zero, List.getElem_cons_succ, Act.put, List.setIfInBounds_toArray, List.set_cons_zero, List.set_cons_succ]
    refine wpAnyH_ready (rs := [16]) (by kernel_rfl) (by simp) ?_
    refine AllReadyH.cons rfl (fun K hK => ?_) AllReadyH.nil
    go_simp
    refine (rflip_any _ _ a (na.ext F1)).mono ?_
    rintro _ u2 ⟨vu2, rfl, m2, eu2⟩
    have F2 : Ext w5 u2 := F1.trans eu2
    refine hK.out _ _ ⟨box3 (Ba.ext F2), box3 (Bb.ext F2)⟩ (fun hHeld => ?_)
    clear hK K
    refine wpAnyH_ready (rs := [17]) (by kernel_rfl) (by simp) ?_
    refine AllReadyH.cons rfl (fun K hK => ?_) AllReadyH.nil
    go_simp
    refine (HNm.out _ _ m2 (T.ext F2)).mono ?_
    rintro _ u3 ⟨q3, rfl, hq3, eu3⟩
    have F3 : Ext w5 u3 := F2.trans eu3
    clear m2
    refine hK.out _ _ ⟨box3 (Ba.ext F3), box3 (Bb.ext F3)⟩ (fun hHeld => ?_)
    clear hK K
    refine wpAnyH_ready (rs := [19]) (by kernel_rfl) (by simp) ?_
    refine AllReadyH.cons rfl (fun K hK => ?_) AllReadyH.nil
    go_simp
    refine (HNa.out _ _ (na.ext F3) (T.ext F3)).mono ?_
    rintro _ u4 ⟨q4, rfl, hq4, eu4⟩
    have F4 : Ext w5 u4 := F3.trans eu4
    obtain ⟨q5, hun, hk5, hn5⟩ := neg_case q4 hq4.lt hq4.num
    have hoe := order_key hq3.num hn5 (by rw [hk5]; exact hq4.opp hq3)
    refine hK.out _ _ ⟨box3 (Ba.ext F4), box3 (Bb.ext F4)⟩ (fun hHeld => ?_)
    clear hK K
    refine wpAnyH_take (i := 20) (v := ?_) rfl (by kernel_rfl) (by kernel_rfl) (by kernel_rfl) (fun _ _ _ h => h) (Or.inl ⟨by rfl, ?_⟩) (by assumption) ?_
    rotate_left
    · (intro w hSw; (try dsimp only at hSw); go_simp); (try with_reducible rfl)
    simp only [List.getElem_toArray, List.getElem_cons_zero, List.getElem_cons_succ, Act.put, List.setIfInBounds_toArray, List.set_cons_zero, List.set_cons_succ]
    refine wpAnyH_take (i := 21) (v := ?_) rfl (by kernel_rfl) (by kernel_rfl) (by kernel_rfl) (fun _ _ _ h => h) (Or.inl ⟨by rfl, ?_⟩) (by assumption) ?_
    rotate_left
    · (intro w hSw; (try dsimp only at hSw); go_simp); (try with_reducible rfl)
    simp only [List.getElem_toArray, List.getElem_cons_zero, List.getElem_cons_succ, Act.put, List.setIfInBounds_toArray, List.set_cons_zero, List.set_cons_succ]
    refine wpAnyH_take (i := 22) (v := ?_) rfl (by kernel_rfl) (by kernel_rfl) (by kernel_rfl) (fun _ _ _ h => h) (Or.inl ⟨by rfl, ?_⟩) (by assumption) ?_
    rotate_left
    · (intro w hSw; (try dsimp only at hSw); go_simp); (try with_reducible rfl)
    simp only [List.getElem_toArray, List.getElem_cons_zero, List.getElem_cons_succ, Act.put, List.setIfInBounds_toArray, List.set_cons_zero, List.set_cons_succ]
    refine wpAnyH_take (i := 23) (v := ?_) rfl (by kernel_rfl) (by kernel_rfl) (by kernel_rfl) (fun _ _ _ h => h) (Or.inl ⟨by rfl, ?_⟩) (by assumption) ?_
    rotate_left
    · (intro w hSw; (try dsimp only at hSw); go_simp); (try with_reducible rfl)
    simp only [List.getElem_toArray, List.getElem_cons_zero, List.getElem_cons_succ, Act.put, List.setIfInBounds_toArray, List.set_cons_zero, List.set_cons_succ]
    refine wpAnyH_done (by kernel_rfl) ?_ _
    go_wp2
    go_ret
    exact ⟨rfl, E5.trans F4⟩
  cases s2
  · clear HS1 HS2 HO1 HO2
    obtain ⟨Ba_0, Ba_1, Ba_2⟩ := id Ba
    have Ba_l := World.block_lt_of_cell? _ _ Ba_0
    go_wp2_with fail
    refine (HGa.out _ (E3.trans ((Ext.refl w3).alloc _))).mono ?_
    rintro _ w4 ⟨rfl, f4⟩
    clear Ba_0 Ba_1 Ba_2 Ba_l
    have Bn : Box w4 (w3.heap.size) (.bool bn) (.slice An ln cn) (.int .i64 jjn) := Box.at ((Ext.refl _).trans f4) (by simp)
    have e4 : Ext w3 w4 := ((Ext.refl w3).alloc _).trans f4
    replace T := T.ext e4
    replace na := na.ext e4
    replace nb := nb.ext e4
    replace nm := nm.ext e4
    replace nn := nn.ext e4
    replace Ba := Ba.ext e4
    replace Bb := Bb.ext e4
    replace Bm := Bm.ext e4
    have E4 : Ext w w4 := E3.trans e4
    clear f4 e4 E3
    obtain ⟨Bb_0, Bb_1, Bb_2⟩ := id Bb
    have Bb_l := World.block_lt_of_cell? _ _ Bb_0
    go_wp2_with fail
    refine (HGb.out _ E4).mono ?_
    rintro _ w5 ⟨rfl, f5⟩
    clear Bb_0 Bb_1 Bb_2 Bb_l
    have e5 : Ext w4 w5 := (Ext.refl w4).trans f5
    replace T := T.ext e5
    replace na := na.ext e5
    replace nb := nb.ext e5
    replace nm := nm.ext e5
    replace nn := nn.ext e5
    replace Ba := Ba.ext e5
    replace Bb := Bb.ext e5
    replace Bm := Bm.ext e5
    replace Bn := Bn.ext e5
    have E5 : Ext w w5 := E4.trans e5
    clear f5 e5 E4
    go_wp2
    obtain ⟨Ba_0, Ba_1, Ba_2⟩ := id Ba
    have Ba_l := World.block_lt_of_cell? _ _ Ba_0
    obtain ⟨Bb_0, Bb_1, Bb_2⟩ := id Bb
    have Bb_l := World.block_lt_of_cell? _ _ Bb_0
    refine wp_region_held_drew (S := (fun w' => (w'.cell? ⟨w.heap.size, 0, none⟩ = some (.bool nba) ∧ w'.cell? ⟨w.heap.size, 1, none⟩ = some Ma ∧ w'.cell? ⟨w.heap.size, 2, none⟩ = some (.int .i64 ja)) ∧ (w'.cell? ⟨w.heap.size + 1, 0, none⟩ = some (.bool nbb) ∧ w'.cell? ⟨w.heap.size + 1, 1, none⟩ = some Mb ∧ w'.cell? ⟨w.heap.size + 1, 2, none⟩ = some (.int .i64 jb)))) (by kernel_rfl) ⟨box3 (Ba.ext (Ext.refl w5).drew), box3 (Bb.ext (Ext.refl w5).drew)⟩ (fun hHeld => ?_)
    refine wpAnyH_take (i := 0) (v := ?_) rfl (by kernel_rfl) (by kernel_rfl) (by kernel_rfl) (fun _ _ _ h => h) (Or.inl ⟨by rfl, ?_⟩) (by assumption) ?_
    rotate_left
    · (intro w hSw; (try dsimp only at hSw); go_simp); (try with_reducible rfl)
    simp only [List.getElem_toArray, List.getElem_cons_zero, Act.put, List.setIfInBounds_toArray, List.set_cons_zero, List.set_cons_succ]
    refine wpAnyH_take (i := 1) (v := ?_) rfl (by kernel_rfl) (by kernel_rfl) (by kernel_rfl) (fun _ _ _ h => h) (Or.inl ⟨by rfl, ?_⟩) (by assumption) ?_
    rotate_left
    · (intro w hSw; (try dsimp only at hSw); go_simp); (try with_reducible rfl)
    simp only [List.getElem_toArray, List.getElem_cons_zero, List.getElem_cons_succ, Act.put, List.setIfInBounds_toArray, List.set_cons_zero, List.set_cons_succ]
    refine wpAnyH_take (i := 2) (v := ?_) rfl (by kernel_rfl) (by kernel_rfl) (by kernel_rfl) (fun _ _ _ h => h) (Or.inl ⟨by rfl, ?_⟩) (by assumption) ?_
    rotate_left
    · (intro w hSw; (try dsimp only at hSw); go_simp); (try with_reducible rfl)
    simp only [List.getElem_toArray, List.getElem_cons_zero, List.getElem_cons_succ, Act.put, List.setIfInBounds_toArray, List.set_cons_zero, List.set_cons_succ]
    refine wpAnyH_take (i := 3) (v := ?_) rfl (by kernel_rfl) (by kernel_rfl) (by kernel_rfl) (fun _ _ _ h => h) (Or.inl ⟨by rfl, ?_⟩) (by assumption) ?_
    rotate_left
    · (intro w hSw; (try dsimp only at hSw); go_simp); (try with_reducible rfl)
    simp only [List.getElem_toArray, List.getElem_cons_zero, List.getElem_cons_succ, Act.put, List.setIfInBounds_toArray, List.set_cons_zero, List.set_cons_succ]
    refine wpAnyH_ready (rs := [4]) (by kernel_rfl) (by simp) ?_
    refine AllReadyH.cons rfl (fun K hK => ?_) AllReadyH.nil
    go_simp
    refine (HCab.out _ _ _ (na.ext (Ext.refl w5).drew) (nb.ext (Ext.refl w5).drew)).mono ?_
    rintro _ u1 ⟨rfl, eu1⟩
    have F1 : Ext w5 u1 := (Ext.refl w5).drew.trans eu1
    refine hK.out _ _ ⟨box3 (Ba.ext F1), box3 (Bb.ext F1)⟩ (fun hHeld => ?_)
    clear hK K
    refine wpAnyH_take (i := 5) (v := ?_) rfl (by kernel_rfl) (by kernel_rfl) (by kernel_rfl) (fun _ _ _ h => h) (Or.inl ⟨by rfl, ?_⟩) (by assumption) ?_
    rotate_left
    · (intro w hSw; (try dsimp only at hSw); go_simp); (try with_reducible rfl)
    simp only [List.getElem_toArray, List.getElem_cons_zero, List.getElem_cons_succ, Act.put, List.setIfInBounds_toArray, List.set_cons_zero, List.set_cons_succ]
    refine wpAnyH_take (i := 6) (v := ?_) rfl (by kernel_rfl) (by kernel_rfl) (by kernel_rfl) (fun _ _ _ h => h) (Or.inl ⟨by rfl, ?_⟩) (by assumption) ?_
    rotate_left
    · (intro w hSw; (try dsimp only at hSw); go_simp); (try with_reducible rfl)
    simp only [List.getElem_toArray, List.getElem_cons_zero, List.getElem_cons_succ, Act.put, List.setIfInBounds_toArray, List.set_cons_zero, List.set_cons_succ]
    refine wpAnyH_take (i := 7) (v := undef) rfl (by kernel_rfl) (by kernel_rfl) (by kernel_rfl) (fun _ _ _ h => h) (Or.inr ⟨by rfl, rfl⟩) (by assumption) ?_
    simp only [List.getElem_toArray, List.getElem_cons_zero, List.getElem_cons_succ, Act.put, List.setIfInBounds_toArray, List.set_cons_zero, List.set_cons_succ]
    refine wpAnyH_take (i := 8) (v := undef) rfl (by kernel_rfl) (by kernel_rfl) (by kernel_rfl) (fun _ _ _ h => h) (Or.inr ⟨by rfl, rfl⟩) (by assumption) ?_
    simp only [List.getElem_toArray, List.getElem_cons_zero, List.getElem_cons_succ, Act.put, List.setIfInBounds_toArray, List.set_cons_zero, List.set_cons_succ]
    refine wpAnyH_take (i := 9) (v := undef) rfl (by kernel_rfl) (by kernel_rfl) (by kernel_rfl) (fun _ _ _ h => h) (Or.inr ⟨by rfl, rfl⟩) (by assumption) ?_
    simp only [List.getElem_toArray, List.getElem_cons_zero, List.getElem_cons_succ, Act.put, List.setIfInBounds_toArray, List.set_cons_zero, List.set_cons_succ]
    refine wpAnyH_take (i := 10) (v := undef) rfl (by kernel_rfl) (by kernel_rfl) (by kernel_rfl) (fun _ _ _ h => h) (Or.inr ⟨by rfl, rfl⟩) (by assumption) ?_
    simp only [List.getElem_toArray, List.getElem_cons_zero, List.getElem_cons_succ, Act.put, List.setIfInBounds_toArray, List.set_cons_zero, List.set_cons_succ]
    refine wpAnyH_take (i := 11) (v := undef) rfl (by kernel_rfl) (by kernel_rfl) (by kernel_rfl) (fun _ _ _ h => h) (Or.inr ⟨by rfl, rfl⟩) (by assumption) ?_
    simp only [List.getElem_toArray, List.getElem_cons_zero, List.getElem_cons_succ, Act.put, List.setIfInBounds_toArray, List.set_cons_zero, List.set_cons_succ]
    refine wpAnyH_take (i := 12) (v := ?_) rfl (by kernel_rfl) (by kernel_rfl) (by kernel_rfl) (fun _ _ _ h => h) (Or.inl ⟨by rfl, ?_⟩) (by assumption) ?_
    rotate_left
    · (intro w hSw; (try dsimp only at hSw); go_simp); (try with_reducible rfl)
    simp only [List.getElem_toArray, List.getElem_cons_zero, List.getElem_cons_succ, Act.put, List.setIfInBounds_toArray, List.set_cons_zero, List.set_cons_succ]
    refine wpAnyH_take (i := 13) (v := ?_) rfl (by kernel_rfl) (by kernel_rfl) (by kernel_rfl) (fun _ _ _ h => h) (Or.inl ⟨by rfl, ?_⟩) (by assumption) ?_
    rotate_left
    · (intro w hSw; (try dsimp only at hSw); go_simp); (try with_reducible rfl)
    simp only [List.getElem_toArray, List.getElem_cons_zero, List.getElem_cons_succ, Act.put, List.setIfInBounds_toArray, List.set_cons_zero, List.set_cons_succ]
    refine wpAnyH_take (i := 14) (v := ?_) rfl (by kernel_rfl) (by kernel_rfl) (by kernel_rfl) (fun _ _ _ h => h) (Or.inl ⟨by rfl, ?_⟩) (by assumption) ?_
    rotate_left
    · (intro w hSw; (try dsimp only at hSw); go_simp); (try with_reducible rfl)
    simp only [List.getElem_toArray, List.getElem_cons_zero, List.getElem_cons_succ, Act.put, List.setIfInBounds_toArray, List.set_cons_zero, List.set_cons_succ]
    refine wpAnyH_take (i := 15) (v := ?_) rfl (by kernel_rfl) (by kernel_rfl) (by kernel_rfl) (fun _ _ _ h => h) (Or.inl ⟨by rfl, ?_⟩) (by assumption) ?_
    rotate_left
    · (intro w hSw; (try dsimp only at hSw); go_simp); (try with_reducible rfl)
    simp only [List.getElem_toArray, List.getElem_cons_zero, List.getElem_cons_succ, Act.put, List.setIfInBounds_toArray, List.set_cons_zero, List.set_cons_succ]
    refine wpAnyH_take (i := 18) (v := ?_) rfl (by kernel_rfl) (by kernel_rfl) (by kernel_rfl) (fun _ _ _ h => h) (Or.inl ⟨by rfl, ?_⟩) (by assumption) ?_
    rotate_left
    · (intro w hSw; (try dsimp only at hSw); go_simp); (try with_reducible rfl)
    simp only [List.getElem_toArray, List.getElem_cons_zero, List.getElem_cons_succ, Act.put, List.setIfInBounds_toArray, List.set_cons_zero, List.set_cons_succ]
    refine wpAnyH_ready (rs := [16]) (by kernel_rfl) (by simp) ?_
    refine AllReadyH.cons rfl (fun K hK => ?_) AllReadyH.nil
    go_simp
    refine (rflip_any _ _ a (na.ext F1)).mono ?_
    rintro _ u2 ⟨vu2, rfl, m2, eu2⟩
    have F2 : Ext w5 u2 := F1.trans eu2
    refine hK.out _ _ ⟨box3 (Ba.ext F2), box3 (Bb.ext F2)⟩ (fun hHeld => ?_)
    clear hK K
    refine wpAnyH_ready (rs := [17]) (by kernel_rfl) (by simp) ?_
    refine AllReadyH.cons rfl (fun K hK => ?_) AllReadyH.nil
    go_simp
    refine (HNm.out _ _ m2 (T.ext F2)).mono ?_
    rintro _ u3 ⟨q3, rfl, hq3, eu3⟩
    have F3 : Ext w5 u3 := F2.trans eu3
    clear m2
    refine hK.out _ _ ⟨box3 (Ba.ext F3), box3 (Bb.ext F3)⟩ (fun hHeld => ?_)
    clear hK K
    refine wpAnyH_ready (rs := [19]) (by kernel_rfl) (by simp) ?_
    refine AllReadyH.cons rfl (fun K hK => ?_) AllReadyH.nil
    go_simp
    refine (HNa.out _ _ (na.ext F3) (T.ext F3)).mono ?_
    rintro _ u4 ⟨q4, rfl, hq4, eu4⟩
    have F4 : Ext w5 u4 := F3.trans eu4
    obtain ⟨q5, hun, hk5, hn5⟩ := neg_case q4 hq4.lt hq4.num
    have hoe := order_key hq3.num hn5 (by rw [hk5]; exact hq4.opp hq3)
    refine hK.out _ _ ⟨box3 (Ba.ext F4), box3 (Bb.ext F4)⟩ (fun hHeld => ?_)
    clear hK K
    refine wpAnyH_take (i := 20) (v := ?_) rfl (by kernel_rfl) (by kernel_rfl) (by kernel_rfl) (fun _ _ _ h => h) (Or.inl ⟨by rfl, ?_⟩) (by assumption) ?_
    rotate_left
    · (intro w hSw; (try dsimp only at hSw); go_simp); (try with_reducible rfl)
    simp only [List.getElem_toArray, List.getElem_cons_zero, List.getElem_cons_succ, Act.put, List.setIfInBounds_toArray, List.set_cons_zero, List.set_cons_succ]
    refine wpAnyH_take (i := 21) (v := ?_) rfl (by kernel_rfl) (by kernel_rfl) (by kernel_rfl) (fun _ _ _ h => h) (Or.inl ⟨by rfl, ?_⟩) (by assumption) ?_
    rotate_left
    · (intro w hSw; (try dsimp only at hSw); go_simp); (try with_reducible rfl)
    simp only [List.getElem_toArray, List.getElem_cons_zero, List.getElem_cons_succ, Act.put, List.setIfInBounds_toArray, List.set_cons_zero, List.set_cons_succ]
    refine wpAnyH_take (i := 22) (v := ?_) rfl (by kernel_rfl) (by kernel_rfl) (by kernel_rfl) (fun _ _ _ h => h) (Or.inl ⟨by rfl, ?_⟩) (by assumption) ?_
    rotate_left
    · (intro w hSw; (try dsimp only at hSw); go_simp); (try with_reducible rfl)
    simp only [List.getElem_toArray, List.getElem_cons_zero, List.getElem_cons_succ, Act.put, List.setIfInBounds_toArray, List.set_cons_zero, List.set_cons_succ]
    refine wpAnyH_take (i := 23) (v := ?_) rfl (by kernel_rfl) (by kernel_rfl) (by kernel_rfl) (fun _ _ _ h => h) (Or.inl ⟨by rfl, ?_⟩) (by assumption) ?_
    rotate_left
    · (intro w hSw; (try dsimp only at hSw); go_simp); (try with_reducible rfl)
    simp only [List.getElem_toArray, List.getElem_cons_zero, List.getElem_cons_succ, Act.put, List.setIfInBounds_toArray, List.set_cons_zero, List.set_cons_succ]
    refine wpAnyH_done (by kernel_rfl) ?_ _
    go_wp2
    go_ret
    exact ⟨rfl, E5.trans F4⟩
  obtain ⟨hF1, rfl⟩ := HS1.out rfl
  obtain ⟨hF2, rfl⟩ := HS2.out rfl
  obtain ⟨ov1, ov2⟩ := ord_vals hF1 hF2
  have r1 : Rw (fval f) := fin_rw hF1
  have r2 : Rw (fval g) := fin_rw hF2
  obtain ⟨t, ht⟩ : ∃ t, cmpD (fval f) (fval g) = t := ⟨_, rfl⟩
  obtain ⟨eb, heb⟩ : ∃ eb, decide (fval f = fval g) = eb := ⟨_, rfl⟩
  have HC : Hid (∀ w' va vb, Dn w' va (fval f) → Dn w' vb (fval g) → Calls Tryd.prog 23 #[va, vb] w' (RetE w' (.int .i64 t))) := Lib.hid (fun w' va vb ha hb => ht ▸ rcmpD_any w' va vb _ _ 3000 3500 ha hb r1 r2 (by omega))
  have HE : Hid (∀ w' va vb, Dn w' va (fval f) → Dn w' vb (fval g) → Calls Tryd.prog 12 #[va, vb] w' (RetE w' (.bool eb))) := Lib.hid (fun w' va vb ha hb => heb ▸ rsameD_any w' va vb _ _ ha hb)
  rw [ht] at ov1
  rw [heb] at ov2
  obtain ⟨lb, hlb⟩ : ∃ lb, decide (t < 0) = lb := ⟨_, rfl⟩
  rw [hlb] at ov1
  have hl2 : (lb != lb) = false := by cases lb <;> rfl
  have he2 : (eb != eb) = false := by cases eb <;> rfl
  clear HS1 HS2 HO1 HO2 hF1 hF2 r1 r2 ht heb
  obtain ⟨Bm_0, Bm_1, Bm_2⟩ := id Bm
  have Bm_l := World.block_lt_of_cell? _ _ Bm_0
  go_wp2_with fail
  refine (HC.out _ _ _ (nm.ext ((Ext.refl w3).alloc _)) (nn.ext ((Ext.refl w3).alloc _))).mono ?_
  rintro _ w4 ⟨rfl, f4⟩
  clear Bm_0 Bm_1 Bm_2 Bm_l
  have Bn : Box w4 (w3.heap.size) (.bool bn) (.slice An ln cn) (.int .i64 jjn) := Box.at ((Ext.refl _).trans f4) (by simp)
  have e4 : Ext w3 w4 := ((Ext.refl w3).alloc _).trans f4
  replace T := T.ext e4
  replace na := na.ext e4
  replace nb := nb.ext e4
  replace nm := nm.ext e4
  replace nn := nn.ext e4
  replace Ba := Ba.ext e4
  replace Bb := Bb.ext e4
  replace Bm := Bm.ext e4
  have E4 : Ext w w4 := E3.trans e4
  clear f4 e4 E3
  obtain ⟨Bm_0, Bm_1, Bm_2⟩ := id Bm
  have Bm_l := World.block_lt_of_cell? _ _ Bm_0
  obtain ⟨Bn_0, Bn_1, Bn_2⟩ := id Bn
  have Bn_l := World.block_lt_of_cell? _ _ Bn_0
  go_wp2_with fail
  refine (HE.out _ _ _ nm nn).mono ?_
  rintro _ w5 ⟨rfl, f5⟩
  clear Bm_0 Bm_1 Bm_2 Bm_l Bn_0 Bn_1 Bn_2 Bn_l
  have e5 : Ext w4 w5 := (Ext.refl w4).trans f5
  replace T := T.ext e5
  replace na := na.ext e5
  replace nb := nb.ext e5
  replace nm := nm.ext e5
  replace nn := nn.ext e5
  replace Ba := Ba.ext e5
  replace Bb := Bb.ext e5
  replace Bm := Bm.ext e5
  replace Bn := Bn.ext e5
  have E5 : Ext w w5 := E4.trans e5
  clear f5 e5 E4
  clear HC HE
  obtain ⟨Ba_0, Ba_1, Ba_2⟩ := id Ba
  have Ba_l := World.block_lt_of_cell? _ _ Ba_0
  go_wp2_with fail
  refine (HGa.out _ E5).mono ?_
  rintro _ w6 ⟨rfl, f6⟩
  clear Ba_0 Ba_1 Ba_2 Ba_l
  have e6 : Ext w5 w6 := (Ext.refl w5).trans f6
  replace T := T.ext e6
  replace na := na.ext e6
  replace nb := nb.ext e6
  replace nm := nm.ext e6
  replace nn := nn.ext e6
  replace Ba := Ba.ext e6
  replace Bb := Bb.ext e6
  replace Bm := Bm.ext e6
  replace Bn := Bn.ext e6
  have E6 : Ext w w6 := E5.trans e6
  clear f6 e6 E5
  obtain ⟨Bb_0, Bb_1, Bb_2⟩ := id Bb
  have Bb_l := World.block_lt_of_cell? _ _ Bb_0
  go_wp2_with fail
  refine (HGb.out _ E6).mono ?_
  rintro _ w7 ⟨rfl, f7⟩
  clear Bb_0 Bb_1 Bb_2 Bb_l
  have e7 : Ext w6 w7 := (Ext.refl w6).trans f7
  replace T := T.ext e7
  replace na := na.ext e7
  replace nb := nb.ext e7
  replace nm := nm.ext e7
  replace nn := nn.ext e7
  replace Ba := Ba.ext e7
  replace Bb := Bb.ext e7
  replace Bm := Bm.ext e7
  replace Bn := Bn.ext e7
  have E7 : Ext w w7 := E6.trans e7
  clear f7 e7 E6
  go_wp2
  obtain ⟨Ba_0, Ba_1, Ba_2⟩ := id Ba
  have Ba_l := World.block_lt_of_cell? _ _ Ba_0
  obtain ⟨Bb_0, Bb_1, Bb_2⟩ := id Bb
  have Bb_l := World.block_lt_of_cell? _ _ Bb_0
  refine wp_region_held_drew (S := (fun w' => (w'.cell? ⟨w.heap.size, 0, none⟩ = some (.bool nba) ∧ w'.cell? ⟨w.heap.size, 1, none⟩ = some Ma ∧ w'.cell? ⟨w.heap.size, 2, none⟩ = some (.int .i64 ja)) ∧ (w'.cell? ⟨w.heap.size + 1, 0, none⟩ = some (.bool nbb) ∧ w'.cell? ⟨w.heap.size + 1, 1, none⟩ = some Mb ∧ w'.cell? ⟨w.heap.size + 1, 2, none⟩ = some (.int .i64 jb)))) (by kernel_rfl) ⟨box3 (Ba.ext (Ext.refl w7).drew), box3 (Bb.ext (Ext.refl w7).drew)⟩ (fun hHeld => ?_)
  refine wpAnyH_take (i := 0) (v := ?_) rfl (by kernel_rfl) (by kernel_rfl) (by kernel_rfl) (fun _ _ _ h => h) (Or.inl ⟨by rfl, ?_⟩) (by assumption) ?_
  rotate_left
  · (intro w hSw; (try dsimp only at hSw); go_simp); (try with_reducible rfl)
  simp only [List.getElem_toArray, List.getElem_cons_zero, Act.put, List.setIfInBounds_toArray, List.set_cons_zero, List.set_cons_succ]
  refine wpAnyH_take (i := 1) (v := ?_) rfl (by kernel_rfl) (by kernel_rfl) (by kernel_rfl) (fun _ _ _ h => h) (Or.inl ⟨by rfl, ?_⟩) (by assumption) ?_
  rotate_left
  · (intro w hSw; (try dsimp only at hSw); go_simp); (try with_reducible rfl)
  simp only [List.getElem_toArray, List.getElem_cons_zero, List.getElem_cons_succ, Act.put, List.setIfInBounds_toArray, List.set_cons_zero, List.set_cons_succ]
  refine wpAnyH_take (i := 2) (v := ?_) rfl (by kernel_rfl) (by kernel_rfl) (by kernel_rfl) (fun _ _ _ h => h) (Or.inl ⟨by rfl, ?_⟩) (by assumption) ?_
  rotate_left
  · (intro w hSw; (try dsimp only at hSw); go_simp); (try with_reducible rfl)
  simp only [List.getElem_toArray, List.getElem_cons_zero, List.getElem_cons_succ, Act.put, List.setIfInBounds_toArray, List.set_cons_zero, List.set_cons_succ]
  refine wpAnyH_take (i := 3) (v := ?_) rfl (by kernel_rfl) (by kernel_rfl) (by kernel_rfl) (fun _ _ _ h => h) (Or.inl ⟨by rfl, ?_⟩) (by assumption) ?_
  rotate_left
  · (intro w hSw; (try dsimp only at hSw); go_simp); (try with_reducible rfl)
  simp only [List.getElem_toArray, List.getElem_cons_zero, List.getElem_cons_succ, Act.put, List.setIfInBounds_toArray, List.set_cons_zero, List.set_cons_succ]
  refine wpAnyH_ready (rs := [4]) (by kernel_rfl) (by simp) ?_
  refine AllReadyH.cons rfl (fun K hK => ?_) AllReadyH.nil
  go_simp
  refine (HCab.out _ _ _ (na.ext (Ext.refl w7).drew) (nb.ext (Ext.refl w7).drew)).mono ?_
  rintro _ u1 ⟨rfl, eu1⟩
  have F1 : Ext w7 u1 := (Ext.refl w7).drew.trans eu1
  refine hK.out _ _ ⟨box3 (Ba.ext F1), box3 (Bb.ext F1)⟩ (fun hHeld => ?_)
  clear hK K
  refine wpAnyH_take (i := 5) (v := ?_) rfl (by kernel_rfl) (by kernel_rfl) (by kernel_rfl) (fun _ _ _ h => h) (Or.inl ⟨by rfl, ?_⟩) (by assumption) ?_
  rotate_left
  · (intro w hSw; (try dsimp only at hSw); go_simp); (try with_reducible rfl)
  simp only [List.getElem_toArray, List.getElem_cons_zero, List.getElem_cons_succ, Act.put, List.setIfInBounds_toArray, List.set_cons_zero, List.set_cons_succ]
  refine wpAnyH_take (i := 6) (v := ?_) rfl (by kernel_rfl) (by kernel_rfl) (by kernel_rfl) (fun _ _ _ h => h) (Or.inl ⟨by rfl, ?_⟩) (by assumption) ?_
  rotate_left
  · (intro w hSw; (try dsimp only at hSw); go_simp); (try with_reducible rfl)
  simp only [List.getElem_toArray, List.getElem_cons_zero, List.getElem_cons_succ, Act.put, List.setIfInBounds_toArray, List.set_cons_zero, List.set_cons_succ]
  refine wpAnyH_take (i := 7) (v := undef) rfl (by kernel_rfl) (by kernel_rfl) (by kernel_rfl) (fun _ _ _ h => h) (Or.inr ⟨by rfl, rfl⟩) (by assumption) ?_
  simp only [List.getElem_toArray, List.getElem_cons_zero, List.getElem_cons_succ, Act.put, List.setIfInBounds_toArray, List.set_cons_zero, List.set_cons_succ]
  refine wpAnyH_take (i := 8) (v := undef) rfl (by kernel_rfl) (by kernel_rfl) (by kernel_rfl) (fun _ _ _ h => h) (Or.inr ⟨by rfl, rfl⟩) (by assumption) ?_
  simp only [List.getElem_toArray, List.getElem_cons_zero, List.getElem_cons_succ, Act.put, List.setIfInBounds_toArray, List.set_cons_zero, List.set_cons_succ]
  refine wpAnyH_take (i := 9) (v := undef) rfl (by kernel_rfl) (by kernel_rfl) (by kernel_rfl) (fun _ _ _ h => h) (Or.inr ⟨by rfl, rfl⟩) (by assumption) ?_
  simp only [List.getElem_toArray, List.getElem_cons_zero, List.getElem_cons_succ, Act.put, List.setIfInBounds_toArray, List.set_cons_zero, List.set_cons_succ]
  refine wpAnyH_take (i := 10) (v := undef) rfl (by kernel_rfl) (by kernel_rfl) (by kernel_rfl) (fun _ _ _ h => h) (Or.inr ⟨by rfl, rfl⟩) (by assumption) ?_
  simp only [List.getElem_toArray, List.getElem_cons_zero, List.getElem_cons_succ, Act.put, List.setIfInBounds_toArray, List.set_cons_zero, List.set_cons_succ]
  refine wpAnyH_take (i := 11) (v := undef) rfl (by kernel_rfl) (by kernel_rfl) (by kernel_rfl) (fun _ _ _ h => h) (Or.inr ⟨by rfl, rfl⟩) (by assumption) ?_
  simp only [List.getElem_toArray, List.getElem_cons_zero, List.getElem_cons_succ, Act.put, List.setIfInBounds_toArray, List.set_cons_zero, List.set_cons_succ]
  refine wpAnyH_take (i := 12) (v := ?_) rfl (by kernel_rfl) (by kernel_rfl) (by kernel_rfl) (fun _ _ _ h => h) (Or.inl ⟨by rfl, ?_⟩) (by assumption) ?_
  rotate_left
  · (intro w hSw; (try dsimp only at hSw); go_simp); (try with_reducible rfl)
  simp only [List.getElem_toArray, List.getElem_cons_zero, List.getElem_cons_succ, Act.put, List.setIfInBounds_toArray, List.set_cons_zero, List.set_cons_succ]
  refine wpAnyH_take (i := 13) (v := ?_) rfl (by kernel_rfl) (by kernel_rfl) (by kernel_rfl) (fun _ _ _ h => h) (Or.inl ⟨by rfl, ?_⟩) (by assumption) ?_
  rotate_left
  · (intro w hSw; (try dsimp only at hSw); go_simp); (try with_reducible rfl)
  simp only [List.getElem_toArray, List.getElem_cons_zero, List.getElem_cons_succ, Act.put, List.setIfInBounds_toArray, List.set_cons_zero, List.set_cons_succ]
  refine wpAnyH_take (i := 14) (v := ?_) rfl (by kernel_rfl) (by kernel_rfl) (by kernel_rfl) (fun _ _ _ h => h) (Or.inl ⟨by rfl, ?_⟩) (by assumption) ?_
  rotate_left
  · (intro w hSw; (try dsimp only at hSw); go_simp); (try with_reducible rfl)
  simp only [List.getElem_toArray, List.getElem_cons_zero, List.getElem_cons_succ, Act.put, List.setIfInBounds_toArray, List.set_cons_zero, List.set_cons_succ]
  refine wpAnyH_take (i := 15) (v := ?_) rfl (by kernel_rfl) (by kernel_rfl) (by kernel_rfl) (fun _ _ _ h => h) (Or.inl ⟨by rfl, ?_⟩) (by assumption) ?_
  rotate_left
  · (intro w hSw; (try dsimp only at hSw); go_simp); (try with_reducible rfl)
  simp only [List.getElem_toArray, List.getElem_cons_zero, List.getElem_cons_succ, Act.put, List.setIfInBounds_toArray, List.set_cons_zero, List.set_cons_succ]
  refine wpAnyH_take (i := 18) (v := ?_) rfl (by kernel_rfl) (by kernel_rfl) (by kernel_rfl) (fun _ _ _ h => h) (Or.inl ⟨by rfl, ?_⟩) (by assumption) ?_
  rotate_left
  · (intro w hSw; (try dsimp only at hSw); go_simp); (try with_reducible rfl)
  simp only [List.getElem_toArray, List.getElem_cons_zero, List.getElem_cons_succ, Act.put, List.setIfInBounds_toArray, List.set_cons_zero, List.set_cons_succ]
  refine wpAnyH_ready (rs := [16]) (by kernel_rfl) (by simp) ?_
  refine AllReadyH.cons rfl (fun K hK => ?_) AllReadyH.nil
  go_simp
  refine (rflip_any _ _ a (na.ext F1)).mono ?_
  rintro _ u2 ⟨vu2, rfl, m2, eu2⟩
  have F2 : Ext w7 u2 := F1.trans eu2
  refine hK.out _ _ ⟨box3 (Ba.ext F2), box3 (Bb.ext F2)⟩ (fun hHeld => ?_)
  clear hK K
  refine wpAnyH_ready (rs := [17]) (by kernel_rfl) (by simp) ?_
  refine AllReadyH.cons rfl (fun K hK => ?_) AllReadyH.nil
  go_simp
  refine (HNm.out _ _ m2 (T.ext F2)).mono ?_
  rintro _ u3 ⟨q3, rfl, hq3, eu3⟩
  have F3 : Ext w7 u3 := F2.trans eu3
  clear m2
  refine hK.out _ _ ⟨box3 (Ba.ext F3), box3 (Bb.ext F3)⟩ (fun hHeld => ?_)
  clear hK K
  refine wpAnyH_ready (rs := [19]) (by kernel_rfl) (by simp) ?_
  refine AllReadyH.cons rfl (fun K hK => ?_) AllReadyH.nil
  go_simp
  refine (HNa.out _ _ (na.ext F3) (T.ext F3)).mono ?_
  rintro _ u4 ⟨q4, rfl, hq4, eu4⟩
  have F4 : Ext w7 u4 := F3.trans eu4
  obtain ⟨q5, hun, hk5, hn5⟩ := neg_case q4 hq4.lt hq4.num
  have hoe := order_key hq3.num hn5 (by rw [hk5]; exact hq4.opp hq3)
  refine hK.out _ _ ⟨box3 (Ba.ext F4), box3 (Bb.ext F4)⟩ (fun hHeld => ?_)
  clear hK K
  refine wpAnyH_take (i := 20) (v := ?_) rfl (by kernel_rfl) (by kernel_rfl) (by kernel_rfl) (fun _ _ _ h => h) (Or.inl ⟨by rfl, ?_⟩) (by assumption) ?_
  rotate_left
  · (intro w hSw; (try dsimp only at hSw); go_simp); (try with_reducible rfl)
  simp only [List.getElem_toArray, List.getElem_cons_zero, List.getElem_cons_succ, Act.put, List.setIfInBounds_toArray, List.set_cons_zero, List.set_cons_succ]
  refine wpAnyH_take (i := 21) (v := ?_) rfl (by kernel_rfl) (by kernel_rfl) (by kernel_rfl) (fun _ _ _ h => h) (Or.inl ⟨by rfl, ?_⟩) (by assumption) ?_
  rotate_left
  · (intro w hSw; (try dsimp only at hSw); go_simp); (try with_reducible rfl)
  simp only [List.getElem_toArray, List.getElem_cons_zero, List.getElem_cons_succ, Act.put, List.setIfInBounds_toArray, List.set_cons_zero, List.set_cons_succ]
  refine wpAnyH_take (i := 22) (v := ?_) rfl (by kernel_rfl) (by kernel_rfl) (by kernel_rfl) (fun _ _ _ h => h) (Or.inl ⟨by rfl, ?_⟩) (by assumption) ?_
  rotate_left
  · (intro w hSw; (try dsimp only at hSw); go_simp); (try with_reducible rfl)
  simp only [List.getElem_toArray, List.getElem_cons_zero, List.getElem_cons_succ, Act.put, List.setIfInBounds_toArray, List.set_cons_zero, List.set_cons_succ]
  refine wpAnyH_take (i := 23) (v := ?_) rfl (by kernel_rfl) (by kernel_rfl) (by kernel_rfl) (fun _ _ _ h => h) (Or.inl ⟨by rfl, ?_⟩) (by assumption) ?_
  rotate_left
  · (intro w hSw; (try dsimp only at hSw); go_simp); (try with_reducible rfl)
  simp only [List.getElem_toArray, List.getElem_cons_zero, List.getElem_cons_succ, Act.put, List.setIfInBounds_toArray, List.set_cons_zero, List.set_cons_succ]
  refine wpAnyH_done (by kernel_rfl) ?_ _
  go_wp2
  go_ret
  exact ⟨rfl, E7.trans F4⟩

set_option maxRecDepth 10000 in
set_option maxHeartbeats 2000000 in
theorem order_le (w : World) (T : Tg w) (nba : Bool) (Ma : Value) (xa : List Int) (ja : Int) (rowa : Row w Ma xa) (bda : -9223372036854775808 ≤ ja ∧ ja ≤ 9223372036854775807) (nbb : Bool) (Mb : Value) (xb : List Int) (jb : Int) (rowb : Row w Mb xb) (bdb : -9223372036854775808 ≤ jb ∧ jb ≤ 9223372036854775807) (f : Nat) (hf : f < 18446744073709551616) (g : Nat) (hg : g < 18446744073709551616) (hga : goodF nba xa ja = true) (hgb : goodF nbb xb jb = true) (a b : Dyadic) (na : Dn w (.agg #[.bool nba, Ma, .int .i64 ja]) a) (nb : Dn w (.agg #[.bool nbb, Mb, .int .i64 jb]) b) (ha1 : Nb a) (ha2 : Rw a) (hb1 : Nb b) (hb2 : Rw b) (u : Int) (hu : cmpD a b = u) (hu1 : u ≤ 0) (hle : a ≤ b) : Calls Tryd.prog 6 #[.agg #[.bool nba, Ma, .int .i64 ja], .agg #[.bool nbb, Mb, .int .i64 jb], .float .f64 f, .float .f64 g] w (RetE w (.bool true)) := by
  have hff0 : FloatKind.f64.format = Ieee.double := rfl
  have hff := ffrom_run
  have HGa : Hid (∀ w' : World, Ext w w' → Calls Tryd.prog 17 #[.agg #[.bool nba, Ma, .int .i64 ja]] w' (RetE w' (.bool true))) := Lib.hid (fun w' hE => hga ▸ goodF_any w' nba Ma xa ja (rowa.ext hE) bda)
  have HGb : Hid (∀ w' : World, Ext w w' → Calls Tryd.prog 17 #[.agg #[.bool nbb, Mb, .int .i64 jb]] w' (RetE w' (.bool true))) := Lib.hid (fun w' hE => hgb ▸ goodF_any w' nbb Mb xb jb (rowb.ext hE) bdb)
  obtain ⟨D1, s1, ho1, hs1, _, _⟩ := of_case f hf
  obtain ⟨D2, s2, ho2, hs2, _, _⟩ := of_case g hg
  have HO1 := Lib.hid ho1
  have HO2 := Lib.hid ho2
  have HS1 := Lib.hid hs1
  have HS2 := Lib.hid hs2
  have HCab : Hid (∀ w' va vb, Dn w' va a → Dn w' vb b → Calls Tryd.prog 23 #[va, vb] w' (RetE w' (.int .i64 u))) := Lib.hid (fun w' va vb ha hb => hu ▸ rcmpD_any w' va vb _ _ 3000 3500 ha hb ha2 hb2 (by omega))
  have HNa := Lib.hid (fun w' v (h : Dn w' v a) (T' : Tg w') => near_nb w' v a h ha1 T')
  have HNb := Lib.hid (fun w' v (h : Dn w' v b) (T' : Tg w') => near_nb w' v b h hb1 T')
  have HNm := Lib.hid (fun w' v (h : Dn w' v (-a)) (T' : Tg w') => near_nb w' v (-a) h ha1.neg T')
  have hdu : decide (0 < u) = false := decide_eq_false (by omega)
  have HLE := Lib.hid hle
  clear hle hu1
  clear hga hgb rowa bda rowb bdb hf hg ho1 ho2 hs1 hs2 ha1 ha2 hb1 hb2 hu
  go_enter Tryd.func6, Tryd.ntmps6
  go_wp2_with fail
  refine (headF_any _ (T.ext (((Ext.refl w).alloc _).alloc _))).mono ?_
  rintro _ w1 ⟨rfl, f1⟩
  have Ba : Box w1 (w.heap.size) (.bool nba) Ma (.int .i64 ja) := Box.at (((Ext.refl _).alloc _).trans f1) (by simp)
  have Bb : Box w1 (w.heap.size + 1) (.bool nbb) Mb (.int .i64 jb) := Box.at ((Ext.refl _).trans f1) (by simp)
  have e1 : Ext w w1 := (((Ext.refl w).alloc _).alloc _).trans f1
  replace T := T.ext e1
  have E1 : Ext w w1 := (Ext.refl w).trans e1
  clear f1 e1
  replace na := na.ext E1
  replace nb := nb.ext E1
  go_wp2_with fail
  refine (HO1.out _ T).mono ?_
  rintro _ w2 ⟨vm, rfl, nm, f2⟩
  have e2 : Ext w1 w2 := (Ext.refl w1).trans f2
  replace T := T.ext e2
  replace na := na.ext e2
  replace nb := nb.ext e2
  replace Ba := Ba.ext e2
  replace Bb := Bb.ext e2
  have E2 : Ext w w2 := E1.trans e2
  clear f2 e2 E1
  obtain ⟨bm, Am, lm, cm, jjm, rfl⟩ := nm.form
  go_wp2_with fail
  refine (HO2.out _ (T.ext ((Ext.refl w2).alloc _))).mono ?_
  rintro _ w3 ⟨vn, rfl, nn, f3⟩
  have Bm : Box w3 (w2.heap.size) (.bool bm) (.slice Am lm cm) (.int .i64 jjm) := Box.at ((Ext.refl _).trans f3) (by simp)
  have e3 : Ext w2 w3 := ((Ext.refl w2).alloc _).trans f3
  replace T := T.ext e3
  replace na := na.ext e3
  replace nb := nb.ext e3
  replace nm := nm.ext e3
  replace Ba := Ba.ext e3
  replace Bb := Bb.ext e3
  have E3 : Ext w w3 := E2.trans e3
  clear f3 e3 E2
  obtain ⟨bn, An, ln, cn, jjn, rfl⟩ := nn.form
  cases s1
  · clear HS1 HS2 HO1 HO2
    obtain ⟨Ba_0, Ba_1, Ba_2⟩ := id Ba
    have Ba_l := World.block_lt_of_cell? _ _ Ba_0
    go_wp2_with fail
    refine (HGa.out _ (E3.trans ((Ext.refl w3).alloc _))).mono ?_
    rintro _ w4 ⟨rfl, f4⟩
    clear Ba_0 Ba_1 Ba_2 Ba_l
    have Bn : Box w4 (w3.heap.size) (.bool bn) (.slice An ln cn) (.int .i64 jjn) := Box.at ((Ext.refl _).trans f4) (by simp)
    have e4 : Ext w3 w4 := ((Ext.refl w3).alloc _).trans f4
    replace T := T.ext e4
    replace na := na.ext e4
    replace nb := nb.ext e4
    replace nm := nm.ext e4
    replace nn := nn.ext e4
    replace Ba := Ba.ext e4
    replace Bb := Bb.ext e4
    replace Bm := Bm.ext e4
    have E4 : Ext w w4 := E3.trans e4
    clear f4 e4 E3
    obtain ⟨Bb_0, Bb_1, Bb_2⟩ := id Bb
    have Bb_l := World.block_lt_of_cell? _ _ Bb_0
    go_wp2_with fail
    refine (HGb.out _ E4).mono ?_
    rintro _ w5 ⟨rfl, f5⟩
    clear Bb_0 Bb_1 Bb_2 Bb_l
    have e5 : Ext w4 w5 := (Ext.refl w4).trans f5
    replace T := T.ext e5
    replace na := na.ext e5
    replace nb := nb.ext e5
    replace nm := nm.ext e5
    replace nn := nn.ext e5
    replace Ba := Ba.ext e5
    replace Bb := Bb.ext e5
    replace Bm := Bm.ext e5
    replace Bn := Bn.ext e5
    have E5 : Ext w w5 := E4.trans e5
    clear f5 e5 E4
    go_wp2
    obtain ⟨Ba_0, Ba_1, Ba_2⟩ := id Ba
    have Ba_l := World.block_lt_of_cell? _ _ Ba_0
    obtain ⟨Bb_0, Bb_1, Bb_2⟩ := id Bb
    have Bb_l := World.block_lt_of_cell? _ _ Bb_0
    go_region_held3 (fun w' => (w'.cell? ⟨w.heap.size, 0, none⟩ = some (.bool nba) ∧ w'.cell? ⟨w.heap.size, 1, none⟩ = some Ma ∧ w'.cell? ⟨w.heap.size, 2, none⟩ = some (.int .i64 ja)) ∧ (w'.cell? ⟨w.heap.size + 1, 0, none⟩ = some (.bool nbb) ∧ w'.cell? ⟨w.heap.size + 1, 1, none⟩ = some Mb ∧ w'.cell? ⟨w.heap.size + 1, 2, none⟩ = some (.int .i64 jb)))
      (first | (with_reducible exact ⟨box3 (Ba.ext F6), box3 (Bb.ext F6)⟩) | (with_reducible exact ⟨box3 (Ba.ext F5), box3 (Bb.ext F5)⟩) | (with_reducible exact ⟨box3 (Ba.ext F4), box3 (Bb.ext F4)⟩) | (with_reducible exact ⟨box3 (Ba.ext F3), box3 (Bb.ext F3)⟩) | (with_reducible exact ⟨box3 (Ba.ext F2), box3 (Bb.ext F2)⟩) | (with_reducible exact ⟨box3 (Ba.ext F1), box3 (Bb.ext F1)⟩) | go_keep)
      (first | ((have hF6 := F5); (go_at_call 18); (refine (HNa.out _ _ (na.ext F5) (T.ext F5)).mono ?_); (rintro _ u6 ⟨q4, rfl, hq4, eu6⟩); (have F6 : Ext w5 u6 := F5.trans eu6); (obtain ⟨q5, hun, hk5, hn5⟩ := neg_case q4 hq4.lt hq4.num); (have hoe := order_key hq3.num hn5 (by rw [hk5]; exact hq4.opp hq3))) | ((have hF5 := F4); (go_at_call 18); (refine (HNm.out _ _ m4 (T.ext F4)).mono ?_); (rintro _ u5 ⟨q3, rfl, hq3, eu5⟩); (have F5 : Ext w5 u5 := F4.trans eu5); (replace m4 := m4.ext eu5)) | ((have hF4 := F3); (go_at_call 22); (refine (rflip_any _ _ a (na.ext F3)).mono ?_); (rintro _ u4 ⟨vu4, rfl, m4, eu4⟩); (have F4 : Ext w5 u4 := F3.trans eu4)) | ((have hF3 := F2); (go_at_call 18); (refine (HNb.out _ _ (nb.ext F2) (T.ext F2)).mono ?_); (rintro _ u3 ⟨q2, rfl, hq2, eu3⟩); (have F3 : Ext w5 u3 := F2.trans eu3); (have hol := ord_le hq1.num hq2.num (hq1.mono hq2 HLE.out))) | ((have hF2 := F1); (go_at_call 18); (refine (HNa.out _ _ (na.ext F1) (T.ext F1)).mono ?_); (rintro _ u2 ⟨q1, rfl, hq1, eu2⟩); (have F2 : Ext w5 u2 := F1.trans eu2)) | ((go_at_call 23); (refine (HCab.out _ _ _ (na.ext (Ext.refl w5).drew) (nb.ext (Ext.refl w5).drew)).mono ?_); (rintro _ u1 ⟨rfl, eu1⟩); (have F1 : Ext w5 u1 := (Ext.refl w5).drew.trans eu1)))
    go_wp2
    go_ret
    exact ⟨rfl, E5.trans F6⟩
  cases s2
  · clear HS1 HS2 HO1 HO2
    obtain ⟨Ba_0, Ba_1, Ba_2⟩ := id Ba
    have Ba_l := World.block_lt_of_cell? _ _ Ba_0
    go_wp2_with fail
    refine (HGa.out _ (E3.trans ((Ext.refl w3).alloc _))).mono ?_
    rintro _ w4 ⟨rfl, f4⟩
    clear Ba_0 Ba_1 Ba_2 Ba_l
    have Bn : Box w4 (w3.heap.size) (.bool bn) (.slice An ln cn) (.int .i64 jjn) := Box.at ((Ext.refl _).trans f4) (by simp)
    have e4 : Ext w3 w4 := ((Ext.refl w3).alloc _).trans f4
    replace T := T.ext e4
    replace na := na.ext e4
    replace nb := nb.ext e4
    replace nm := nm.ext e4
    replace nn := nn.ext e4
    replace Ba := Ba.ext e4
    replace Bb := Bb.ext e4
    replace Bm := Bm.ext e4
    have E4 : Ext w w4 := E3.trans e4
    clear f4 e4 E3
    obtain ⟨Bb_0, Bb_1, Bb_2⟩ := id Bb
    have Bb_l := World.block_lt_of_cell? _ _ Bb_0
    go_wp2_with fail
    refine (HGb.out _ E4).mono ?_
    rintro _ w5 ⟨rfl, f5⟩
    clear Bb_0 Bb_1 Bb_2 Bb_l
    have e5 : Ext w4 w5 := (Ext.refl w4).trans f5
    replace T := T.ext e5
    replace na := na.ext e5
    replace nb := nb.ext e5
    replace nm := nm.ext e5
    replace nn := nn.ext e5
    replace Ba := Ba.ext e5
    replace Bb := Bb.ext e5
    replace Bm := Bm.ext e5
    replace Bn := Bn.ext e5
    have E5 : Ext w w5 := E4.trans e5
    clear f5 e5 E4
    go_wp2
    obtain ⟨Ba_0, Ba_1, Ba_2⟩ := id Ba
    have Ba_l := World.block_lt_of_cell? _ _ Ba_0
    obtain ⟨Bb_0, Bb_1, Bb_2⟩ := id Bb
    have Bb_l := World.block_lt_of_cell? _ _ Bb_0
    go_region_held3 (fun w' => (w'.cell? ⟨w.heap.size, 0, none⟩ = some (.bool nba) ∧ w'.cell? ⟨w.heap.size, 1, none⟩ = some Ma ∧ w'.cell? ⟨w.heap.size, 2, none⟩ = some (.int .i64 ja)) ∧ (w'.cell? ⟨w.heap.size + 1, 0, none⟩ = some (.bool nbb) ∧ w'.cell? ⟨w.heap.size + 1, 1, none⟩ = some Mb ∧ w'.cell? ⟨w.heap.size + 1, 2, none⟩ = some (.int .i64 jb)))
      (first | (with_reducible exact ⟨box3 (Ba.ext F6), box3 (Bb.ext F6)⟩) | (with_reducible exact ⟨box3 (Ba.ext F5), box3 (Bb.ext F5)⟩) | (with_reducible exact ⟨box3 (Ba.ext F4), box3 (Bb.ext F4)⟩) | (with_reducible exact ⟨box3 (Ba.ext F3), box3 (Bb.ext F3)⟩) | (with_reducible exact ⟨box3 (Ba.ext F2), box3 (Bb.ext F2)⟩) | (with_reducible exact ⟨box3 (Ba.ext F1), box3 (Bb.ext F1)⟩) | go_keep)
      (first | ((have hF6 := F5); (go_at_call 18); (refine (HNa.out _ _ (na.ext F5) (T.ext F5)).mono ?_); (rintro _ u6 ⟨q4, rfl, hq4, eu6⟩); (have F6 : Ext w5 u6 := F5.trans eu6); (obtain ⟨q5, hun, hk5, hn5⟩ := neg_case q4 hq4.lt hq4.num); (have hoe := order_key hq3.num hn5 (by rw [hk5]; exact hq4.opp hq3))) | ((have hF5 := F4); (go_at_call 18); (refine (HNm.out _ _ m4 (T.ext F4)).mono ?_); (rintro _ u5 ⟨q3, rfl, hq3, eu5⟩); (have F5 : Ext w5 u5 := F4.trans eu5); (replace m4 := m4.ext eu5)) | ((have hF4 := F3); (go_at_call 22); (refine (rflip_any _ _ a (na.ext F3)).mono ?_); (rintro _ u4 ⟨vu4, rfl, m4, eu4⟩); (have F4 : Ext w5 u4 := F3.trans eu4)) | ((have hF3 := F2); (go_at_call 18); (refine (HNb.out _ _ (nb.ext F2) (T.ext F2)).mono ?_); (rintro _ u3 ⟨q2, rfl, hq2, eu3⟩); (have F3 : Ext w5 u3 := F2.trans eu3); (have hol := ord_le hq1.num hq2.num (hq1.mono hq2 HLE.out))) | ((have hF2 := F1); (go_at_call 18); (refine (HNa.out _ _ (na.ext F1) (T.ext F1)).mono ?_); (rintro _ u2 ⟨q1, rfl, hq1, eu2⟩); (have F2 : Ext w5 u2 := F1.trans eu2)) | ((go_at_call 23); (refine (HCab.out _ _ _ (na.ext (Ext.refl w5).drew) (nb.ext (Ext.refl w5).drew)).mono ?_); (rintro _ u1 ⟨rfl, eu1⟩); (have F1 : Ext w5 u1 := (Ext.refl w5).drew.trans eu1)))
    go_wp2
    go_ret
    exact ⟨rfl, E5.trans F6⟩
  obtain ⟨hF1, rfl⟩ := HS1.out rfl
  obtain ⟨hF2, rfl⟩ := HS2.out rfl
  obtain ⟨ov1, ov2⟩ := ord_vals hF1 hF2
  have r1 : Rw (fval f) := fin_rw hF1
  have r2 : Rw (fval g) := fin_rw hF2
  obtain ⟨t, ht⟩ : ∃ t, cmpD (fval f) (fval g) = t := ⟨_, rfl⟩
  obtain ⟨eb, heb⟩ : ∃ eb, decide (fval f = fval g) = eb := ⟨_, rfl⟩
  have HC : Hid (∀ w' va vb, Dn w' va (fval f) → Dn w' vb (fval g) → Calls Tryd.prog 23 #[va, vb] w' (RetE w' (.int .i64 t))) := Lib.hid (fun w' va vb ha hb => ht ▸ rcmpD_any w' va vb _ _ 3000 3500 ha hb r1 r2 (by omega))
  have HE : Hid (∀ w' va vb, Dn w' va (fval f) → Dn w' vb (fval g) → Calls Tryd.prog 12 #[va, vb] w' (RetE w' (.bool eb))) := Lib.hid (fun w' va vb ha hb => heb ▸ rsameD_any w' va vb _ _ ha hb)
  rw [ht] at ov1
  rw [heb] at ov2
  obtain ⟨lb, hlb⟩ : ∃ lb, decide (t < 0) = lb := ⟨_, rfl⟩
  rw [hlb] at ov1
  have hl2 : (lb != lb) = false := by cases lb <;> rfl
  have he2 : (eb != eb) = false := by cases eb <;> rfl
  clear HS1 HS2 HO1 HO2 hF1 hF2 r1 r2 ht heb
  obtain ⟨Bm_0, Bm_1, Bm_2⟩ := id Bm
  have Bm_l := World.block_lt_of_cell? _ _ Bm_0
  go_wp2_with fail
  refine (HC.out _ _ _ (nm.ext ((Ext.refl w3).alloc _)) (nn.ext ((Ext.refl w3).alloc _))).mono ?_
  rintro _ w4 ⟨rfl, f4⟩
  clear Bm_0 Bm_1 Bm_2 Bm_l
  have Bn : Box w4 (w3.heap.size) (.bool bn) (.slice An ln cn) (.int .i64 jjn) := Box.at ((Ext.refl _).trans f4) (by simp)
  have e4 : Ext w3 w4 := ((Ext.refl w3).alloc _).trans f4
  replace T := T.ext e4
  replace na := na.ext e4
  replace nb := nb.ext e4
  replace nm := nm.ext e4
  replace nn := nn.ext e4
  replace Ba := Ba.ext e4
  replace Bb := Bb.ext e4
  replace Bm := Bm.ext e4
  have E4 : Ext w w4 := E3.trans e4
  clear f4 e4 E3
  obtain ⟨Bm_0, Bm_1, Bm_2⟩ := id Bm
  have Bm_l := World.block_lt_of_cell? _ _ Bm_0
  obtain ⟨Bn_0, Bn_1, Bn_2⟩ := id Bn
  have Bn_l := World.block_lt_of_cell? _ _ Bn_0
  go_wp2_with fail
  refine (HE.out _ _ _ nm nn).mono ?_
  rintro _ w5 ⟨rfl, f5⟩
  clear Bm_0 Bm_1 Bm_2 Bm_l Bn_0 Bn_1 Bn_2 Bn_l
  have e5 : Ext w4 w5 := (Ext.refl w4).trans f5
  replace T := T.ext e5
  replace na := na.ext e5
  replace nb := nb.ext e5
  replace nm := nm.ext e5
  replace nn := nn.ext e5
  replace Ba := Ba.ext e5
  replace Bb := Bb.ext e5
  replace Bm := Bm.ext e5
  replace Bn := Bn.ext e5
  have E5 : Ext w w5 := E4.trans e5
  clear f5 e5 E4
  clear HC HE
  obtain ⟨Ba_0, Ba_1, Ba_2⟩ := id Ba
  have Ba_l := World.block_lt_of_cell? _ _ Ba_0
  go_wp2_with fail
  refine (HGa.out _ E5).mono ?_
  rintro _ w6 ⟨rfl, f6⟩
  clear Ba_0 Ba_1 Ba_2 Ba_l
  have e6 : Ext w5 w6 := (Ext.refl w5).trans f6
  replace T := T.ext e6
  replace na := na.ext e6
  replace nb := nb.ext e6
  replace nm := nm.ext e6
  replace nn := nn.ext e6
  replace Ba := Ba.ext e6
  replace Bb := Bb.ext e6
  replace Bm := Bm.ext e6
  replace Bn := Bn.ext e6
  have E6 : Ext w w6 := E5.trans e6
  clear f6 e6 E5
  obtain ⟨Bb_0, Bb_1, Bb_2⟩ := id Bb
  have Bb_l := World.block_lt_of_cell? _ _ Bb_0
  go_wp2_with fail
  refine (HGb.out _ E6).mono ?_
  rintro _ w7 ⟨rfl, f7⟩
  clear Bb_0 Bb_1 Bb_2 Bb_l
  have e7 : Ext w6 w7 := (Ext.refl w6).trans f7
  replace T := T.ext e7
  replace na := na.ext e7
  replace nb := nb.ext e7
  replace nm := nm.ext e7
  replace nn := nn.ext e7
  replace Ba := Ba.ext e7
  replace Bb := Bb.ext e7
  replace Bm := Bm.ext e7
  replace Bn := Bn.ext e7
  have E7 : Ext w w7 := E6.trans e7
  clear f7 e7 E6
  go_wp2
  obtain ⟨Ba_0, Ba_1, Ba_2⟩ := id Ba
  have Ba_l := World.block_lt_of_cell? _ _ Ba_0
  obtain ⟨Bb_0, Bb_1, Bb_2⟩ := id Bb
  have Bb_l := World.block_lt_of_cell? _ _ Bb_0
  go_region_held3 (fun w' => (w'.cell? ⟨w.heap.size, 0, none⟩ = some (.bool nba) ∧ w'.cell? ⟨w.heap.size, 1, none⟩ = some Ma ∧ w'.cell? ⟨w.heap.size, 2, none⟩ = some (.int .i64 ja)) ∧ (w'.cell? ⟨w.heap.size + 1, 0, none⟩ = some (.bool nbb) ∧ w'.cell? ⟨w.heap.size + 1, 1, none⟩ = some Mb ∧ w'.cell? ⟨w.heap.size + 1, 2, none⟩ = some (.int .i64 jb)))
    (first | (with_reducible exact ⟨box3 (Ba.ext F6), box3 (Bb.ext F6)⟩) | (with_reducible exact ⟨box3 (Ba.ext F5), box3 (Bb.ext F5)⟩) | (with_reducible exact ⟨box3 (Ba.ext F4), box3 (Bb.ext F4)⟩) | (with_reducible exact ⟨box3 (Ba.ext F3), box3 (Bb.ext F3)⟩) | (with_reducible exact ⟨box3 (Ba.ext F2), box3 (Bb.ext F2)⟩) | (with_reducible exact ⟨box3 (Ba.ext F1), box3 (Bb.ext F1)⟩) | go_keep)
    (first | ((have hF6 := F5); (go_at_call 18); (refine (HNa.out _ _ (na.ext F5) (T.ext F5)).mono ?_); (rintro _ u6 ⟨q4, rfl, hq4, eu6⟩); (have F6 : Ext w7 u6 := F5.trans eu6); (obtain ⟨q5, hun, hk5, hn5⟩ := neg_case q4 hq4.lt hq4.num); (have hoe := order_key hq3.num hn5 (by rw [hk5]; exact hq4.opp hq3))) | ((have hF5 := F4); (go_at_call 18); (refine (HNm.out _ _ m4 (T.ext F4)).mono ?_); (rintro _ u5 ⟨q3, rfl, hq3, eu5⟩); (have F5 : Ext w7 u5 := F4.trans eu5); (replace m4 := m4.ext eu5)) | ((have hF4 := F3); (go_at_call 22); (refine (rflip_any _ _ a (na.ext F3)).mono ?_); (rintro _ u4 ⟨vu4, rfl, m4, eu4⟩); (have F4 : Ext w7 u4 := F3.trans eu4)) | ((have hF3 := F2); (go_at_call 18); (refine (HNb.out _ _ (nb.ext F2) (T.ext F2)).mono ?_); (rintro _ u3 ⟨q2, rfl, hq2, eu3⟩); (have F3 : Ext w7 u3 := F2.trans eu3); (have hol := ord_le hq1.num hq2.num (hq1.mono hq2 HLE.out))) | ((have hF2 := F1); (go_at_call 18); (refine (HNa.out _ _ (na.ext F1) (T.ext F1)).mono ?_); (rintro _ u2 ⟨q1, rfl, hq1, eu2⟩); (have F2 : Ext w7 u2 := F1.trans eu2)) | ((go_at_call 23); (refine (HCab.out _ _ _ (na.ext (Ext.refl w7).drew) (nb.ext (Ext.refl w7).drew)).mono ?_); (rintro _ u1 ⟨rfl, eu1⟩); (have F1 : Ext w7 u1 := (Ext.refl w7).drew.trans eu1)))
  go_wp2
  go_ret
  exact ⟨rfl, E7.trans F6⟩

theorem walk_FloOrder (w : World) (T : Tg w) (nba : Bool) (Ma : Value) (xa : List Int) (ja : Int) (rowa : Row w Ma xa) (bda : -9223372036854775808 ≤ ja ∧ ja ≤ 9223372036854775807) (nbb : Bool) (Mb : Value) (xb : List Int) (jb : Int) (rowb : Row w Mb xb) (bdb : -9223372036854775808 ≤ jb ∧ jb ≤ 9223372036854775807) (f : Nat) (hf : f < 18446744073709551616) (g : Nat) (hg : g < 18446744073709551616) : Calls Tryd.prog 6 #[.agg #[.bool nba, Ma, .int .i64 ja], .agg #[.bool nbb, Mb, .int .i64 jb], .float .f64 f, .float .f64 g] w (RetE w (.bool true)) := by
  cases hga : goodF nba xa ja
  · exact order_ba w T nba Ma xa ja rowa bda nbb Mb xb jb rowb bdb f hf g hg hga
  · cases hgb : goodF nbb xb jb
    · exact order_bb w T nba Ma xa ja rowa bda nbb Mb xb jb rowb bdb f hf g hg hga hgb
    · obtain ⟨a, na, ha1, ha2⟩ := goodF_dn rowa hga
      obtain ⟨b, nb, hb1, hb2⟩ := goodF_dn rowb hgb
      by_cases hle : a ≤ b
      · exact order_le w T nba Ma xa ja rowa bda nbb Mb xb jb rowb bdb f hf g hg hga hgb a b na nb ha1 ha2 hb1 hb2 _ rfl (cmpD_le hle) hle
      · exact order_gt w T nba Ma xa ja rowa bda nbb Mb xb jb rowb bdb f hf g hg hga hgb a b na nb ha1 ha2 hb1 hb2 _ rfl (by unfold cmpD; rw [if_neg (by grind), if_neg (by grind)])

end Go.Proofs.YtdfkhaajeojeeaaDoor
