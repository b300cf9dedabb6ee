/- The walk of law FloTells. -/
import Derived.Test.YtdfkhaajeojeeaaDoorJ3
import Derived.Test.YtdfkhaajeojeeaaDoorWFloBack
namespace Go.Proofs.YtdfkhaajeojeeaaDoor
open Go.RowKit
set_option linter.unusedVariables false

theorem near_same {d : Dyadic} {a b : Nat} (w : World) (ha : Rn d a) (hb : Rn d b) : Calls Tryd.prog 14 #[.float .f64 a, .float .f64 b] w (RetE w (.bool true)) :=
  (rsameF_any w a b).mono fun _ _ ⟨he, hw⟩ => ⟨by rw [he, sameF_key ha.num hb.num (ha.key_eq hb)], by rw [← hw]; exact Ext.refl _⟩

set_option maxRecDepth 10000 in
set_option maxHeartbeats 2000000 in
theorem tells_bad (w : World) (T : Tg w) (f : Nat) (hf : f < 18446744073709551616) (g : Nat) (hg : g < 18446744073709551616) (nbd : Bool) (Md : Value) (xd : List Int) (jd : Int) (rowd : Row w Md xd) (bdd : -9223372036854775808 ≤ jd ∧ jd ≤ 9223372036854775807) (hgd : goodF nbd xd jd = false) : Calls Tryd.prog 3 #[.float .f64 f, .float .f64 g, .agg #[.bool nbd, Md, .int .i64 jd]] w (RetE w (.bool true)) := by
  have hf0 := hf
  have hg0 := hg
  clear hf hg
  have hf : FloatKind.f64.format = Ieee.double := rfl
  have hff := ffrom_run
  have HGd : Hid (∀ w' : World, Ext w w' → Calls Tryd.prog 17 #[.agg #[.bool nbd, Md, .int .i64 jd]] w' (RetE w' (.bool false))) := Lib.hid (fun w' hE => hgd ▸ goodF_any w' nbd Md xd jd (rowd.ext hE) bdd)
  obtain ⟨D, sF, ho1, _, _, ho2⟩ := of_case f hf0
  have HO1 := Lib.hid ho1
  have HO2 := Lib.hid ho2
  obtain ⟨c, c', hn1, hn2, hcc⟩ := next_case f hf0
  have HN1 := Lib.hid hn1
  have HN2 := Lib.hid hn2
  have HCC : Hid (∀ w' : World, Calls Tryd.prog 14 #[.float .f64 c, .float .f64 c'] w' fun e w'' => e = .returned (.bool true) ∧ w' = w'') := Lib.hid (fun w' => hcc ▸ rsameF_any w' c c')
  obtain ⟨sb, hsb⟩ : ∃ sb, sameF f g = sb := ⟨_, rfl⟩
  have HS1 : Hid (∀ w' : World, Tg w' → Calls Tryd.prog 13 #[.float .f64 f, .float .f64 g] w' (RetE w' (.bool sb))) := Lib.hid (fun w' T' => hsb ▸ sameP_any w' f g hf0 hg0 T')
  have HS2 : Hid (∀ w' : World, Calls Tryd.prog 14 #[.float .f64 f, .float .f64 g] w' fun e w'' => e = .returned (.bool sb) ∧ w' = w'') := Lib.hid (fun w' => hsb ▸ rsameF_any w' f g)
  have hs1 : (sF != sF) = false := by cases sF <;> rfl
  have hs2 : (sb != sb) = false := by cases sb <;> rfl
  clear hgd rowd bdd ho1 ho2 hn1 hn2 hcc hsb hf0 hg0
  go_enter Tryd.func3, Tryd.ntmps3
  go_wp2_with fail
  refine (headF_any _ (T.ext ((Ext.refl w).alloc _))).mono ?_
  rintro _ w1 ⟨rfl, f1⟩
  have Bd : Box w1 (w.heap.size) (.bool nbd) Md (.int .i64 jd) := Box.at ((Ext.refl _).trans f1) (by simp)
  have e1 : Ext w w1 := ((Ext.refl w).alloc _).trans f1
  replace T := T.ext e1
  have E1 : Ext w w1 := (Ext.refl w).trans e1
  clear f1 e1
  go_wp2_with fail
  refine (HO1.out _ T).mono ?_
  rintro _ w2 ⟨va, rfl, na, f2⟩
  have e2 : Ext w1 w2 := (Ext.refl w1).trans f2
  replace T := T.ext e2
  replace Bd := Bd.ext e2
  have E2 : Ext w w2 := E1.trans e2
  clear f2 e2 E1
  obtain ⟨ba, Aa, la, ca, jja, rfl⟩ := na.form
  go_wp2_with fail
  refine (HO2.out _).mono ?_
  rintro _ w3 ⟨vb, rfl, nb, f3⟩
  have Ba : Box w3 (w2.heap.size) (.bool ba) (.slice Aa la ca) (.int .i64 jja) := Box.at ((Ext.refl _).trans f3) (by simp)
  have e3 : Ext w2 w3 := ((Ext.refl w2).alloc _).trans f3
  replace T := T.ext e3
  replace na := na.ext e3
  replace Bd := Bd.ext e3
  have E3 : Ext w w3 := E2.trans e3
  clear f3 e3 E2
  obtain ⟨bb, Ab, lb, cb, jjb, rfl⟩ := nb.form
  obtain ⟨Ba_0, Ba_1, Ba_2⟩ := id Ba
  have Ba_l := World.block_lt_of_cell? _ _ Ba_0
  go_wp2_with fail
  refine (same_lit _ _ _ D D rfl (na.ext ((Ext.refl w3).alloc _)) (nb.ext ((Ext.refl w3).alloc _))).mono ?_
  rintro _ w4 ⟨rfl, f4⟩
  clear Ba_0 Ba_1 Ba_2 Ba_l
  have Bb : Box w4 (w3.heap.size) (.bool bb) (.slice Ab lb cb) (.int .i64 jjb) := Box.at ((Ext.refl _).trans f4) (by simp)
  have e4 : Ext w3 w4 := ((Ext.refl w3).alloc _).trans f4
  replace T := T.ext e4
  replace na := na.ext e4
  replace nb := nb.ext e4
  replace Bd := Bd.ext e4
  replace Ba := Ba.ext e4
  have E4 : Ext w w4 := E3.trans e4
  clear f4 e4 E3
  go_wp2_with fail
  refine (HS1.out _ T).mono ?_
  rintro _ w5 ⟨rfl, f5⟩
  have e5 : Ext w4 w5 := (Ext.refl w4).trans f5
  replace T := T.ext e5
  replace na := na.ext e5
  replace nb := nb.ext e5
  replace Bd := Bd.ext e5
  replace Ba := Ba.ext e5
  replace Bb := Bb.ext e5
  have E5 : Ext w w5 := E4.trans e5
  clear f5 e5 E4
  go_wp2_with fail
  refine (HS2.out _).mono ?_
  rintro _ _ ⟨rfl, rfl⟩
  go_wp2_with fail
  refine (HN1.out _ T).mono ?_
  rintro _ w6 ⟨rfl, f6⟩
  have e6 : Ext w5 w6 := (Ext.refl w5).trans f6
  replace T := T.ext e6
  replace na := na.ext e6
  replace nb := nb.ext e6
  replace Bd := Bd.ext e6
  replace Ba := Ba.ext e6
  replace Bb := Bb.ext e6
  have E6 : Ext w w6 := E5.trans e6
  clear f6 e6 E5
  go_wp2_with fail
  refine (HN2.out _).mono ?_
  rintro _ _ ⟨rfl, rfl⟩
  go_wp2_with fail
  refine (HCC.out _).mono ?_
  rintro _ _ ⟨rfl, rfl⟩
  go_wp2
  obtain ⟨Bd_0, Bd_1, Bd_2⟩ := id Bd
  have Bd_l := World.block_lt_of_cell? _ _ Bd_0
  go_region_with (first | ((go_at_call 17); (refine (HGd.out _ (E6.trans (Ext.refl w6).drew)).mono ?_); (rintro _ u1 ⟨rfl, eu1⟩); (have F1 : Ext w6 u1 := (Ext.refl w6).drew.trans eu1)))
  all_goals (
    go_wp2
    go_ret
    exact ⟨rfl, E6.trans F1⟩)

set_option maxRecDepth 10000 in
set_option maxHeartbeats 2000000 in
theorem tells_good (w : World) (T : Tg w) (f : Nat) (hf : f < 18446744073709551616) (g : Nat) (hg : g < 18446744073709551616) (nbd : Bool) (Md : Value) (xd : List Int) (jd : Int) (rowd : Row w Md xd) (bdd : -9223372036854775808 ≤ jd ∧ jd ≤ 9223372036854775807) (hgd : goodF nbd xd jd = true) : Calls Tryd.prog 3 #[.float .f64 f, .float .f64 g, .agg #[.bool nbd, Md, .int .i64 jd]] w (RetE w (.bool true)) := by
  have hf0 := hf
  have hg0 := hg
  clear hf hg
  have hf : FloatKind.f64.format = Ieee.double := rfl
  have hff := ffrom_run
  have HGd : Hid (∀ w' : World, Ext w w' → Calls Tryd.prog 17 #[.agg #[.bool nbd, Md, .int .i64 jd]] w' (RetE w' (.bool true))) := Lib.hid (fun w' hE => hgd ▸ goodF_any w' nbd Md xd jd (rowd.ext hE) bdd)
  obtain ⟨D, sF, ho1, _, _, ho2⟩ := of_case f hf0
  have HO1 := Lib.hid ho1
  have HO2 := Lib.hid ho2
  obtain ⟨c, c', hn1, hn2, hcc⟩ := next_case f hf0
  have HN1 := Lib.hid hn1
  have HN2 := Lib.hid hn2
  have HCC : Hid (∀ w' : World, Calls Tryd.prog 14 #[.float .f64 c, .float .f64 c'] w' fun e w'' => e = .returned (.bool true) ∧ w' = w'') := Lib.hid (fun w' => hcc ▸ rsameF_any w' c c')
  obtain ⟨sb, hsb⟩ : ∃ sb, sameF f g = sb := ⟨_, rfl⟩
  have HS1 : Hid (∀ w' : World, Tg w' → Calls Tryd.prog 13 #[.float .f64 f, .float .f64 g] w' (RetE w' (.bool sb))) := Lib.hid (fun w' T' => hsb ▸ sameP_any w' f g hf0 hg0 T')
  have HS2 : Hid (∀ w' : World, Calls Tryd.prog 14 #[.float .f64 f, .float .f64 g] w' fun e w'' => e = .returned (.bool sb) ∧ w' = w'') := Lib.hid (fun w' => hsb ▸ rsameF_any w' f g)
  have hs1 : (sF != sF) = false := by cases sF <;> rfl
  have hs2 : (sb != sb) = false := by cases sb <;> rfl
  obtain ⟨d, nd, hnb, hrw⟩ := goodF_dn rowd hgd
  have HNE := Lib.hid (fun w' v (h : Dn w' v d) (T' : Tg w') => near_nb w' v d h hnb T')
  have HRN := Lib.hid (fun w' v (h : Dn w' v d) => rnear_nb w' v d h hnb)
  clear hnb hrw
  clear hgd rowd bdd ho1 ho2 hn1 hn2 hcc hsb hf0 hg0
  go_enter Tryd.func3, Tryd.ntmps3
  go_wp2_with fail
  refine (headF_any _ (T.ext ((Ext.refl w).alloc _))).mono ?_
  rintro _ w1 ⟨rfl, f1⟩
  have Bd : Box w1 (w.heap.size) (.bool nbd) Md (.int .i64 jd) := Box.at ((Ext.refl _).trans f1) (by simp)
  have e1 : Ext w w1 := ((Ext.refl w).alloc _).trans f1
  replace T := T.ext e1
  have E1 : Ext w w1 := (Ext.refl w).trans e1
  clear f1 e1
  replace nd := nd.ext E1
  go_wp2_with fail
  refine (HO1.out _ T).mono ?_
  rintro _ w2 ⟨va, rfl, na, f2⟩
  have e2 : Ext w1 w2 := (Ext.refl w1).trans f2
  replace T := T.ext e2
  replace nd := nd.ext e2
  replace Bd := Bd.ext e2
  have E2 : Ext w w2 := E1.trans e2
  clear f2 e2 E1
  obtain ⟨ba, Aa, la, ca, jja, rfl⟩ := na.form
  go_wp2_with fail
  refine (HO2.out _).mono ?_
  rintro _ w3 ⟨vb, rfl, nb, f3⟩
  have Ba : Box w3 (w2.heap.size) (.bool ba) (.slice Aa la ca) (.int .i64 jja) := Box.at ((Ext.refl _).trans f3) (by simp)
  have e3 : Ext w2 w3 := ((Ext.refl w2).alloc _).trans f3
  replace T := T.ext e3
  replace nd := nd.ext e3
  replace na := na.ext e3
  replace Bd := Bd.ext e3
  have E3 : Ext w w3 := E2.trans e3
  clear f3 e3 E2
  obtain ⟨bb, Ab, lb, cb, jjb, rfl⟩ := nb.form
  obtain ⟨Ba_0, Ba_1, Ba_2⟩ := id Ba
  have Ba_l := World.block_lt_of_cell? _ _ Ba_0
  go_wp2_with fail
  refine (same_lit _ _ _ D D rfl (na.ext ((Ext.refl w3).alloc _)) (nb.ext ((Ext.refl w3).alloc _))).mono ?_
  rintro _ w4 ⟨rfl, f4⟩
  clear Ba_0 Ba_1 Ba_2 Ba_l
  have Bb : Box w4 (w3.heap.size) (.bool bb) (.slice Ab lb cb) (.int .i64 jjb) := Box.at ((Ext.refl _).trans f4) (by simp)
  have e4 : Ext w3 w4 := ((Ext.refl w3).alloc _).trans f4
  replace T := T.ext e4
  replace nd := nd.ext e4
  replace na := na.ext e4
  replace nb := nb.ext e4
  replace Bd := Bd.ext e4
  replace Ba := Ba.ext e4
  have E4 : Ext w w4 := E3.trans e4
  clear f4 e4 E3
  go_wp2_with fail
  refine (HS1.out _ T).mono ?_
  rintro _ w5 ⟨rfl, f5⟩
  have e5 : Ext w4 w5 := (Ext.refl w4).trans f5
  replace T := T.ext e5
  replace nd := nd.ext e5
  replace na := na.ext e5
  replace nb := nb.ext e5
  replace Bd := Bd.ext e5
  replace Ba := Ba.ext e5
  replace Bb := Bb.ext e5
  have E5 : Ext w w5 := E4.trans e5
  clear f5 e5 E4
  go_wp2_with fail
  refine (HS2.out _).mono ?_
  rintro _ _ ⟨rfl, rfl⟩
  go_wp2_with fail
  refine (HN1.out _ T).mono ?_
  rintro _ w6 ⟨rfl, f6⟩
  have e6 : Ext w5 w6 := (Ext.refl w5).trans f6
  replace T := T.ext e6
  replace nd := nd.ext e6
  replace na := na.ext e6
  replace nb := nb.ext e6
  replace Bd := Bd.ext e6
  replace Ba := Ba.ext e6
  replace Bb := Bb.ext e6
  have E6 : Ext w w6 := E5.trans e6
  clear f6 e6 E5
  go_wp2_with fail
  refine (HN2.out _).mono ?_
  rintro _ _ ⟨rfl, rfl⟩
  go_wp2_with fail
  refine (HCC.out _).mono ?_
  rintro _ _ ⟨rfl, rfl⟩
  go_wp2
  obtain ⟨Bd_0, Bd_1, Bd_2⟩ := id Bd
  have Bd_l := World.block_lt_of_cell? _ _ Bd_0
  go_region_held3 (fun w' => (w'.cell? ⟨w.heap.size, 0, none⟩ = some (.bool nbd) ∧ w'.cell? ⟨w.heap.size, 1, none⟩ = some Md ∧ w'.cell? ⟨w.heap.size, 2, none⟩ = some (.int .i64 jd)))
    (first | (with_reducible exact box3 (Bd.ext F4)) | (with_reducible exact box3 (Bd.ext F3)) | (with_reducible exact box3 (Bd.ext F2)) | (with_reducible exact box3 (Bd.ext F1)) | go_keep)
    (first | ((have hF4 := F3); (go_at_call 14); (refine (near_same _ hq1 hq2).mono ?_); (rintro _ u4 ⟨rfl, eu4⟩); (have F4 : Ext w6 u4 := F3.trans eu4)) | ((have hF3 := F2); (go_at_call 19); (refine (HRN.out _ _ (nd.ext F2)).mono ?_); (rintro _ u3 ⟨q2, rfl, hq2, eu3⟩); (have F3 : Ext w6 u3 := F2.trans eu3)) | ((have hF2 := F1); (go_at_call 18); (refine (HNE.out _ _ (nd.ext F1) (T.ext F1)).mono ?_); (rintro _ u2 ⟨q1, rfl, hq1, eu2⟩); (have F2 : Ext w6 u2 := F1.trans eu2)) | ((go_at_call 17); (refine (HGd.out _ (E6.trans (Ext.refl w6).drew)).mono ?_); (rintro _ u1 ⟨rfl, eu1⟩); (have F1 : Ext w6 u1 := (Ext.refl w6).drew.trans eu1)))
  go_wp2
  go_ret
  exact ⟨rfl, E6.trans F4⟩

theorem walk_FloTells (w : World) (T : Tg w) (f : Nat) (hf : f < 18446744073709551616) (g : Nat) (hg : g < 18446744073709551616) (nbd : Bool) (Md : Value) (xd : List Int) (jd : Int) (rowd : Row w Md xd) (bdd : -9223372036854775808 ≤ jd ∧ jd ≤ 9223372036854775807) : Calls Tryd.prog 3 #[.float .f64 f, .float .f64 g, .agg #[.bool nbd, Md, .int .i64 jd]] w (RetE w (.bool true)) := by
  cases hgd : goodF nbd xd jd
  · exact tells_bad w T f hf g hg nbd Md xd jd rowd bdd hgd
  · exact tells_good w T f hf g hg nbd Md xd jd rowd bdd hgd

end Go.Proofs.YtdfkhaajeojeeaaDoor
