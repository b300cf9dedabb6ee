/- The walk of DyaTells. -/
import Derived.Test.YtjnnodbejnmkmaaDoorG4
namespace Go.Proofs.YtjnnodbejnmkmaaDoor
open Go.RowKit
set_option linter.unusedVariables false
theorem rcmp_lit (w : World) (va vb : Value) (x y : Dyadic) (P Q : Nat) (r : Int) (h : cmpD x y = r) (ha : Dn w va x) (hb : Dn w vb y) (hx : Rg P Q x) (hy : Rg P Q y) (h1 : P + Q ≤ 2400) : Calls Tryd.prog 19 #[va, vb] w (RetE w (.int .i64 r)) := by
  subst h; exact rcmpD_any w va vb x y P Q ha hb hx hy h1
theorem rsign_lit (w : World) (v : Value) (d : Dyadic) (r : Int) (h : cmpD d 0 = r) (hd : Dn w v d) : Calls Tryd.prog 21 #[v] w (RetE w (.int .i64 r)) := by
  subst h; exact rsign_any w v d hd

set_option maxRecDepth 100000 in
set_option maxHeartbeats 16000000 in
theorem tells_long (w : World) (T : Tb w) (nbx : Bool) (Mx : Value) (xx : List Int) (ix : Int) (rowx : Row w Mx xx) (bdx : -9223372036854775808 ≤ ix ∧ ix ≤ 9223372036854775807) (nba : Bool) (Ma : Value) (xa : List Int) (ia : Int) (rowa : Row w Ma xa) (bda : -9223372036854775808 ≤ ia ∧ ia ≤ 9223372036854775807) (nbb : Bool) (Mb : Value) (xb : List Int) (ib : Int) (rowb : Row w Mb xb) (bdb : -9223372036854775808 ≤ ib ∧ ib ≤ 9223372036854775807) (n : Int) (up : Bool) (k : Int) (h400 : 400 < xx.length) :
    Calls Tryd.prog 3 #[.agg #[.bool nbx, Mx, .int .i64 ix], .agg #[.bool nba, Ma, .int .i64 ia], .agg #[.bool nbb, Mb, .int .i64 ib], .int .u8 n, .bool up, .int .i64 k] w (RetE w (.bool true)) := by
  obtain ⟨Ax, cx, rfl, hx1, hx2, hx3⟩ := id rowx
  clear hx3
  go_enter Tryd.func3, Tryd.ntmps3
  go_wp2_with fail
  refine (headD_any _ (T.ext ((((Ext.refl w).alloc _).alloc _).alloc _))).mono ?_
  rintro _ w1 ⟨rfl, e1⟩
  have E0 : Ext w w1 := ((((Ext.refl w).alloc _).alloc _).alloc _).trans e1
  have Bx : Box w1 (w.heap.size) (.bool nbx) (.slice Ax xx.length cx) (.int .i64 ix) := Box.at ((((Ext.refl _).alloc _).alloc _).trans e1) (by simp)
  have Ba : Box w1 (w.heap.size + 1) (.bool nba) Ma (.int .i64 ia) := Box.at (((Ext.refl _).alloc _).trans e1) (by simp)
  have Bb : Box w1 (w.heap.size + 1 + 1) (.bool nbb) Mb (.int .i64 ib) := Box.at ((Ext.refl _).trans e1) (by simp)
  replace T := T.ext E0
  replace rowx := rowx.ext E0
  replace rowa := rowa.ext E0
  replace rowb := rowb.ext E0
  clear e1
  obtain ⟨x0, x1, x2⟩ := id Bx
  go_wp2
  have h400i : (400 : Int) < (xx.length : Int) := by omega
  have hd4 : decide ((400 : Int) < (xx.length : Int)) = true := decide_eq_true h400i
  go_quiet (fail)
  go_wp2
  go_ret
  exact ⟨rfl, E0.drewN _⟩

set_option maxRecDepth 100000 in
set_option maxHeartbeats 16000000 in
theorem tells_bad (w : World) (T : Tb w) (nbx : Bool) (Mx : Value) (xx : List Int) (ix : Int) (rowx : Row w Mx xx) (bdx : -9223372036854775808 ≤ ix ∧ ix ≤ 9223372036854775807) (nba : Bool) (Ma : Value) (xa : List Int) (ia : Int) (rowa : Row w Ma xa) (bda : -9223372036854775808 ≤ ia ∧ ia ≤ 9223372036854775807) (nbb : Bool) (Mb : Value) (xb : List Int) (ib : Int) (rowb : Row w Mb xb) (bdb : -9223372036854775808 ≤ ib ∧ ib ≤ 9223372036854775807) (n : Int) (up : Bool) (k : Int) (h400 : ¬ 400 < xx.length)  (hg : goodAll 2 (pk nba nbb nbb) (pk xa xb xb) (pk ia ib ib) = false) :
    Calls Tryd.prog 3 #[.agg #[.bool nbx, Mx, .int .i64 ix], .agg #[.bool nba, Ma, .int .i64 ia], .agg #[.bool nbb, Mb, .int .i64 ib], .int .u8 n, .bool up, .int .i64 k] w (RetE w (.bool true)) := by
  obtain ⟨Ax, cx, rfl, hx1, hx2, hx3⟩ := id rowx
  clear hx3
  have h400i : ¬ ((400 : Int) < (xx.length : Int)) := by omega
  have hd4 : decide ((400 : Int) < (xx.length : Int)) = false := decide_eq_false h400i
  go_enter Tryd.func3, Tryd.ntmps3
  go_wp2_with fail
  refine (headD_any _ (T.ext ((((Ext.refl w).alloc _).alloc _).alloc _))).mono ?_
  rintro _ w1 ⟨rfl, e1⟩
  have E0 : Ext w w1 := ((((Ext.refl w).alloc _).alloc _).alloc _).trans e1
  have Bx : Box w1 (w.heap.size) (.bool nbx) (.slice Ax xx.length cx) (.int .i64 ix) := Box.at ((((Ext.refl _).alloc _).alloc _).trans e1) (by simp)
  have Ba : Box w1 (w.heap.size + 1) (.bool nba) Ma (.int .i64 ia) := Box.at (((Ext.refl _).alloc _).trans e1) (by simp)
  have Bb : Box w1 (w.heap.size + 1 + 1) (.bool nbb) Mb (.int .i64 ib) := Box.at ((Ext.refl _).trans e1) (by simp)
  replace T := T.ext E0
  replace rowx := rowx.ext E0
  replace rowa := rowa.ext E0
  replace rowb := rowb.ext E0
  clear e1
  obtain ⟨r, hr⟩ : ∃ r, rightD nbx xx ix = r := ⟨_, rfl⟩
  have HR1 : Hid (∀ w', Ext w1 w' → Calls Tryd.prog 10 #[.agg #[.bool nbx, .slice Ax xx.length cx, .int .i64 ix]] w' (RetE w' (.bool r))) := Lib.hid (fun w' hE => hr ▸ rightD_any w' nbx _ xx ix (rowx.ext hE) bdx)
  have HR2 : Hid (∀ w', Ext w1 w' → Calls Tryd.prog 11 #[.agg #[.bool nbx, .slice Ax xx.length cx, .int .i64 ix]] w' (RetE w' (.bool r))) := Lib.hid (fun w' hE => hr ▸ rrightD_any w' nbx _ xx ix (rowx.ext hE) bdx)
  clear hr
  obtain ⟨x0, x1, x2⟩ := id Bx
  have hrr : (r != r) = false := by simp
  go_wp2
  go_region_held3 (fun w' => w'.cell? ⟨w.heap.size, 0, none⟩ = some (.bool nbx) ∧ w'.cell? ⟨w.heap.size, 1, none⟩ = some (.slice Ax xx.length cx) ∧ w'.cell? ⟨w.heap.size, 2, none⟩ = some (.int .i64 ix)) (first | (with_reducible exact box3 (Bx.ext G2)) | (with_reducible exact box3 (Bx.ext G1)) | (with_reducible exact box3 (Bx.ext (Ext.refl _).drew)) | go_keep) (first | ((have hF := G1); (go_at_call 11); (refine (HR2.out _ G1).mono ?_); (rintro _ q2 ⟨rfl, eq2⟩); (have G2 : Ext w1 q2 := G1.trans eq2)) | ((go_at_call 10); (refine (HR1.out _ (Ext.refl _).drew).mono ?_); (rintro _ q1 ⟨rfl, eq1⟩); (have G1 : Ext w1 q1 := (Ext.refl _).drew.trans eq1)))
  clear x0 x1 x2 HR1 HR2 G1 eq1 eq2 hrr
  replace T := T.ext G2
  replace rowa := rowa.ext G2
  replace rowb := rowb.ext G2
  replace Ba := Ba.ext G2
  replace Bb := Bb.ext G2
  replace E0 := E0.trans G2
  clear G2 Bx rowx
  obtain ⟨a0, a1, a2⟩ := id Ba
  obtain ⟨b0, b1, b2⟩ := id Bb
  have HG := Lib.hid (good_any _ _ 2 2 _ _ _ _ (by omega) (many2 q2 24 nba nbb Ma Mb xa xb ia ib rowa rowb bda bdb))
  rw [hg] at HG
  clear hg
  go_wp2_with fail
  refine HG.out.mono ?_
  rintro _ w2 ⟨rfl, f2⟩
  have e2 : Ext q2 w2 := ((Ext.refl _).alloc _).trans f2
  go_wp2
  go_ret
  exact ⟨rfl, E0.trans e2⟩

set_option maxRecDepth 100000 in
set_option maxHeartbeats 16000000 in
theorem tells_low (w : World) (T : Tb w) (nbx : Bool) (Mx : Value) (xx : List Int) (ix : Int) (rowx : Row w Mx xx) (bdx : -9223372036854775808 ≤ ix ∧ ix ≤ 9223372036854775807) (nba : Bool) (Ma : Value) (xa : List Int) (ia : Int) (rowa : Row w Ma xa) (bda : -9223372036854775808 ≤ ia ∧ ia ≤ 9223372036854775807) (nbb : Bool) (Mb : Value) (xb : List Int) (ib : Int) (rowb : Row w Mb xb) (bdb : -9223372036854775808 ≤ ib ∧ ib ≤ 9223372036854775807) (n : Int) (up : Bool) (k : Int) (h400 : ¬ 400 < xx.length) (hk : k < -500) (hg : goodAll 2 (pk nba nbb nbb) (pk xa xb xb) (pk ia ib ib) = true) :
    Calls Tryd.prog 3 #[.agg #[.bool nbx, Mx, .int .i64 ix], .agg #[.bool nba, Ma, .int .i64 ia], .agg #[.bool nbb, Mb, .int .i64 ib], .int .u8 n, .bool up, .int .i64 k] w (RetE w (.bool true)) := by
  obtain ⟨Ax, cx, rfl, hx1, hx2, hx3⟩ := id rowx
  clear hx3
  have h400i : ¬ ((400 : Int) < (xx.length : Int)) := by omega
  have hd4 : decide ((400 : Int) < (xx.length : Int)) = false := decide_eq_false h400i
  go_enter Tryd.func3, Tryd.ntmps3
  go_wp2_with fail
  refine (headD_any _ (T.ext ((((Ext.refl w).alloc _).alloc _).alloc _))).mono ?_
  rintro _ w1 ⟨rfl, e1⟩
  have E0 : Ext w w1 := ((((Ext.refl w).alloc _).alloc _).alloc _).trans e1
  have Bx : Box w1 (w.heap.size) (.bool nbx) (.slice Ax xx.length cx) (.int .i64 ix) := Box.at ((((Ext.refl _).alloc _).alloc _).trans e1) (by simp)
  have Ba : Box w1 (w.heap.size + 1) (.bool nba) Ma (.int .i64 ia) := Box.at (((Ext.refl _).alloc _).trans e1) (by simp)
  have Bb : Box w1 (w.heap.size + 1 + 1) (.bool nbb) Mb (.int .i64 ib) := Box.at ((Ext.refl _).trans e1) (by simp)
  replace T := T.ext E0
  replace rowx := rowx.ext E0
  replace rowa := rowa.ext E0
  replace rowb := rowb.ext E0
  clear e1
  obtain ⟨r, hr⟩ : ∃ r, rightD nbx xx ix = r := ⟨_, rfl⟩
  have HR1 : Hid (∀ w', Ext w1 w' → Calls Tryd.prog 10 #[.agg #[.bool nbx, .slice Ax xx.length cx, .int .i64 ix]] w' (RetE w' (.bool r))) := Lib.hid (fun w' hE => hr ▸ rightD_any w' nbx _ xx ix (rowx.ext hE) bdx)
  have HR2 : Hid (∀ w', Ext w1 w' → Calls Tryd.prog 11 #[.agg #[.bool nbx, .slice Ax xx.length cx, .int .i64 ix]] w' (RetE w' (.bool r))) := Lib.hid (fun w' hE => hr ▸ rrightD_any w' nbx _ xx ix (rowx.ext hE) bdx)
  clear hr
  obtain ⟨x0, x1, x2⟩ := id Bx
  have hrr : (r != r) = false := by simp
  go_wp2
  go_region_held3 (fun w' => w'.cell? ⟨w.heap.size, 0, none⟩ = some (.bool nbx) ∧ w'.cell? ⟨w.heap.size, 1, none⟩ = some (.slice Ax xx.length cx) ∧ w'.cell? ⟨w.heap.size, 2, none⟩ = some (.int .i64 ix)) (first | (with_reducible exact box3 (Bx.ext G2)) | (with_reducible exact box3 (Bx.ext G1)) | (with_reducible exact box3 (Bx.ext (Ext.refl _).drew)) | go_keep) (first | ((have hF := G1); (go_at_call 11); (refine (HR2.out _ G1).mono ?_); (rintro _ q2 ⟨rfl, eq2⟩); (have G2 : Ext w1 q2 := G1.trans eq2)) | ((go_at_call 10); (refine (HR1.out _ (Ext.refl _).drew).mono ?_); (rintro _ q1 ⟨rfl, eq1⟩); (have G1 : Ext w1 q1 := (Ext.refl _).drew.trans eq1)))
  clear x0 x1 x2 HR1 HR2 G1 eq1 eq2 hrr
  replace T := T.ext G2
  replace rowa := rowa.ext G2
  replace rowb := rowb.ext G2
  replace Ba := Ba.ext G2
  replace Bb := Bb.ext G2
  replace E0 := E0.trans G2
  clear G2 Bx rowx
  obtain ⟨a0, a1, a2⟩ := id Ba
  obtain ⟨b0, b1, b2⟩ := id Bb
  have HG := Lib.hid (good_any _ _ 2 2 _ _ _ _ (by omega) (many2 q2 24 nba nbb Ma Mb xa xb ia ib rowa rowb bda bdb))
  rw [hg] at HG
  clear hg
  go_wp2_with fail
  refine HG.out.mono ?_
  rintro _ w2 ⟨rfl, f2⟩
  have e2 : Ext q2 w2 := ((Ext.refl _).alloc _).trans f2
  go_wp2
  go_ret
  exact ⟨rfl, E0.trans e2⟩

set_option maxRecDepth 100000 in
set_option maxHeartbeats 16000000 in
theorem tells_high (w : World) (T : Tb w) (nbx : Bool) (Mx : Value) (xx : List Int) (ix : Int) (rowx : Row w Mx xx) (bdx : -9223372036854775808 ≤ ix ∧ ix ≤ 9223372036854775807) (nba : Bool) (Ma : Value) (xa : List Int) (ia : Int) (rowa : Row w Ma xa) (bda : -9223372036854775808 ≤ ia ∧ ia ≤ 9223372036854775807) (nbb : Bool) (Mb : Value) (xb : List Int) (ib : Int) (rowb : Row w Mb xb) (bdb : -9223372036854775808 ≤ ib ∧ ib ≤ 9223372036854775807) (n : Int) (up : Bool) (k : Int) (h400 : ¬ 400 < xx.length) (hk0 : ¬ k < -500) (hk : 500 < k) (hg : goodAll 2 (pk nba nbb nbb) (pk xa xb xb) (pk ia ib ib) = true) :
    Calls Tryd.prog 3 #[.agg #[.bool nbx, Mx, .int .i64 ix], .agg #[.bool nba, Ma, .int .i64 ia], .agg #[.bool nbb, Mb, .int .i64 ib], .int .u8 n, .bool up, .int .i64 k] w (RetE w (.bool true)) := by
  obtain ⟨Ax, cx, rfl, hx1, hx2, hx3⟩ := id rowx
  clear hx3
  have h400i : ¬ ((400 : Int) < (xx.length : Int)) := by omega
  have hd4 : decide ((400 : Int) < (xx.length : Int)) = false := decide_eq_false h400i
  go_enter Tryd.func3, Tryd.ntmps3
  go_wp2_with fail
  refine (headD_any _ (T.ext ((((Ext.refl w).alloc _).alloc _).alloc _))).mono ?_
  rintro _ w1 ⟨rfl, e1⟩
  have E0 : Ext w w1 := ((((Ext.refl w).alloc _).alloc _).alloc _).trans e1
  have Bx : Box w1 (w.heap.size) (.bool nbx) (.slice Ax xx.length cx) (.int .i64 ix) := Box.at ((((Ext.refl _).alloc _).alloc _).trans e1) (by simp)
  have Ba : Box w1 (w.heap.size + 1) (.bool nba) Ma (.int .i64 ia) := Box.at (((Ext.refl _).alloc _).trans e1) (by simp)
  have Bb : Box w1 (w.heap.size + 1 + 1) (.bool nbb) Mb (.int .i64 ib) := Box.at ((Ext.refl _).trans e1) (by simp)
  replace T := T.ext E0
  replace rowx := rowx.ext E0
  replace rowa := rowa.ext E0
  replace rowb := rowb.ext E0
  clear e1
  obtain ⟨r, hr⟩ : ∃ r, rightD nbx xx ix = r := ⟨_, rfl⟩
  have HR1 : Hid (∀ w', Ext w1 w' → Calls Tryd.prog 10 #[.agg #[.bool nbx, .slice Ax xx.length cx, .int .i64 ix]] w' (RetE w' (.bool r))) := Lib.hid (fun w' hE => hr ▸ rightD_any w' nbx _ xx ix (rowx.ext hE) bdx)
  have HR2 : Hid (∀ w', Ext w1 w' → Calls Tryd.prog 11 #[.agg #[.bool nbx, .slice Ax xx.length cx, .int .i64 ix]] w' (RetE w' (.bool r))) := Lib.hid (fun w' hE => hr ▸ rrightD_any w' nbx _ xx ix (rowx.ext hE) bdx)
  clear hr
  obtain ⟨x0, x1, x2⟩ := id Bx
  have hrr : (r != r) = false := by simp
  go_wp2
  go_region_held3 (fun w' => w'.cell? ⟨w.heap.size, 0, none⟩ = some (.bool nbx) ∧ w'.cell? ⟨w.heap.size, 1, none⟩ = some (.slice Ax xx.length cx) ∧ w'.cell? ⟨w.heap.size, 2, none⟩ = some (.int .i64 ix)) (first | (with_reducible exact box3 (Bx.ext G2)) | (with_reducible exact box3 (Bx.ext G1)) | (with_reducible exact box3 (Bx.ext (Ext.refl _).drew)) | go_keep) (first | ((have hF := G1); (go_at_call 11); (refine (HR2.out _ G1).mono ?_); (rintro _ q2 ⟨rfl, eq2⟩); (have G2 : Ext w1 q2 := G1.trans eq2)) | ((go_at_call 10); (refine (HR1.out _ (Ext.refl _).drew).mono ?_); (rintro _ q1 ⟨rfl, eq1⟩); (have G1 : Ext w1 q1 := (Ext.refl _).drew.trans eq1)))
  clear x0 x1 x2 HR1 HR2 G1 eq1 eq2 hrr
  replace T := T.ext G2
  replace rowa := rowa.ext G2
  replace rowb := rowb.ext G2
  replace Ba := Ba.ext G2
  replace Bb := Bb.ext G2
  replace E0 := E0.trans G2
  clear G2 Bx rowx
  obtain ⟨a0, a1, a2⟩ := id Ba
  obtain ⟨b0, b1, b2⟩ := id Bb
  have HG := Lib.hid (good_any _ _ 2 2 _ _ _ _ (by omega) (many2 q2 24 nba nbb Ma Mb xa xb ia ib rowa rowb bda bdb))
  rw [hg] at HG
  clear hg
  go_wp2_with fail
  refine HG.out.mono ?_
  rintro _ w2 ⟨rfl, f2⟩
  have e2 : Ext q2 w2 := ((Ext.refl _).alloc _).trans f2
  go_wp2
  go_ret
  exact ⟨rfl, E0.trans e2⟩

set_option maxRecDepth 100000 in
set_option maxHeartbeats 16000000 in
theorem tells_in (w : World) (T : Tb w) (nbx : Bool) (Mx : Value) (xx : List Int) (ix : Int) (rowx : Row w Mx xx) (bdx : -9223372036854775808 ≤ ix ∧ ix ≤ 9223372036854775807) (nba : Bool) (Ma : Value) (xa : List Int) (ia : Int) (rowa : Row w Ma xa) (bda : -9223372036854775808 ≤ ia ∧ ia ≤ 9223372036854775807) (nbb : Bool) (Mb : Value) (xb : List Int) (ib : Int) (rowb : Row w Mb xb) (bdb : -9223372036854775808 ≤ ib ∧ ib ≤ 9223372036854775807) (n : Int) (up : Bool) (k : Int) (h400 : ¬ 400 < xx.length) (hn : 0 ≤ n ∧ n ≤ 255) (hk : -500 ≤ k ∧ k ≤ 500) (c : Nat) (hc : n % 40 + 1 = (c : Int)) (hc2 : c ≤ 40) (hg : goodAll 2 (pk nba nbb nbb) (pk xa xb xb) (pk ia ib ib) = true) :
    Calls Tryd.prog 3 #[.agg #[.bool nbx, Mx, .int .i64 ix], .agg #[.bool nba, Ma, .int .i64 ia], .agg #[.bool nbb, Mb, .int .i64 ib], .int .u8 n, .bool up, .int .i64 k] w (RetE w (.bool true)) := by
  obtain ⟨Ax, cx, rfl, hx1, hx2, hx3⟩ := id rowx
  clear hx3
  have h400i : ¬ ((400 : Int) < (xx.length : Int)) := by omega
  have hd4 : decide ((400 : Int) < (xx.length : Int)) = false := decide_eq_false h400i
  go_enter Tryd.func3, Tryd.ntmps3
  go_wp2_with fail
  refine (headD_any _ (T.ext ((((Ext.refl w).alloc _).alloc _).alloc _))).mono ?_
  rintro _ w1 ⟨rfl, e1⟩
  have E0 : Ext w w1 := ((((Ext.refl w).alloc _).alloc _).alloc _).trans e1
  have Bx : Box w1 (w.heap.size) (.bool nbx) (.slice Ax xx.length cx) (.int .i64 ix) := Box.at ((((Ext.refl _).alloc _).alloc _).trans e1) (by simp)
  have Ba : Box w1 (w.heap.size + 1) (.bool nba) Ma (.int .i64 ia) := Box.at (((Ext.refl _).alloc _).trans e1) (by simp)
  have Bb : Box w1 (w.heap.size + 1 + 1) (.bool nbb) Mb (.int .i64 ib) := Box.at ((Ext.refl _).trans e1) (by simp)
  replace T := T.ext E0
  replace rowx := rowx.ext E0
  replace rowa := rowa.ext E0
  replace rowb := rowb.ext E0
  clear e1
  obtain ⟨r, hr⟩ : ∃ r, rightD nbx xx ix = r := ⟨_, rfl⟩
  have HR1 : Hid (∀ w', Ext w1 w' → Calls Tryd.prog 10 #[.agg #[.bool nbx, .slice Ax xx.length cx, .int .i64 ix]] w' (RetE w' (.bool r))) := Lib.hid (fun w' hE => hr ▸ rightD_any w' nbx _ xx ix (rowx.ext hE) bdx)
  have HR2 : Hid (∀ w', Ext w1 w' → Calls Tryd.prog 11 #[.agg #[.bool nbx, .slice Ax xx.length cx, .int .i64 ix]] w' (RetE w' (.bool r))) := Lib.hid (fun w' hE => hr ▸ rrightD_any w' nbx _ xx ix (rowx.ext hE) bdx)
  clear hr
  obtain ⟨x0, x1, x2⟩ := id Bx
  have hrr : (r != r) = false := by simp
  go_wp2
  go_region_held3 (fun w' => w'.cell? ⟨w.heap.size, 0, none⟩ = some (.bool nbx) ∧ w'.cell? ⟨w.heap.size, 1, none⟩ = some (.slice Ax xx.length cx) ∧ w'.cell? ⟨w.heap.size, 2, none⟩ = some (.int .i64 ix)) (first | (with_reducible exact box3 (Bx.ext G2)) | (with_reducible exact box3 (Bx.ext G1)) | (with_reducible exact box3 (Bx.ext (Ext.refl _).drew)) | go_keep) (first | ((have hF := G1); (go_at_call 11); (refine (HR2.out _ G1).mono ?_); (rintro _ q2 ⟨rfl, eq2⟩); (have G2 : Ext w1 q2 := G1.trans eq2)) | ((go_at_call 10); (refine (HR1.out _ (Ext.refl _).drew).mono ?_); (rintro _ q1 ⟨rfl, eq1⟩); (have G1 : Ext w1 q1 := (Ext.refl _).drew.trans eq1)))
  clear x0 x1 x2 HR1 HR2 G1 eq1 eq2 hrr
  replace T := T.ext G2
  replace rowa := rowa.ext G2
  replace rowb := rowb.ext G2
  replace Ba := Ba.ext G2
  replace Bb := Bb.ext G2
  replace E0 := E0.trans G2
  clear G2 Bx rowx
  obtain ⟨a0, a1, a2⟩ := id Ba
  obtain ⟨b0, b1, b2⟩ := id Bb
  have HG := Lib.hid (good_any _ _ 2 2 _ _ _ _ (by omega) (many2 q2 24 nba nbb Ma Mb xa xb ia ib rowa rowb bda bdb))
  rw [hg] at HG
  have hall := pk_all (goodAll_true hg)
  clear hg
  obtain ⟨za, na, ca, la, ja1, ja2, ra⟩ := good_num rowa (hall.1 (by omega))
  obtain ⟨zb, nb, cb, lb, jb1, jb2, rb⟩ := good_num rowb (hall.2.1 (by omega))
  clear hall
  have lza : Lt 400 za.natAbs := Lt.of_bits (Nat.le_trans (bl_of_lt la) (by omega))
  have lzb : Lt 400 zb.natAbs := Lt.of_bits (Nat.le_trans (bl_of_lt lb) (by omega))
  go_wp2_with fail
  refine HG.out.mono ?_
  rintro _ w2 ⟨rfl, f2⟩
  have e2 : Ext q2 w2 := ((Ext.refl _).alloc _).trans f2
  clear HG f2 rowa rowb a0 a1 a2 b0 b1 b2
  replace T := T.ext e2
  replace na := na.ext e2
  replace nb := nb.ext e2
  replace Ba := Ba.ext e2
  replace Bb := Bb.ext e2
  replace E0 := E0.trans e2
  clear e2
  have nM := nb.nat cb
  obtain ⟨a0, a1, a2⟩ := id Ba
  obtain ⟨b0, b1, b2⟩ := id Bb
  obtain ⟨cc, hcc⟩ : ∃ cc, cmpD (dy za ia) (dy zb ib) = cc := ⟨_, rfl⟩
  obtain ⟨ss, hss⟩ : ∃ ss, cmpD (dy za ia) 0 = ss := ⟨_, rfl⟩
  have HCC := Lib.hid (And.intro hcc hss)
  clear hcc hss
  go_wp2
  simp only [List.append_eq, List.cons_append, List.nil_append]
  clear lb la jb1 jb2 hn
  go_region_held3 (fun w' => (w'.cell? ⟨w.heap.size + 1, 0, none⟩ = some (.bool nba) ∧ w'.cell? ⟨w.heap.size + 1, 1, none⟩ = some Ma ∧ w'.cell? ⟨w.heap.size + 1, 2, none⟩ = some (.int .i64 ia)) ∧ (w'.cell? ⟨w.heap.size + 1 + 1, 0, none⟩ = some (.bool nbb) ∧ w'.cell? ⟨w.heap.size + 1 + 1, 1, none⟩ = some Mb ∧ w'.cell? ⟨w.heap.size + 1 + 1, 2, none⟩ = some (.int .i64 ib)))
    (first | (with_reducible exact ⟨box3 (Ba.ext F25), box3 (Bb.ext F25)⟩) | (with_reducible exact ⟨box3 (Ba.ext F24), box3 (Bb.ext F24)⟩) | (with_reducible exact ⟨box3 (Ba.ext F23), box3 (Bb.ext F23)⟩) | (with_reducible exact ⟨box3 (Ba.ext F22), box3 (Bb.ext F22)⟩) | (with_reducible exact ⟨box3 (Ba.ext F21), box3 (Bb.ext F21)⟩) | (with_reducible exact ⟨box3 (Ba.ext F20), box3 (Bb.ext F20)⟩) | (with_reducible exact ⟨box3 (Ba.ext F19), box3 (Bb.ext F19)⟩) | (with_reducible exact ⟨box3 (Ba.ext F18), box3 (Bb.ext F18)⟩) | (with_reducible exact ⟨box3 (Ba.ext F17), box3 (Bb.ext F17)⟩) | (with_reducible exact ⟨box3 (Ba.ext F16), box3 (Bb.ext F16)⟩) | (with_reducible exact ⟨box3 (Ba.ext F15), box3 (Bb.ext F15)⟩) | (with_reducible exact ⟨box3 (Ba.ext F14), box3 (Bb.ext F14)⟩) | (with_reducible exact ⟨box3 (Ba.ext F13), box3 (Bb.ext F13)⟩) | (with_reducible exact ⟨box3 (Ba.ext F12), box3 (Bb.ext F12)⟩) | (with_reducible exact ⟨box3 (Ba.ext F11), box3 (Bb.ext F11)⟩) | (with_reducible exact ⟨box3 (Ba.ext F10), box3 (Bb.ext F10)⟩) | (with_reducible exact ⟨box3 (Ba.ext F9), box3 (Bb.ext F9)⟩) | (with_reducible exact ⟨box3 (Ba.ext F8), box3 (Bb.ext F8)⟩) | (with_reducible exact ⟨box3 (Ba.ext F7), box3 (Bb.ext F7)⟩) | (with_reducible exact ⟨box3 (Ba.ext F6), box3 (Bb.ext F6)⟩) | (with_reducible exact ⟨box3 (Ba.ext F5), box3 (Bb.ext F5)⟩) | (with_reducible exact ⟨box3 (Ba.ext F4), box3 (Bb.ext F4)⟩) | (with_reducible exact ⟨box3 (Ba.ext F3), box3 (Bb.ext F3)⟩) | (with_reducible exact ⟨box3 (Ba.ext F2), box3 (Bb.ext F2)⟩) | (with_reducible exact ⟨box3 (Ba.ext F1), box3 (Bb.ext F1)⟩) | go_keep)
    (first | ((have hF25 := F24); (go_at_call 13); (refine (rsameD_eq _ _ _ (dy (sg up zb.natAbs) k) m23 m24).mono ?_); (rintro _ u25 ⟨rfl, eu25⟩); (have F25 : Ext w2 u25 := F24.trans eu25); (replace m23 := m23.ext eu25); (replace m24 := m24.ext eu25)) | ((have hF24 := F23); (go_at_call 31); (refine (rmake_any _ up _ zb.natAbs k (nM.ext F23) lzb (by omega)).mono ?_); (rintro _ u24 ⟨vu24, rfl, m24, eu24⟩); (have F24 : Ext w2 u24 := F23.trans eu24); (replace m23 := m23.ext eu24)) | ((have hF23 := F22); (go_at_call 30); (refine (make_any _ up _ zb.natAbs k (nM.ext F22) lzb (by omega) (T.ext F22)).mono ?_); (rintro _ u23 ⟨vu23, rfl, m23, eu23⟩); (have F23 : Ext w2 u23 := F22.trans eu23)) | ((have hF22 := F21); (go_at_call 13); (refine (rsameD_eq _ _ _ (dy k 0) m20 m21).mono ?_); (rintro _ u22 ⟨rfl, eu22⟩); (have F22 : Ext w2 u22 := F21.trans eu22); (replace m20 := m20.ext eu22); (replace m21 := m21.ext eu22)) | ((have hF21 := F20); (go_at_call 29); (refine (rofD_any _ k (by omega)).mono ?_); (rintro _ u21 ⟨vu21, rfl, m21, eu21⟩); (have F21 : Ext w2 u21 := F20.trans eu21); (replace m20 := m20.ext eu21)) | ((have hF20 := F19); (go_at_call 28); (refine (ofD_any _ k (by omega) (T.ext F19)).mono ?_); (rintro _ u20 ⟨vu20, rfl, m20, eu20⟩); (have F20 : Ext w2 u20 := F19.trans eu20)) | ((have hF19 := F18); (go_at_call 13); (refine (rsameD_eq _ _ _ (cutD za ia c up) m17 m18).mono ?_); (rintro _ u19 ⟨rfl, eu19⟩); (have F19 : Ext w2 u19 := F18.trans eu19); (replace m17 := m17.ext eu19); (replace m18 := m18.ext eu19)) | ((have hF18 := F17); (go_at_call 27); (refine (rcut_any _ _ za ia c 200 392 up (na.ext F17) ca ra (by omega) (by omega)).mono ?_); (rintro _ u18 ⟨vu18, rfl, m18, eu18⟩); (have F18 : Ext w2 u18 := F17.trans eu18); (replace m17 := m17.ext eu18)) | ((have hF17 := F16); (go_at_call 26); (refine (cutD_any _ _ za ia c 200 392 up (na.ext F16) ca ra (by omega) (by omega) (T.ext F16)).mono ?_); (rintro _ u17 ⟨vu17, rfl, m17, eu17⟩); (have F17 : Ext w2 u17 := F16.trans eu17)) | ((have hF16 := F15); (go_at_call 13); (refine (rsameD_eq _ _ _ (dy za (ia + k)) m14 m15).mono ?_); (rintro _ u16 ⟨rfl, eu16⟩); (have F16 : Ext w2 u16 := F15.trans eu16); (replace m14 := m14.ext eu16); (replace m15 := m15.ext eu16)) | ((have hF15 := F14); (go_at_call 25); (refine (rshift_any _ _ za ia k (na.ext F14) ca lza (by omega) (by omega)).mono ?_); (rintro _ u15 ⟨vu15, rfl, m15, eu15⟩); (have F15 : Ext w2 u15 := F14.trans eu15); (replace m14 := m14.ext eu15)) | ((have hF14 := F13); (go_at_call 24); (refine (shiftD_any _ _ za ia k (na.ext F13) ca lza (by omega) (by omega) (T.ext F13)).mono ?_); (rintro _ u14 ⟨vu14, rfl, m14, eu14⟩); (have F14 : Ext w2 u14 := F13.trans eu14)) | ((have hF13 := F12); (go_at_call 13); (refine (rsameD_eq _ _ _ (-(dy za ia)) m11 m12).mono ?_); (rintro _ u13 ⟨rfl, eu13⟩); (have F13 : Ext w2 u13 := F12.trans eu13); (replace m11 := m11.ext eu13); (replace m12 := m12.ext eu13)) | ((have hF12 := F11); (go_at_call 23); (refine (rflip_any _ _ (dy za ia) (na.ext F11)).mono ?_); (rintro _ u12 ⟨vu12, rfl, m12, eu12⟩); (have F12 : Ext w2 u12 := F11.trans eu12); (replace m11 := m11.ext eu12)) | ((have hF11 := F10); (go_at_call 22); (refine (flipD_any _ _ (dy za ia) 200 392 (na.ext F10) ra (by omega) (T.ext F10)).mono ?_); (rintro _ u11 ⟨vu11, rfl, m11, eu11⟩); (have F11 : Ext w2 u11 := F10.trans eu11)) | ((have hF10 := F9); (go_at_call 21); (refine (rsign_lit _ _ (dy za ia) ss HCC.out.2 (na.ext F9)).mono ?_); (rintro _ u10 ⟨rfl, eu10⟩); (have F10 : Ext w2 u10 := F9.trans eu10)) | ((have hF9 := F8); (go_at_call 20); (refine (sign_lit _ _ (dy za ia) ss HCC.out.2 (na.ext F8)).mono ?_); (rintro _ u9 ⟨rfl, eu9⟩); (have F9 : Ext w2 u9 := F8.trans eu9)) | ((have hF8 := F7); (go_at_call 19); (refine (rcmp_lit _ _ _ (dy za ia) (dy zb ib) 200 392 cc HCC.out.1 (na.ext F7) (nb.ext F7) ra rb (by omega)).mono ?_); (rintro _ u8 ⟨rfl, eu8⟩); (have F8 : Ext w2 u8 := F7.trans eu8)) | ((have hF7 := F6); (go_at_call 18); (refine (cmp_lit _ _ _ (dy za ia) (dy zb ib) 200 392 200 392 cc HCC.out.1 (na.ext F6) (nb.ext F6) ra rb (by omega) (by omega)).mono ?_); (rintro _ u7 ⟨rfl, eu7⟩); (have F7 : Ext w2 u7 := F6.trans eu7)) | ((have hF6 := F5); (go_at_call 13); (refine (rsameD_eq _ _ _ ((dy za ia) * (dy zb ib)) m4 m5).mono ?_); (rintro _ u6 ⟨rfl, eu6⟩); (have F6 : Ext w2 u6 := F5.trans eu6); (replace m4 := m4.ext eu6); (replace m5 := m5.ext eu6)) | ((have hF5 := F4); (go_at_call 17); (refine (rmulD_any _ _ _ (dy za ia) (dy zb ib) 200 392 200 392 (na.ext F4) (nb.ext F4) ra rb (by omega) (by omega)).mono ?_); (rintro _ u5 ⟨vu5, rfl, m5, eu5⟩); (have F5 : Ext w2 u5 := F4.trans eu5); (replace m4 := m4.ext eu5)) | ((have hF4 := F3); (go_at_call 16); (refine (mulD_any _ _ _ (dy za ia) (dy zb ib) 200 392 200 392 (na.ext F3) (nb.ext F3) ra rb (by omega) (by omega) (T.ext F3)).mono ?_); (rintro _ u4 ⟨vu4, rfl, m4, eu4⟩); (have F4 : Ext w2 u4 := F3.trans eu4)) | ((have hF3 := F2); (go_at_call 13); (refine (rsameD_eq _ _ _ ((dy za ia) + (dy zb ib)) m1 m2).mono ?_); (rintro _ u3 ⟨rfl, eu3⟩); (have F3 : Ext w2 u3 := F2.trans eu3); (replace m1 := m1.ext eu3); (replace m2 := m2.ext eu3)) | ((have hF2 := F1); (go_at_call 15); (refine (raddD_any _ _ _ (dy za ia) (dy zb ib) 200 392 (na.ext F1) (nb.ext F1) ra rb (by omega)).mono ?_); (rintro _ u2 ⟨vu2, rfl, m2, eu2⟩); (have F2 : Ext w2 u2 := F1.trans eu2); (replace m1 := m1.ext eu2)) | ((go_at_call 14); (refine (addD_any _ _ _ (dy za ia) (dy zb ib) 200 392 (na.ext (Ext.refl w2).drew) (nb.ext (Ext.refl w2).drew) ra rb (by omega) (T.ext (Ext.refl w2).drew)).mono ?_); (rintro _ u1 ⟨vu1, rfl, m1, eu1⟩); (have F1 : Ext w2 u1 := (Ext.refl w2).drew.trans eu1)))
  go_wp2
  go_ret
  exact ⟨rfl, E0.trans F25⟩

theorem walk_DyaTells (w : World) (T : Tb w) (nbx : Bool) (Mx : Value) (xx : List Int) (ix : Int) (rowx : Row w Mx xx) (bdx : -9223372036854775808 ≤ ix ∧ ix ≤ 9223372036854775807) (nba : Bool) (Ma : Value) (xa : List Int) (ia : Int) (rowa : Row w Ma xa) (bda : -9223372036854775808 ≤ ia ∧ ia ≤ 9223372036854775807) (nbb : Bool) (Mb : Value) (xb : List Int) (ib : Int) (rowb : Row w Mb xb) (bdb : -9223372036854775808 ≤ ib ∧ ib ≤ 9223372036854775807) (n : Int) (hn : 0 ≤ n ∧ n ≤ 255) (up : Bool) (k : Int) (_hk : -9223372036854775808 ≤ k ∧ k ≤ 9223372036854775807) :
    Calls Tryd.prog 3 #[.agg #[.bool nbx, Mx, .int .i64 ix], .agg #[.bool nba, Ma, .int .i64 ia], .agg #[.bool nbb, Mb, .int .i64 ib], .int .u8 n, .bool up, .int .i64 k] w (RetE w (.bool true)) := by
  by_cases h4 : 400 < xx.length
  · exact tells_long w T nbx Mx xx ix rowx bdx nba Ma xa ia rowa bda nbb Mb xb ib rowb bdb n up k h4
  cases hg : goodAll 2 (pk nba nbb nbb) (pk xa xb xb) (pk ia ib ib)
  · exact tells_bad w T nbx Mx xx ix rowx bdx nba Ma xa ia rowa bda nbb Mb xb ib rowb bdb n up k h4 hg
  · by_cases h1 : k < -500
    · exact tells_low w T nbx Mx xx ix rowx bdx nba Ma xa ia rowa bda nbb Mb xb ib rowb bdb n up k h4 h1 hg
    · by_cases h2 : 500 < k
      · exact tells_high w T nbx Mx xx ix rowx bdx nba Ma xa ia rowa bda nbb Mb xb ib rowb bdb n up k h4 h1 h2 hg
      · exact tells_in w T nbx Mx xx ix rowx bdx nba Ma xa ia rowa bda nbb Mb xb ib rowb bdb n up k h4 hn (by omega) (n % 40 + 1).toNat (by omega) (by omega) hg

end Go.Proofs.YtjnnodbejnmkmaaDoor
