/- Walks of package circ: Cos, Sin. -/
import Derived.Test.YtomdbmjfehoodaaGreatDoorCE
import Derived.WalkMore
import Derived.ScopeJumps
set_option maxRecDepth 8000
namespace Go.Proofs.YtomdbmjfehoodaaGreatDoor
open Go.RowKit
set_option linter.unusedVariables false
theorem one_shift (n : Nat) : dy 1 0 * dy 1 (-(n : Int)) = eps n := by rw [dy_mul]; unfold eps; congr 1; omega
theorem rg_eps (n : Nat) : Rg n 1 (eps n) := rg_unit (by have := eps_pos n; show -1 ≤ eps n; grind) (by show eps n ≤ 1; rw [← eps_zero]; exact eps_mono (by omega))
def intOfV : Value → Int | .int _ q => q | _ => 0
set_option maxRecDepth 100000 in
set_option maxHeartbeats 4000000 in
theorem ccos_any (w : World) (K k v : Int) (Q q n : Nat) (j : Int) (hj : j = (n : Int)) (hK : -1099511627776 ≤ K ∧ K ≤ 1099511627776) (hQ : Q ≤ 40) (hv : tv K Q = v) (hfm : Fm v k q) (hq14 : q ≤ 14) (hn1 : 1 ≤ n) (hn110 : n ≤ 110) (T : Tb w) (P : Pl w) :
    Calls Tryz.prog 14 #[.agg #[.int .i64 K, .int .i64 (Q : Int)], .int .i64 j] w (RetI w (tlo n (cv v).1) (thi n (cv v).1)) := by
  have HR := Lib.hid (fun w' => tright_lit w' K Q true (rightT_iff.2 (by omega)) (by omega) (by omega))
  have HF := Lib.hid (fun w' T' => tform_any w' T' K k Q q hK hQ (by rw [hv]; exact hfm))
  replace T := Lib.hid T
  replace P := Lib.hid P
  have hj1 : 1 ≤ j := by omega
  have hj2 : j ≤ 110 := by omega
  have hj3 : ¬ j < 1 := by omega
  have hj4 : ¬ 400 < j := by omega
  replace hj := Lib.hid hj
  clear hK hQ hv
  go_enter Tryz.func14, Tryz.ntmps14
  go_wp2
  refine wp_scope_jumps 0 (fun a W => ∃ (b : Nat) (bi : Int) (u6 u7 u8 u9 u10 u11 u12 u13 u14 u15 u16 u17 u18 u19 u20 u21 u22 u23 u24 u25 u26 u27 u28 u29 u30 u31 u32 u33 u34 u35 u36 u37 : Value), bi = (b : Int) ∧ 2 ≤ b ∧ b ≤ n + 225 ∧ Ext w W ∧ B2 W w.heap.size (.int .i64 K) (.int .i64 (Q : Int)) ∧ Zi W (w.heap.size + 1) ∧ a = { tmps := #[.agg #[.int .i64 K, .int .i64 (Q : Int)], .int .i64 j, .pointer (some ⟨w.heap.size, 0, none⟩), undef, .pointer (some ⟨w.heap.size + 1, 0, none⟩), .int .i64 bi, u6, u7, u8, u9, u10, u11, u12, u13, u14, u15, u16, u17, u18, u19, u20, u21, u22, u23, u24, u25, u26, u27, u28, u29, u30, u31, u32, u33, u34, u35, u36, u37], defers := [] }) (fun a' _ => (n + 300 : Nat) - (intOfV (a'.tmps.getD 5 undef)).toNat) rfl ?_ ?_
  · go_wp2_with fail
    refine (HR.out _).mono ?_
    rintro _ W ⟨rfl, e0⟩
    have E : Ext w W := (((Ext.refl w).alloc _).alloc _).trans e0
    have Bt : B2 W w.heap.size (.int .i64 K) (.int .i64 (Q : Int)) := B2.at (((Ext.refl _).alloc _).trans e0) rfl
    have Z : Zi W (w.heap.size + 1) := Zi.at e0 (by simp)
    clear e0 HR
    go_upto_region 3 with fail
    obtain ⟨b, hb⟩ : ∃ b, b = n + 16 := ⟨_, rfl⟩
    obtain ⟨bi, hbi⟩ : ∃ bi : Int, bi = (b : Int) := ⟨_, rfl⟩
    have hb2 : 2 ≤ b := by omega
    have hbx : b ≤ n + 225 := by omega
    have hw16 : wrap64 (j + 16) = bi := by have := hj.out; unfold wrap64; omega
    have hw17 : j + 16 = bi := by have := hj.out; omega
    replace hbi := Lib.hid hbi
    go_wp2
    go_step3
    clear hw16 hw17 hb
    obtain ⟨t0, t1⟩ := id Bt
    go_wp2_with fail
    refine (HF.out _ (T.out.ext E)).mono ?_
    rintro _ w1 ⟨rfl, e1⟩
    have E1 := E.trans e1
    replace Bt := Bt.ext e1
    replace Z := Z.ext e1
    clear e1 E t0 t1
    go_wp2_with fail
    have HC : Calls Tryz.prog 43 #[.agg #[.int .i64 k, .int .i64 (q : Int)], .int .i64 bi] w1 (fun e w' => ∃ lo hi, Cs b q lo hi (cv v).1 ∧ RetI w1 lo hi e w') := by
      rw [hbi.out]; exact ccosine_any w1 k q b v hfm hq14 hb2 (by omega) (T.out.ext E1) (P.out.ext E1)
    refine HC.mono ?_
    rintro _ w2 ⟨lo, hi, hcs, v2, rfl, I2, e2⟩
    have E2 := E1.trans e2
    replace Bt := Bt.ext e2
    replace Z := Z.ext e2
    clear e2 E1 HC
    go_wp2_with fail
    refine (outwards_any _ _ lo hi _ n (b + b + 4) 1 hj.out I2 hcs.r1 hcs.r2 (by omega) (by omega) (T.out.ext E2)).mono ?_
    rintro _ w3 ⟨v3, rfl, I3, e3⟩
    obtain ⟨bi_, Ai, ni, ci, ei, bi', Ai', ni', ci', ei', rfl⟩ := I3.form
    have E3 := E2.trans e3
    replace Bt := Bt.ext e3
    replace Z := Z.ext e3
    have l1 := hcs.l
    have l2 := hcs.h
    have l3 := hcs.en.le
    have q1 : Rg n 2 (flo n lo) := flo_rg (P := 0) l1 (by grind)
    have q2 : Rg n 2 (-flo n (-hi)) := (flo_rg (P := 0) (n := n) (d := -hi) (by grind) (by grind)).neg
    obtain ⟨ht1, ht2⟩ := hcs.tells hfm hq14 hn110
    clear e3 E2 I2 l1 l2 l3 hcs
    generalize flo n lo = L at *
    generalize -flo n (-hi) = H at *
    go_wp2_with fail
    have Bi : Bx (w3.alloc (.cells #[.bool bi_, .slice Ai ni ci, .int .i64 ei, .bool bi', .slice Ai' ni' ci', .int .i64 ei'] 33)) w3.heap.size (.bool bi_) (.slice Ai ni ci) (.int .i64 ei) (.bool bi') (.slice Ai' ni' ci') (.int .i64 ei') := Bx.new _ _ _ _ _ _ _ _
    have e4 : Ext w3 (w3.alloc (.cells #[.bool bi_, .slice Ai ni ci, .int .i64 ei, .bool bi', .slice Ai' ni' ci', .int .i64 ei'] 33)) := (Ext.refl _).alloc _
    replace I3 := I3.ext e4
    have E4 := E3.trans e4
    replace Bt := Bt.ext e4
    replace Z := Z.ext e4
    clear e4 E3
    generalize (w3.alloc (.cells #[.bool bi_, .slice Ai ni ci, .int .i64 ei, .bool bi', .slice Ai' ni' ci', .int .i64 ei'] 33)) = w4 at *
    generalize w3.heap.size = gi at *
    refine (iwide_any _ _ L H n 2 I3 q1 q2 (by omega) (T.out.ext E4)).mono ?_
    rintro _ w5 ⟨v5, rfl, d5, e5⟩
    have E5 := E4.trans e5
    replace Bt := Bt.ext e5
    replace Z := Z.ext e5
    replace Bi := Bi.ext e5
    replace I3 := I3.ext e5
    clear e5 E4
    go_wp2_with fail
    refine (ofD_any _ 1 (by omega) (T.out.ext E5)).mono ?_
    rintro _ w6 ⟨v6, rfl, d6, e6⟩
    have E6 := E5.trans e6
    replace Bt := Bt.ext e6
    replace Z := Z.ext e6
    replace Bi := Bi.ext e6
    replace I3 := I3.ext e6
    replace d5 := d5.ext e6
    clear e6 E5
    go_wp2_with fail
    refine (shiftN_any _ _ (dy 1 0) (eps n) _ 1 1 (by rw [hj.out]; exact one_shift n) d6 (rg_one 1) (by omega) (by omega) (T.out.ext E6)).mono ?_
    rintro _ w7 ⟨v7, rfl, d7, e7⟩
    have E7 := E6.trans e7
    replace Bt := Bt.ext e7
    replace Z := Z.ext e7
    replace Bi := Bi.ext e7
    replace I3 := I3.ext e7
    replace d5 := d5.ext e7
    clear e7 E6 d6
    go_wp2_with fail
    obtain ⟨c, hc⟩ : ∃ c, cmpD (H + -L) (eps n) = c := ⟨_, rfl⟩
    have hle : c ≤ 0 ↔ H + -L ≤ eps n := by rw [← hc]; exact cmp_le _ _
    refine (hc ▸ cmpD_any _ _ _ (H + -L) (eps n) n 3 n 1 d5 d7 (q2.add q1.neg) (rg_eps n) (by omega) (by omega)).mono ?_
    rintro _ w8 ⟨rfl, e8⟩
    have E8 := E7.trans e8
    replace Bt := Bt.ext e8
    replace Z := Z.ext e8
    replace Bi := Bi.ext e8
    replace I3 := I3.ext e8
    clear e8 E7 d5 d7 hc
    by_cases hgo : 0 < c
    · have hb3 : ¬ n + 194 ≤ b := fun hbb => by have := hle.2 (ht2 hbb); omega
      have hw32 : wrap64 (bi + 32) = bi + 32 := by have := hbi.out; unfold wrap64; omega
      have HG := Lib.hid (show bi + 32 = ((b + 32 : Nat) : Int) ∧ 2 ≤ b + 32 ∧ b + 32 ≤ n + 225 by have := hbi.out; omega)
      clear ht1 ht2 hle hb3 q1 q2
      go_wp2
      go_step3
      rw [hw32]
      exact ⟨rfl, b + 32, bi + 32, _, _, _, _, _, _, _, _, _, _, _, _, _, _, _, _, _, _, _, _, _, _, _, _, _, _, _, _, _, _, _, _, HG.out.1, HG.out.2.1, HG.out.2.2, E8, Bt, Z, rfl⟩
    · obtain ⟨r1, r2⟩ := ht1 (hle.1 (by omega))
      clear ht1 ht2 hle q1 q2 Bt
      obtain ⟨j0, j1, j2, j3, j4, j5⟩ := id Bi
      have g0 := Z.c0; have g1 := Z.c1; have g2 := Z.c2; have g3 := Z.c3; have g4 := Z.c4; have g5 := Z.c5
      have f0 := Z.f 0; have f1 := Z.f 1; have f2 := Z.f 2; have f3 := Z.f 3; have f4 := Z.f 4; have f5 := Z.f 5
      go_wp2
      obtain ⟨k0, k1, k2, k3, k4, k5, hD⟩ := Z.done I3.lo I3.hi E8 (by omega)
      rw [r1, r2] at hD
      simp only [Exit.jump]
      exact bodyPost_ret (by simp [results, Tryz.results14, go_sem, k0, k1, k2, k3, k4, k5]) rfl hD
  · rintro a W ⟨b, bi, u6, u7, u8, u9, u10, u11, u12, u13, u14, u15, u16, u17, u18, u19, u20, u21, u22, u23, u24, u25, u26, u27, u28, u29, u30, u31, u32, u33, u34, u35, u36, u37, hbi, hb2, hbx, E, Bt, Z, rfl⟩
    replace hbi := Lib.hid hbi
    clear HR
    obtain ⟨t0, t1⟩ := id Bt
    go_wp2_with fail
    refine (HF.out _ (T.out.ext E)).mono ?_
    rintro _ w1 ⟨rfl, e1⟩
    have E1 := E.trans e1
    replace Bt := Bt.ext e1
    replace Z := Z.ext e1
    clear e1 E t0 t1
    go_wp2_with fail
    have HC : Calls Tryz.prog 43 #[.agg #[.int .i64 k, .int .i64 (q : Int)], .int .i64 bi] w1 (fun e w' => ∃ lo hi, Cs b q lo hi (cv v).1 ∧ RetI w1 lo hi e w') := by
      rw [hbi.out]; exact ccosine_any w1 k q b v hfm hq14 hb2 (by omega) (T.out.ext E1) (P.out.ext E1)
    refine HC.mono ?_
    rintro _ w2 ⟨lo, hi, hcs, v2, rfl, I2, e2⟩
    have E2 := E1.trans e2
    replace Bt := Bt.ext e2
    replace Z := Z.ext e2
    clear e2 E1 HC
    go_wp2_with fail
    refine (outwards_any _ _ lo hi _ n (b + b + 4) 1 hj.out I2 hcs.r1 hcs.r2 (by omega) (by omega) (T.out.ext E2)).mono ?_
    rintro _ w3 ⟨v3, rfl, I3, e3⟩
    obtain ⟨bi_, Ai, ni, ci, ei, bi', Ai', ni', ci', ei', rfl⟩ := I3.form
    have E3 := E2.trans e3
    replace Bt := Bt.ext e3
    replace Z := Z.ext e3
    have l1 := hcs.l
    have l2 := hcs.h
    have l3 := hcs.en.le
    have q1 : Rg n 2 (flo n lo) := flo_rg (P := 0) l1 (by grind)
    have q2 : Rg n 2 (-flo n (-hi)) := (flo_rg (P := 0) (n := n) (d := -hi) (by grind) (by grind)).neg
    obtain ⟨ht1, ht2⟩ := hcs.tells hfm hq14 hn110
    clear e3 E2 I2 l1 l2 l3 hcs
    generalize flo n lo = L at *
    generalize -flo n (-hi) = H at *
    go_wp2_with fail
    have Bi : Bx (w3.alloc (.cells #[.bool bi_, .slice Ai ni ci, .int .i64 ei, .bool bi', .slice Ai' ni' ci', .int .i64 ei'] 33)) w3.heap.size (.bool bi_) (.slice Ai ni ci) (.int .i64 ei) (.bool bi') (.slice Ai' ni' ci') (.int .i64 ei') := Bx.new _ _ _ _ _ _ _ _
    have e4 : Ext w3 (w3.alloc (.cells #[.bool bi_, .slice Ai ni ci, .int .i64 ei, .bool bi', .slice Ai' ni' ci', .int .i64 ei'] 33)) := (Ext.refl _).alloc _
    replace I3 := I3.ext e4
    have E4 := E3.trans e4
    replace Bt := Bt.ext e4
    replace Z := Z.ext e4
    clear e4 E3
    generalize (w3.alloc (.cells #[.bool bi_, .slice Ai ni ci, .int .i64 ei, .bool bi', .slice Ai' ni' ci', .int .i64 ei'] 33)) = w4 at *
    generalize w3.heap.size = gi at *
    refine (iwide_any _ _ L H n 2 I3 q1 q2 (by omega) (T.out.ext E4)).mono ?_
    rintro _ w5 ⟨v5, rfl, d5, e5⟩
    have E5 := E4.trans e5
    replace Bt := Bt.ext e5
    replace Z := Z.ext e5
    replace Bi := Bi.ext e5
    replace I3 := I3.ext e5
    clear e5 E4
    go_wp2_with fail
    refine (ofD_any _ 1 (by omega) (T.out.ext E5)).mono ?_
    rintro _ w6 ⟨v6, rfl, d6, e6⟩
    have E6 := E5.trans e6
    replace Bt := Bt.ext e6
    replace Z := Z.ext e6
    replace Bi := Bi.ext e6
    replace I3 := I3.ext e6
    replace d5 := d5.ext e6
    clear e6 E5
    go_wp2_with fail
    refine (shiftN_any _ _ (dy 1 0) (eps n) _ 1 1 (by rw [hj.out]; exact one_shift n) d6 (rg_one 1) (by omega) (by omega) (T.out.ext E6)).mono ?_
    rintro _ w7 ⟨v7, rfl, d7, e7⟩
    have E7 := E6.trans e7
    replace Bt := Bt.ext e7
    replace Z := Z.ext e7
    replace Bi := Bi.ext e7
    replace I3 := I3.ext e7
    replace d5 := d5.ext e7
    clear e7 E6 d6
    go_wp2_with fail
    obtain ⟨c, hc⟩ : ∃ c, cmpD (H + -L) (eps n) = c := ⟨_, rfl⟩
    have hle : c ≤ 0 ↔ H + -L ≤ eps n := by rw [← hc]; exact cmp_le _ _
    refine (hc ▸ cmpD_any _ _ _ (H + -L) (eps n) n 3 n 1 d5 d7 (q2.add q1.neg) (rg_eps n) (by omega) (by omega)).mono ?_
    rintro _ w8 ⟨rfl, e8⟩
    have E8 := E7.trans e8
    replace Bt := Bt.ext e8
    replace Z := Z.ext e8
    replace Bi := Bi.ext e8
    replace I3 := I3.ext e8
    clear e8 E7 d5 d7 hc
    by_cases hgo : 0 < c
    · have hb3 : ¬ n + 194 ≤ b := fun hbb => by have := hle.2 (ht2 hbb); omega
      have hw32 : wrap64 (bi + 32) = bi + 32 := by have := hbi.out; unfold wrap64; omega
      have HG := Lib.hid (show bi + 32 = ((b + 32 : Nat) : Int) ∧ 2 ≤ b + 32 ∧ b + 32 ≤ n + 225 by have := hbi.out; omega)
      clear ht1 ht2 hle hb3 q1 q2
      go_wp2
      go_step3
      rw [hw32]
      exact ⟨rfl, ⟨b + 32, bi + 32, _, _, _, _, _, _, _, _, _, _, _, _, _, _, _, _, _, _, _, _, _, _, _, _, _, _, _, _, _, _, _, _, HG.out.1, HG.out.2.1, HG.out.2.2, E8, Bt, Z, rfl⟩, by have := HG.out; have := hbi.out; simp [intOfV]; omega⟩
    · obtain ⟨r1, r2⟩ := ht1 (hle.1 (by omega))
      clear ht1 ht2 hle q1 q2 Bt
      obtain ⟨j0, j1, j2, j3, j4, j5⟩ := id Bi
      have g0 := Z.c0; have g1 := Z.c1; have g2 := Z.c2; have g3 := Z.c3; have g4 := Z.c4; have g5 := Z.c5
      have f0 := Z.f 0; have f1 := Z.f 1; have f2 := Z.f 2; have f3 := Z.f 3; have f4 := Z.f 4; have f5 := Z.f 5
      go_wp2
      obtain ⟨k0, k1, k2, k3, k4, k5, hD⟩ := Z.done I3.lo I3.hi E8 (by omega)
      rw [r1, r2] at hD
      simp only [Exit.jump]
      exact bodyPost_ret (by simp [results, Tryz.results14, go_sem, k0, k1, k2, k3, k4, k5]) rfl hD
set_option maxRecDepth 8000 in
set_option maxHeartbeats 2000000 in
theorem csin_any (w : World) (K k v : Int) (Q q n : Nat) (j : Int) (hj : j = (n : Int)) (hK : -1099511627776 ≤ K ∧ K ≤ 1099511627776) (hQ : Q ≤ 40) (hv : (tv K Q - 274877906944) % 1099511627776 = v) (hfm : Fm v k q) (hq14 : q ≤ 14) (hn1 : 1 ≤ n) (hn110 : n ≤ 110) (T : Tb w) (P : Pl w) :
    Calls Tryz.prog 16 #[.agg #[.int .i64 K, .int .i64 (Q : Int)], .int .i64 j] w (RetI w (tlo n (cv v).1) (thi n (cv v).1)) := by
  have ht : tv (-1) 2 = 824633720832 := by decide
  have HA := Lib.hid (fun w' T' => tadd_any w' T' K (-1) k Q 2 q hK (by omega) hQ (by omega) (by rw [ht, show (tv K Q + 824633720832) % 1099511627776 = v by omega]; exact hfm))
  have hlow := hfm.low
  have hp := p2_le hlow.2.2.1
  rw [p2_40] at hp
  have HC := Lib.hid (fun w' T' P' => ccos_any w' k k v q q n j hj (by omega) (by omega) hfm.tv hfm hq14 hn1 hn110 T' P')
  clear hlow hp ht hfm hj hv
  replace T := Lib.hid T
  replace P := Lib.hid P
  go_enter Tryz.func16, Tryz.ntmps16
  go_wp2_with fail
  refine (HA.out _ (T.out.ext (((Ext.refl w).alloc _).alloc _))).mono ?_
  rintro _ w1 ⟨rfl, e1⟩
  have E1 : Ext w w1 := (((Ext.refl w).alloc _).alloc _).trans e1
  have Z : Zi w1 (w.heap.size + 1) := Zi.at e1 (by simp)
  clear e1
  go_wp2_with fail
  refine (HC.out _ (T.out.ext E1) (P.out.ext E1)).mono ?_
  rintro _ w2 ⟨v2, rfl, I, e2⟩
  obtain ⟨b, A, m, c, e, b', A', m', c', e', rfl⟩ := I.form
  replace Z := Z.ext e2
  have E2 := E1.trans e2
  have g0 := Z.c0; have g1 := Z.c1; have g2 := Z.c2; have g3 := Z.c3; have g4 := Z.c4; have g5 := Z.c5
  have f0 := Z.f 0; have f1 := Z.f 1; have f2 := Z.f 2; have f3 := Z.f 3; have f4 := Z.f 4; have f5 := Z.f 5
  go_wp2
  obtain ⟨k0, k1, k2, k3, k4, k5, hD⟩ := Z.done I.lo I.hi E2 (by omega)
  exact bodyPost_ret (by simp [results, Tryz.results16, go_sem, k0, k1, k2, k3, k4, k5]) rfl hD
end Go.Proofs.YtomdbmjfehoodaaGreatDoor
