/- The walk of IvlRoot. -/
import Derived.Test.YtimdglgianheiaaDoorPE
namespace Go.Proofs.YtimdglgianheiaaDoor
open Go.RowKit
set_option linter.unusedVariables false
theorem cmpX_l {x y : Dyadic} (h : x < y) : cmpD x y = -1 := by unfold cmpD; rw [if_pos h]
theorem cmpX_g {x y : Dyadic} (h : y < x) : cmpD x y = 1 := by unfold cmpD; rw [if_neg (by grind), if_neg (by grind)]
theorem rcmpx_lit (w : World) (va vb : Value) (x y : Dyadic) (P Q : Nat) (r : Int) (h : cmpD x y = r) (ha : Dn w va x) (hb : Dn w vb y) (hx : Rg P Q x) (hy : Rg P Q y) (h1 : P + Q ≤ 7200) : Calls Tryd.prog 30 #[va, vb] w (RetE w (.int .i64 r)) := by
  subst h; exact rcmpD_any w va vb x y P Q ha hb hx hy h1
theorem rlenx_lit (w : World) (M : Value) (m : Nat) (B : Int) (hB : ((bl m : Nat) : Int) = B) (h : N w M m) (hm : Lt 400 m) : Calls Tryd.prog 29 #[M] w (RetE w (.int .i64 B)) := by
  subst hB
  refine (rlen_any w M m h hm).mono ?_
  rintro _ _ ⟨rfl, rfl⟩
  exact ⟨rfl, Ext.refl _⟩
theorem Dn.cells {w : World} {b : Bool} {A : Option Addr} {l c : Nat} {j : Int} {d : Dyadic} (h : Dn w (.agg #[.bool b, .slice A l c, .int .i64 j]) d) : ∃ z, d = dy z j ∧ Canon z j ∧ N w (.slice A l c) z.natAbs := by
  obtain ⟨M, z, e, hv, hN, hc, hd⟩ := h
  simp only [Value.agg.injEq, Array.mk.injEq, List.cons.injEq, and_true, Value.int.injEq, true_and] at hv
  obtain ⟨_, rfl, rfl⟩ := hv
  exact ⟨z, hd, hc, hN⟩
theorem lit_nextx (w : World) (o : Obj) (x e z : Int) (neg : Bool) (t : TypeId) (h0 : 0 < x) (h1 : x < 16777216) (h2 : x % 2 = 1) (hz : z = sg neg x.toNat) : Dn (((w.alloc o).alloc (.cells #[.int .i64 x] t)).drew) (.agg #[.bool neg, .slice (some ⟨w.heap.size + 1, 0, none⟩) 1 1, .int .i64 e]) (dy z e) := by
  have h := lit_dn (w.alloc o) x e z neg t h0 h1 h2 hz
  rw [World.size_alloc] at h
  exact h.ext (Ext.refl _).drew
theorem dy_one_pos (e : Int) : 0 < dy 1 e := by rw [← dy_zero e, dy_lt]; omega
/-- The root of a number above 0 is above 0. -/
theorem Rlo.pos {k : Nat} {x r : Dyadic} (h : Rlo k x r) (g : Rg 200 392 x) (hx : 0 < x) : 0 < r := by
  obtain ⟨X, rfl, _, _⟩ := g.out
  have h1 : 0 < X := by rw [← dy_zero (-(200 : Nat) : Int), dy_lt] at hx; exact hx
  have h2 : dy 1 (-200) * dy 1 (-200) ≤ dy X (-(200 : Nat) : Int) := by
    rw [dy_mul, show (-(200 : Nat) : Int) = (-200 + -200) + (200 : Nat) by omega, ← dy_up, dy_le]
    have := pow2_pos 200
    have := Int.mul_le_mul_of_nonneg_right (show (1 : Int) ≤ X by omega) (Int.le_of_lt this)
    omega
  have h3 := h.most (dy 1 (-200)) ⟨1, -200, rfl, Nat.one_le_two_pow⟩ (by have := dy_one_pos (-200); grind) h2
  have := dy_one_pos (-200)
  grind
/-- No number of so few bits next to a root has a square that is at most x. -/
theorem Rlo.next {k : Nat} {x : Dyadic} {z e : Int} (h : Rlo k x (dy z e)) (hc : Canon z e) (hz : 0 < z) (hk : 1 ≤ k) : x < (dy z e + dy 1 (e + ((bl z.natAbs : Nat) : Int) - (k : Int))) * (dy z e + dy 1 (e + ((bl z.natAbs : Nat) : Int) - (k : Int))) := by
  have hb := h.few.len hc hk
  have hl := bl_lt z.natAbs
  obtain ⟨B, hB⟩ : ∃ B, bl z.natAbs = B := ⟨_, rfl⟩
  rw [hB] at hb hl ⊢
  obtain ⟨j, rfl⟩ : ∃ j, k = B + j := ⟨k - B, by omega⟩
  have e1 : dy z e = dy (z * 2 ^ j) (e + (B : Int) - ((B + j : Nat) : Int)) := by rw [dy_up]; congr 1; omega
  have e2 : dy z e + dy 1 (e + (B : Int) - ((B + j : Nat) : Int)) = dy (z * 2 ^ j + 1) (e + (B : Int) - ((B + j : Nat) : Int)) := by rw [e1, dy_add]
  have hpos := dy_one_pos (e + (B : Int) - ((B + j : Nat) : Int))
  have hm : (z * 2 ^ j).natAbs < 2 ^ (B + j) := by
    rw [Int.natAbs_mul, Int.natAbs_pow, Nat.pow_add]
    exact Nat.mul_lt_mul_of_pos_right hl (Nat.two_pow_pos j)
  have hn : 0 ≤ z * 2 ^ j := Int.mul_nonneg (by omega) (Int.le_of_lt (pow2_pos j))
  have few : Few (B + j) (dy z e + dy 1 (e + (B : Int) - ((B + j : Nat) : Int))) := ⟨_, _, e2, by omega⟩
  have nn := h.nn
  rcases Std.le_total (a := (dy z e + dy 1 (e + (B : Int) - ((B + j : Nat) : Int))) * (dy z e + dy 1 (e + (B : Int) - ((B + j : Nat) : Int)))) (b := x) with t | t
  · have := h.most _ few (by grind) t
    grind
  · by_cases hx : x = (dy z e + dy 1 (e + (B : Int) - ((B + j : Nat) : Int))) * (dy z e + dy 1 (e + (B : Int) - ((B + j : Nat) : Int)))
    · have := h.most _ few (by grind) (by rw [← hx]; exact Std.le_refl _)
      grind
    · grind
set_option maxRecDepth 100000 in
set_option maxHeartbeats 4000000 in
theorem root_no (w : World) (T : Tb w) (nba : Bool) (Ma : Value) (xa : List Int) (ia : Int) (rowa : Row w Ma xa) (bda : -9223372036854775808 ≤ ia ∧ ia ≤ 9223372036854775807) (nba' : Bool) (Ma' : Value) (xa' : List Int) (ia' : Int) (rowa' : Row w Ma' xa') (bda' : -9223372036854775808 ≤ ia' ∧ ia' ≤ 9223372036854775807) (n : Int) (bn : 0 ≤ n ∧ n ≤ 255) (hg : goodIs 1 (pk nba nba nba) (pk xa xa xa) (pk ia ia ia) (pk nba' nba' nba') (pk xa' xa' xa') (pk ia' ia' ia') = false) :
    Calls Tryd.prog 6 #[.agg #[.bool nba, Ma, .int .i64 ia, .bool nba', Ma', .int .i64 ia'], .int .u8 n] w (RetE w (.bool true)) := by
  go_enter Tryd.func6, Tryd.ntmps6
  go_wp2_with fail
  refine (headI_any _ (T.ext ((Ext.refl w).alloc _))).mono ?_
  rintro _ w1 ⟨rfl, f1⟩
  have Ba : Bx w1 (w.heap.size) (.bool nba) (Ma) (.int .i64 ia) (.bool nba') (Ma') (.int .i64 ia') := Bx.at ((Ext.refl _).trans f1) (by simp)
  have e1 : Ext w w1 := ((Ext.refl w).alloc _).trans f1
  replace T := T.ext e1
  replace rowa := rowa.ext e1
  replace rowa' := rowa'.ext e1
  have E1 : Ext w w1 := e1
  clear f1
  obtain ⟨Ba_0, Ba_1, Ba_2, Ba_3, Ba_4, Ba_5⟩ := id Ba
  have Ba_l := World.block_lt_of_cell? _ _ Ba_0
  have HG := Lib.hid (good5_any _ _ 1 1 _ _ _ _ _ _ _ _ (by omega) (manyI1 w1 26 nba Ma xa ia rowa bda nba' Ma' xa' ia' rowa' bda'))
  rw [hg] at HG
  clear hg
  go_wp2_with fail
  refine (HG.out).mono ?_
  rintro _ w2 ⟨rfl, f2⟩
  clear Ba_0 Ba_1 Ba_2 Ba_3 Ba_4 Ba_5 Ba_l
  have e2 : Ext w1 w2 := ((Ext.refl w1).alloc _).trans f2
  replace T := T.ext e2
  replace rowa := rowa.ext e2
  replace rowa' := rowa'.ext e2
  replace Ba := Ba.ext e2
  have E2 : Ext w w2 := E1.trans e2
  clear e2 f2 E1
  clear HG
  go_wp2
  go_ret
  exact ⟨rfl, E2⟩
set_option maxRecDepth 100000 in
set_option maxHeartbeats 4000000 in
theorem root_neg (w : World) (T : Tb w) (nba : Bool) (Ma : Value) (xa : List Int) (ia : Int) (rowa : Row w Ma xa) (bda : -9223372036854775808 ≤ ia ∧ ia ≤ 9223372036854775807) (nba' : Bool) (Ma' : Value) (xa' : List Int) (ia' : Int) (rowa' : Row w Ma' xa') (bda' : -9223372036854775808 ≤ ia' ∧ ia' ≤ 9223372036854775807) (n : Int) (bn : 0 ≤ n ∧ n ≤ 255) (hg : goodIs 1 (pk nba nba nba) (pk xa xa xa) (pk ia ia ia) (pk nba' nba' nba') (pk xa' xa' xa') (pk ia' ia' ia') = true) (la ha : Dyadic) (na : In w (.agg #[.bool nba, Ma, .int .i64 ia, .bool nba', Ma', .int .i64 ia']) la ha) (oa : la ≤ ha) (rla : Rg 200 392 la) (rha : Rg 200 392 ha) (k : Nat) (hkk : n % 60 + 1 = (k : Int)) (hk1 : 1 ≤ k) (hk2 : k ≤ 60) (za : la < 0) :
    Calls Tryd.prog 6 #[.agg #[.bool nba, Ma, .int .i64 ia, .bool nba', Ma', .int .i64 ia'], .int .u8 n] w (RetE w (.bool true)) := by
  go_enter Tryd.func6, Tryd.ntmps6
  go_wp2_with fail
  refine (headI_any _ (T.ext ((Ext.refl w).alloc _))).mono ?_
  rintro _ w1 ⟨rfl, f1⟩
  have Ba : Bx w1 (w.heap.size) (.bool nba) (Ma) (.int .i64 ia) (.bool nba') (Ma') (.int .i64 ia') := Bx.at ((Ext.refl _).trans f1) (by simp)
  have e1 : Ext w w1 := ((Ext.refl w).alloc _).trans f1
  replace T := T.ext e1
  replace rowa := rowa.ext e1
  replace rowa' := rowa'.ext e1
  replace na := na.ext e1
  have E1 : Ext w w1 := e1
  clear f1
  obtain ⟨Ba_0, Ba_1, Ba_2, Ba_3, Ba_4, Ba_5⟩ := id Ba
  have Ba_l := World.block_lt_of_cell? _ _ Ba_0
  have HG := Lib.hid (good5_any _ _ 1 1 _ _ _ _ _ _ _ _ (by omega) (manyI1 w1 26 nba Ma xa ia rowa bda nba' Ma' xa' ia' rowa' bda'))
  rw [hg] at HG
  clear hg
  go_wp2_with fail
  refine (HG.out).mono ?_
  rintro _ w2 ⟨rfl, f2⟩
  clear Ba_0 Ba_1 Ba_2 Ba_3 Ba_4 Ba_5 Ba_l
  have e2 : Ext w1 w2 := ((Ext.refl w1).alloc _).trans f2
  replace T := T.ext e2
  replace rowa := rowa.ext e2
  replace rowa' := rowa'.ext e2
  replace na := na.ext e2
  replace Ba := Ba.ext e2
  have E2 : Ext w w2 := E1.trans e2
  clear e2 f2 E1
  clear HG
  clear rowa rowa'
  clear bda bda'
  have HQ := Lib.hid (And.intro (cmpX_l za) (decide_eq_true (Std.le_refl (0 : Dyadic))))
  obtain ⟨Ba_0, Ba_1, Ba_2, Ba_3, Ba_4, Ba_5⟩ := id Ba
  have Ba_l := World.block_lt_of_cell? _ _ Ba_0
  go_wp2_with fail
  refine (iroot_no _ _ la ha _ k (by first | rfl | omega) na za).mono ?_
  rintro _ w3 ⟨v3, rfl, ir, f3⟩
  clear Ba_0 Ba_1 Ba_2 Ba_3 Ba_4 Ba_5 Ba_l
  have e3 : Ext w2 w3 := (Ext.refl w2).trans f3
  replace T := T.ext e3
  replace na := na.ext e3
  replace Ba := Ba.ext e3
  have E3 : Ext w w3 := E2.trans e3
  clear e3 f3 E2
  obtain ⟨bir, Air, lir, cir, jir, bir', Air', lir', cir', jir', rfl, ir_l, ir_h⟩ := ir
  have ir := In.mk ir_l ir_h
  clear ir_l ir_h
  obtain ⟨Ba_0, Ba_1, Ba_2, Ba_3, Ba_4, Ba_5⟩ := id Ba
  have Ba_l := World.block_lt_of_cell? _ _ Ba_0
  go_wp2_with fail
  refine (rsign_lit _ _ la (-1) HQ.out.1 (na.ext ((Ext.refl w3).alloc _)).lo).mono ?_
  rintro _ w4 ⟨rfl, f4⟩
  clear Ba_0 Ba_1 Ba_2 Ba_3 Ba_4 Ba_5 Ba_l
  have Vir : Bx w4 (w3.heap.size) (.bool bir) (.slice Air lir cir) (.int .i64 jir) (.bool bir') (.slice Air' lir' cir') (.int .i64 jir') := Bx.at ((Ext.refl _).trans f4) (by simp)
  have e4 : Ext w3 w4 := ((Ext.refl w3).alloc _).trans f4
  replace T := T.ext e4
  replace na := na.ext e4
  replace ir := ir.ext e4
  replace Ba := Ba.ext e4
  have E4 : Ext w w4 := E3.trans e4
  clear e4 f4 E3
  obtain ⟨Vir_0, Vir_1, Vir_2, Vir_3, Vir_4, Vir_5⟩ := id Vir
  have Vir_l := World.block_lt_of_cell? _ _ Vir_0
  go_wp2_with fail
  refine (riright_lit _ _ 0 0 260 1046 true HQ.out.2 ir (rg_zero _ _) (rg_zero _ _) (by omega)).mono ?_
  rintro _ w5 ⟨rfl, f5⟩
  clear Vir_0 Vir_1 Vir_2 Vir_3 Vir_4 Vir_5 Vir_l
  have e5 : Ext w4 w5 := (Ext.refl w4).trans f5
  replace T := T.ext e5
  replace na := na.ext e5
  replace ir := ir.ext e5
  replace Ba := Ba.ext e5
  replace Vir := Vir.ext e5
  have E5 : Ext w w5 := E4.trans e5
  clear e5 f5 E4
  obtain ⟨Vir_0, Vir_1, Vir_2, Vir_3, Vir_4, Vir_5⟩ := id Vir
  have Vir_l := World.block_lt_of_cell? _ _ Vir_0
  go_wp2_with fail
  refine (risame_eq _ _ _ 0 0 0 0 ir (In.zero _) rfl rfl).mono ?_
  rintro _ w6 ⟨rfl, f6⟩
  clear Vir_0 Vir_1 Vir_2 Vir_3 Vir_4 Vir_5 Vir_l
  have e6 : Ext w5 w6 := (Ext.refl w5).trans f6
  replace T := T.ext e6
  replace na := na.ext e6
  replace ir := ir.ext e6
  replace Ba := Ba.ext e6
  replace Vir := Vir.ext e6
  have E6 : Ext w w6 := E5.trans e6
  clear e6 f6 E5
  go_wp2
  go_ret
  exact ⟨rfl, E6⟩
set_option maxRecDepth 100000 in
set_option maxHeartbeats 4000000 in
theorem root_zero (w : World) (T : Tb w) (nba : Bool) (Ma : Value) (xa : List Int) (ia : Int) (rowa : Row w Ma xa) (bda : -9223372036854775808 ≤ ia ∧ ia ≤ 9223372036854775807) (nba' : Bool) (Ma' : Value) (xa' : List Int) (ia' : Int) (rowa' : Row w Ma' xa') (bda' : -9223372036854775808 ≤ ia' ∧ ia' ≤ 9223372036854775807) (n : Int) (bn : 0 ≤ n ∧ n ≤ 255) (hg : goodIs 1 (pk nba nba nba) (pk xa xa xa) (pk ia ia ia) (pk nba' nba' nba') (pk xa' xa' xa') (pk ia' ia' ia') = true) (la ha : Dyadic) (na : In w (.agg #[.bool nba, Ma, .int .i64 ia, .bool nba', Ma', .int .i64 ia']) la ha) (oa : la ≤ ha) (rla : Rg 200 392 la) (rha : Rg 200 392 ha) (k : Nat) (hkk : n % 60 + 1 = (k : Int)) (hk1 : 1 ≤ k) (hk2 : k ≤ 60) (za : la = 0) :
    Calls Tryd.prog 6 #[.agg #[.bool nba, Ma, .int .i64 ia, .bool nba', Ma', .int .i64 ia'], .int .u8 n] w (RetE w (.bool true)) := by
  go_enter Tryd.func6, Tryd.ntmps6
  go_wp2_with fail
  refine (headI_any _ (T.ext ((Ext.refl w).alloc _))).mono ?_
  rintro _ w1 ⟨rfl, f1⟩
  have Ba : Bx w1 (w.heap.size) (.bool nba) (Ma) (.int .i64 ia) (.bool nba') (Ma') (.int .i64 ia') := Bx.at ((Ext.refl _).trans f1) (by simp)
  have e1 : Ext w w1 := ((Ext.refl w).alloc _).trans f1
  replace T := T.ext e1
  replace rowa := rowa.ext e1
  replace rowa' := rowa'.ext e1
  replace na := na.ext e1
  have E1 : Ext w w1 := e1
  clear f1
  obtain ⟨Ba_0, Ba_1, Ba_2, Ba_3, Ba_4, Ba_5⟩ := id Ba
  have Ba_l := World.block_lt_of_cell? _ _ Ba_0
  have HG := Lib.hid (good5_any _ _ 1 1 _ _ _ _ _ _ _ _ (by omega) (manyI1 w1 26 nba Ma xa ia rowa bda nba' Ma' xa' ia' rowa' bda'))
  rw [hg] at HG
  clear hg
  go_wp2_with fail
  refine (HG.out).mono ?_
  rintro _ w2 ⟨rfl, f2⟩
  clear Ba_0 Ba_1 Ba_2 Ba_3 Ba_4 Ba_5 Ba_l
  have e2 : Ext w1 w2 := ((Ext.refl w1).alloc _).trans f2
  replace T := T.ext e2
  replace rowa := rowa.ext e2
  replace rowa' := rowa'.ext e2
  replace na := na.ext e2
  replace Ba := Ba.ext e2
  have E2 : Ext w w2 := E1.trans e2
  clear e2 f2 E1
  clear HG
  clear rowa rowa'
  clear bda bda'
  have zn : 0 ≤ la := by grind
  have ya : 0 ≤ ha := by grind
  obtain ⟨a1, a2, a3, a4⟩ := root_rg zn rla hk1 hk2
  obtain ⟨a5, a6, a7, a8⟩ := root_rg ya rha hk1 hk2
  have ta := a1.hi a6 oa
  obtain ⟨Ba_0, Ba_1, Ba_2, Ba_3, Ba_4, Ba_5⟩ := id Ba
  have Ba_l := World.block_lt_of_cell? _ _ Ba_0
  go_wp2_with fail
  refine (iroot_yes _ _ la ha _ k 200 392 (by first | rfl | omega) na zn ya rla rha (by omega) hk1 (by omega) T).mono ?_
  rintro _ w3 ⟨v3, rfl, ir, f3⟩
  clear Ba_0 Ba_1 Ba_2 Ba_3 Ba_4 Ba_5 Ba_l
  have e3 : Ext w2 w3 := (Ext.refl w2).trans f3
  replace T := T.ext e3
  replace na := na.ext e3
  replace Ba := Ba.ext e3
  have E3 : Ext w w3 := E2.trans e3
  clear e3 f3 E2
  obtain ⟨bir, Air, lir, cir, jir, bir', Air', lir', cir', jir', rfl, ir_l, ir_h⟩ := ir
  generalize rlo k la = L at *
  generalize rhi k ha = H at *
  clear a2 a4 a5 a7
  obtain ⟨zl, hzl, cl_, NL⟩ := ir_l.cells
  obtain ⟨zh, hzh, ch_, NH⟩ := ir_h.cells
  have b1 := Few.len (hzl ▸ a1.few) cl_ hk1
  have b2 := Few.len (hzh ▸ a6.few) ch_ hk1
  have t1 : Lt 400 zl.natAbs := Lt.of_bits (Nat.le_trans b1 (by omega))
  have t2 : Lt 400 zh.natAbs := Lt.of_bits (Nat.le_trans b2 (by omega))
  obtain ⟨c1, q1⟩ : ∃ c, cmpD (L * L) la = c := ⟨_, rfl⟩
  obtain ⟨c2, q2⟩ : ∃ c, cmpD (H * H) ha = c := ⟨_, rfl⟩
  have n1 : ¬ 0 < c1 := by have := (cmp_le (L * L) la).2 a1.le; omega
  have n2 : ¬ c2 < 0 := by intro h; rw [← q2] at h; have := (cmp_lt (H * H) ha).1 h; have := a6.ge; grind
  have l0 : L = 0 := (za ▸ a1).uniq (Rlo.zero k)
  have q3 : cmpD L 0 = 0 := by rw [l0]; rfl
  have q4 : cmpD la 0 = 0 := by rw [za]; rfl
  obtain ⟨B1, g1⟩ : ∃ B : Int, ((bl zl.natAbs : Nat) : Int) = B := ⟨_, rfl⟩
  obtain ⟨B2, g2⟩ : ∃ B : Int, ((bl zh.natAbs : Nat) : Int) = B := ⟨_, rfl⟩
  have k1 : ¬ (k : Int) < B1 := by omega
  have k2 : ¬ (k : Int) < B2 := by omega
  have HQ := Lib.hid (And.intro q1 (And.intro q2 (And.intro q3 (And.intro q4 (And.intro g1 (And.intro g2 (decide_eq_true ta)))))))
  have r1 := a3.mul a3
  have r2 := a8.mul a8
  have rla1 : Rg 520 2092 la := rla.mono (by omega) (by omega)
  have rha1 : Rg 520 2092 ha := rha.mono (by omega) (by omega)
  clear q1 q2 q3 q4 g1 g2 ta a1 a6 b1 b2 hzl hzh cl_ ch_ zn ya oa za l0
  have ir := In.mk ir_l ir_h
  clear ir_l ir_h
  obtain ⟨Ba_0, Ba_1, Ba_2, Ba_3, Ba_4, Ba_5⟩ := id Ba
  have Ba_l := World.block_lt_of_cell? _ _ Ba_0
  go_wp2_with fail
  refine (rsign_lit _ _ la 0 (HQ.out.2.2.2.1) (na.ext ((Ext.refl w3).alloc _)).lo).mono ?_
  rintro _ w4 ⟨rfl, f4⟩
  clear Ba_0 Ba_1 Ba_2 Ba_3 Ba_4 Ba_5 Ba_l
  have Vir : Bx w4 (w3.heap.size) (.bool bir) (.slice Air lir cir) (.int .i64 jir) (.bool bir') (.slice Air' lir' cir') (.int .i64 jir') := Bx.at ((Ext.refl _).trans f4) (by simp)
  have e4 : Ext w3 w4 := ((Ext.refl w3).alloc _).trans f4
  replace T := T.ext e4
  replace na := na.ext e4
  replace ir := ir.ext e4
  replace NL := NL.ext e4
  replace NH := NH.ext e4
  replace Ba := Ba.ext e4
  have E4 : Ext w w4 := E3.trans e4
  clear e4 f4 E3
  obtain ⟨Vir_0, Vir_1, Vir_2, Vir_3, Vir_4, Vir_5⟩ := id Vir
  have Vir_l := World.block_lt_of_cell? _ _ Vir_0
  go_wp2_with fail
  refine (riright_lit _ _ L H 260 1046 true (HQ.out.2.2.2.2.2.2) ir a3 a8 (by omega)).mono ?_
  rintro _ w5 ⟨rfl, f5⟩
  clear Vir_0 Vir_1 Vir_2 Vir_3 Vir_4 Vir_5 Vir_l
  have e5 : Ext w4 w5 := (Ext.refl w4).trans f5
  replace T := T.ext e5
  replace na := na.ext e5
  replace ir := ir.ext e5
  replace NL := NL.ext e5
  replace NH := NH.ext e5
  replace Ba := Ba.ext e5
  replace Vir := Vir.ext e5
  have E5 : Ext w w5 := E4.trans e5
  clear e5 f5 E4
  go_wp2
  try simp only [List.append_eq, List.cons_append, List.nil_append]
  obtain ⟨Ba_0, Ba_1, Ba_2, Ba_3, Ba_4, Ba_5⟩ := id Ba
  have Ba_l := World.block_lt_of_cell? _ _ Ba_0
  obtain ⟨Vir_0, Vir_1, Vir_2, Vir_3, Vir_4, Vir_5⟩ := id Vir
  have Vir_l := World.block_lt_of_cell? _ _ Vir_0
  have d1 : decide ((k : Int) < B1) = false := decide_eq_false (by omega)
  have d2 : decide ((k : Int) < B2) = false := decide_eq_false (by omega)
  have d3 : decide (0 < c1) = false := decide_eq_false (by omega)
  have d4 : decide (c2 < 0) = false := decide_eq_false (by omega)
  refine wp_region_held_drew (S := (fun w' => (w'.cell? ⟨w.heap.size, 0, none⟩ = some (.bool nba) ∧ w'.cell? ⟨w.heap.size, 1, none⟩ = some (Ma) ∧ w'.cell? ⟨w.heap.size, 2, none⟩ = some (.int .i64 ia) ∧ w'.cell? ⟨w.heap.size, 3, none⟩ = some (.bool nba') ∧ w'.cell? ⟨w.heap.size, 4, none⟩ = some (Ma') ∧ w'.cell? ⟨w.heap.size, 5, none⟩ = some (.int .i64 ia')) ∧ (w'.cell? ⟨w3.heap.size, 0, none⟩ = some (.bool bir) ∧ w'.cell? ⟨w3.heap.size, 1, none⟩ = some (.slice Air lir cir) ∧ w'.cell? ⟨w3.heap.size, 2, none⟩ = some (.int .i64 jir) ∧ w'.cell? ⟨w3.heap.size, 3, none⟩ = some (.bool bir') ∧ w'.cell? ⟨w3.heap.size, 4, none⟩ = some (.slice Air' lir' cir') ∧ w'.cell? ⟨w3.heap.size, 5, none⟩ = some (.int .i64 jir')))) (by as_aux_lemma => kernel_rfl) ⟨bx6 (Ba.ext (Ext.refl w5).drew), bx6 (Vir.ext (Ext.refl w5).drew)⟩ (fun hHeld => ?_)
  refine wpAnyH_take (i := 0) (v := ?_) rfl (by as_aux_lemma => kernel_rfl) (by as_aux_lemma => kernel_rfl) (by as_aux_lemma => kernel_rfl) (fun _ _ _ h => h) (Or.inl ⟨by rfl, ?_⟩) (by assumption) ?_
  rotate_left
  · (intro w hSw; (try dsimp only at hSw); go_simp); (try with_reducible rfl)
  simp only [List.getElem_toArray, List.getElem_cons_zero, Act.put, List.setIfInBounds_toArray, List.set_cons_zero, List.set_cons_succ]
  refine wpAnyH_take (i := 4) (v := ?_) rfl (by as_aux_lemma => kernel_rfl) (by as_aux_lemma => kernel_rfl) (by as_aux_lemma => kernel_rfl) (fun _ _ _ h => h) (Or.inl ⟨by rfl, ?_⟩) (by assumption) ?_
  rotate_left
  · (intro w hSw; (try dsimp only at hSw); go_simp); (try with_reducible rfl)
  simp only [List.getElem_toArray, List.getElem_cons_zero, List.getElem_cons_succ, Act.put, List.setIfInBounds_toArray, List.set_cons_zero, List.set_cons_succ]
  refine wpAnyH_take (i := 1) (v := ?_) rfl (by as_aux_lemma => kernel_rfl) (by as_aux_lemma => kernel_rfl) (by as_aux_lemma => kernel_rfl) (fun _ _ _ h => h) (Or.inl ⟨by rfl, ?_⟩) (by assumption) ?_
  rotate_left
  · (intro w hSw; (try dsimp only at hSw); go_simp); (try with_reducible rfl)
  simp only [List.getElem_toArray, List.getElem_cons_zero, List.getElem_cons_succ, Act.put, List.setIfInBounds_toArray, List.set_cons_zero, List.set_cons_succ]
  refine wpAnyH_take (i := 2) (v := ?_) rfl (by as_aux_lemma => kernel_rfl) (by as_aux_lemma => kernel_rfl) (by as_aux_lemma => kernel_rfl) (fun _ _ _ h => h) (Or.inl ⟨by rfl, ?_⟩) (by assumption) ?_
  rotate_left
  · (intro w hSw; (try dsimp only at hSw); go_simp); (try with_reducible rfl)
  simp only [List.getElem_toArray, List.getElem_cons_zero, List.getElem_cons_succ, Act.put, List.setIfInBounds_toArray, List.set_cons_zero, List.set_cons_succ]
  refine wpAnyH_ready (rs := [3]) (by as_aux_lemma => kernel_rfl) (by simp) ?_
  refine AllReadyH.cons rfl (fun K hK => ?_) AllReadyH.nil
  go_simp
  refine (rlenx_lit _ _ _ B1 (HQ.out.2.2.2.2.1) (NL.ext (Ext.refl w5).drew) t1).mono ?_
  rintro _ u1 ⟨rfl, eu1⟩
  have F1 : Ext w5 u1 := (Ext.refl w5).drew.trans eu1
  refine hK.out _ _ ⟨bx6 (Ba.ext F1), bx6 (Vir.ext F1)⟩ (fun hHeld => ?_)
  clear hK K eu1
  refine wpAnyH_take (i := 5) (v := ?_) rfl (by as_aux_lemma => kernel_rfl) (by as_aux_lemma => kernel_rfl) (by as_aux_lemma => kernel_rfl) (fun _ _ _ h => h) (Or.inl ⟨by rfl, ?_⟩) (by assumption) ?_
  rotate_left
  · (intro w hSw; (try dsimp only at hSw); go_simp); (try with_reducible rfl)
  simp only [List.getElem_toArray, List.getElem_cons_zero, List.getElem_cons_succ, Act.put, List.setIfInBounds_toArray, List.set_cons_zero, List.set_cons_succ]
  refine wpAnyH_take (i := 6) (v := ?_) rfl (by as_aux_lemma => kernel_rfl) (by as_aux_lemma => kernel_rfl) (by as_aux_lemma => kernel_rfl) (fun _ _ _ h => h) (Or.inl ⟨by rfl, ?_⟩) (by assumption) ?_
  rotate_left
  · (intro w hSw; (try dsimp only at hSw); go_simp); (try with_reducible rfl)
  simp only [List.getElem_toArray, List.getElem_cons_zero, List.getElem_cons_succ, Act.put, List.setIfInBounds_toArray, List.set_cons_zero, List.set_cons_succ]
  refine wpAnyH_take (i := 7) (v := ?_) rfl (by as_aux_lemma => kernel_rfl) (by as_aux_lemma => kernel_rfl) (by as_aux_lemma => kernel_rfl) (fun _ _ _ h => h) (Or.inl ⟨by rfl, ?_⟩) (by assumption) ?_
  rotate_left
  · (intro w hSw; (try dsimp only at hSw); go_simp); (try with_reducible rfl)
  simp only [List.getElem_toArray, List.getElem_cons_zero, List.getElem_cons_succ, Act.put, List.setIfInBounds_toArray, List.set_cons_zero, List.set_cons_succ]
  refine wpAnyH_take (i := 11) (v := ?_) rfl (by as_aux_lemma => kernel_rfl) (by as_aux_lemma => kernel_rfl) (by as_aux_lemma => kernel_rfl) (fun _ _ _ h => h) (Or.inl ⟨by rfl, ?_⟩) (by assumption) ?_
  rotate_left
  · (intro w hSw; (try dsimp only at hSw); go_simp); (try with_reducible rfl)
  simp only [List.getElem_toArray, List.getElem_cons_zero, List.getElem_cons_succ, Act.put, List.setIfInBounds_toArray, List.set_cons_zero, List.set_cons_succ]
  refine wpAnyH_take (i := 8) (v := ?_) rfl (by as_aux_lemma => kernel_rfl) (by as_aux_lemma => kernel_rfl) (by as_aux_lemma => kernel_rfl) (fun _ _ _ h => h) (Or.inl ⟨by rfl, ?_⟩) (by assumption) ?_
  rotate_left
  · (intro w hSw; (try dsimp only at hSw); go_simp); (try with_reducible rfl)
  simp only [List.getElem_toArray, List.getElem_cons_zero, List.getElem_cons_succ, Act.put, List.setIfInBounds_toArray, List.set_cons_zero, List.set_cons_succ]
  refine wpAnyH_take (i := 9) (v := ?_) rfl (by as_aux_lemma => kernel_rfl) (by as_aux_lemma => kernel_rfl) (by as_aux_lemma => kernel_rfl) (fun _ _ _ h => h) (Or.inl ⟨by rfl, ?_⟩) (by assumption) ?_
  rotate_left
  · (intro w hSw; (try dsimp only at hSw); go_simp); (try with_reducible rfl)
  simp only [List.getElem_toArray, List.getElem_cons_zero, List.getElem_cons_succ, Act.put, List.setIfInBounds_toArray, List.set_cons_zero, List.set_cons_succ]
  refine wpAnyH_ready (rs := [10]) (by as_aux_lemma => kernel_rfl) (by simp) ?_
  refine AllReadyH.cons rfl (fun K hK => ?_) AllReadyH.nil
  go_simp
  refine (rlenx_lit _ _ _ B2 (HQ.out.2.2.2.2.2.1) (NH.ext F1) t2).mono ?_
  rintro _ u2 ⟨rfl, eu2⟩
  have F2 : Ext w5 u2 := F1.trans eu2
  refine hK.out _ _ ⟨bx6 (Ba.ext F2), bx6 (Vir.ext F2)⟩ (fun hHeld => ?_)
  clear hK K eu2 F1
  refine wpAnyH_take (i := 12) (v := ?_) rfl (by as_aux_lemma => kernel_rfl) (by as_aux_lemma => kernel_rfl) (by as_aux_lemma => kernel_rfl) (fun _ _ _ h => h) (Or.inl ⟨by rfl, ?_⟩) (by assumption) ?_
  rotate_left
  · (intro w hSw; (try dsimp only at hSw); go_simp); (try with_reducible rfl)
  simp only [List.getElem_toArray, List.getElem_cons_zero, List.getElem_cons_succ, Act.put, List.setIfInBounds_toArray, List.set_cons_zero, List.set_cons_succ]
  refine wpAnyH_take (i := 13) (v := ?_) rfl (by as_aux_lemma => kernel_rfl) (by as_aux_lemma => kernel_rfl) (by as_aux_lemma => kernel_rfl) (fun _ _ _ h => h) (Or.inl ⟨by rfl, ?_⟩) (by assumption) ?_
  rotate_left
  · (intro w hSw; (try dsimp only at hSw); go_simp); (try with_reducible rfl)
  simp only [List.getElem_toArray, List.getElem_cons_zero, List.getElem_cons_succ, Act.put, List.setIfInBounds_toArray, List.set_cons_zero, List.set_cons_succ]
  refine wpAnyH_take (i := 14) (v := ?_) rfl (by as_aux_lemma => kernel_rfl) (by as_aux_lemma => kernel_rfl) (by as_aux_lemma => kernel_rfl) (fun _ _ _ h => h) (Or.inl ⟨by rfl, ?_⟩) (by assumption) ?_
  rotate_left
  · (intro w hSw; (try dsimp only at hSw); go_simp); (try with_reducible rfl)
  simp only [List.getElem_toArray, List.getElem_cons_zero, List.getElem_cons_succ, Act.put, List.setIfInBounds_toArray, List.set_cons_zero, List.set_cons_succ]
  refine wpAnyH_take (i := 15) (v := ?_) rfl (by as_aux_lemma => kernel_rfl) (by as_aux_lemma => kernel_rfl) (by as_aux_lemma => kernel_rfl) (fun _ _ _ h => h) (Or.inl ⟨by rfl, ?_⟩) (by assumption) ?_
  rotate_left
  · (intro w hSw; (try dsimp only at hSw); go_simp); (try with_reducible rfl)
  simp only [List.getElem_toArray, List.getElem_cons_zero, List.getElem_cons_succ, Act.put, List.setIfInBounds_toArray, List.set_cons_zero, List.set_cons_succ]
  refine wpAnyH_take (i := 16) (v := ?_) rfl (by as_aux_lemma => kernel_rfl) (by as_aux_lemma => kernel_rfl) (by as_aux_lemma => kernel_rfl) (fun _ _ _ h => h) (Or.inl ⟨by rfl, ?_⟩) (by assumption) ?_
  rotate_left
  · (intro w hSw; (try dsimp only at hSw); go_simp); (try with_reducible rfl)
  simp only [List.getElem_toArray, List.getElem_cons_zero, List.getElem_cons_succ, Act.put, List.setIfInBounds_toArray, List.set_cons_zero, List.set_cons_succ]
  refine wpAnyH_ready (rs := [17]) (by as_aux_lemma => kernel_rfl) (by simp) ?_
  refine AllReadyH.cons rfl (fun K hK => ?_) AllReadyH.nil
  go_simp
  refine (rsign_lit _ _ L 0 (HQ.out.2.2.1) (ir.ext F2).lo).mono ?_
  rintro _ u3 ⟨rfl, eu3⟩
  have F3 : Ext w5 u3 := F2.trans eu3
  refine hK.out _ _ ⟨bx6 (Ba.ext F3), bx6 (Vir.ext F3)⟩ (fun hHeld => ?_)
  clear hK K eu3 F2
  refine wpAnyH_take (i := 18) (v := ?_) rfl (by as_aux_lemma => kernel_rfl) (by as_aux_lemma => kernel_rfl) (by as_aux_lemma => kernel_rfl) (fun _ _ _ h => h) (Or.inl ⟨by rfl, ?_⟩) (by assumption) ?_
  rotate_left
  · (intro w hSw; (try dsimp only at hSw); go_simp); (try with_reducible rfl)
  simp only [List.getElem_toArray, List.getElem_cons_zero, List.getElem_cons_succ, Act.put, List.setIfInBounds_toArray, List.set_cons_zero, List.set_cons_succ]
  refine wpAnyH_take (i := 19) (v := ?_) rfl (by as_aux_lemma => kernel_rfl) (by as_aux_lemma => kernel_rfl) (by as_aux_lemma => kernel_rfl) (fun _ _ _ h => h) (Or.inl ⟨by rfl, ?_⟩) (by assumption) ?_
  rotate_left
  · (intro w hSw; (try dsimp only at hSw); go_simp); (try with_reducible rfl)
  simp only [List.getElem_toArray, List.getElem_cons_zero, List.getElem_cons_succ, Act.put, List.setIfInBounds_toArray, List.set_cons_zero, List.set_cons_succ]
  refine wpAnyH_take (i := 20) (v := ?_) rfl (by as_aux_lemma => kernel_rfl) (by as_aux_lemma => kernel_rfl) (by as_aux_lemma => kernel_rfl) (fun _ _ _ h => h) (Or.inl ⟨by rfl, ?_⟩) (by assumption) ?_
  rotate_left
  · (intro w hSw; (try dsimp only at hSw); go_simp); (try with_reducible rfl)
  simp only [List.getElem_toArray, List.getElem_cons_zero, List.getElem_cons_succ, Act.put, List.setIfInBounds_toArray, List.set_cons_zero, List.set_cons_succ]
  refine wpAnyH_take (i := 21) (v := ?_) rfl (by as_aux_lemma => kernel_rfl) (by as_aux_lemma => kernel_rfl) (by as_aux_lemma => kernel_rfl) (fun _ _ _ h => h) (Or.inl ⟨by rfl, ?_⟩) (by assumption) ?_
  rotate_left
  · (intro w hSw; (try dsimp only at hSw); go_simp); (try with_reducible rfl)
  simp only [List.getElem_toArray, List.getElem_cons_zero, List.getElem_cons_succ, Act.put, List.setIfInBounds_toArray, List.set_cons_zero, List.set_cons_succ]
  refine wpAnyH_take (i := 23) (v := ?_) rfl (by as_aux_lemma => kernel_rfl) (by as_aux_lemma => kernel_rfl) (by as_aux_lemma => kernel_rfl) (fun _ _ _ h => h) (Or.inl ⟨by rfl, ?_⟩) (by assumption) ?_
  rotate_left
  · (intro w hSw; (try dsimp only at hSw); go_simp); (try with_reducible rfl)
  simp only [List.getElem_toArray, List.getElem_cons_zero, List.getElem_cons_succ, Act.put, List.setIfInBounds_toArray, List.set_cons_zero, List.set_cons_succ]
  refine wpAnyH_take (i := 26) (v := ?_) rfl (by as_aux_lemma => kernel_rfl) (by as_aux_lemma => kernel_rfl) (by as_aux_lemma => kernel_rfl) (fun _ _ _ h => h) (Or.inl ⟨by rfl, ?_⟩) (by assumption) ?_
  rotate_left
  · (intro w hSw; (try dsimp only at hSw); go_simp); (try with_reducible rfl)
  simp only [List.getElem_toArray, List.getElem_cons_zero, List.getElem_cons_succ, Act.put, List.setIfInBounds_toArray, List.set_cons_zero, List.set_cons_succ]
  refine wpAnyH_take (i := 22) (v := ?_) rfl (by as_aux_lemma => kernel_rfl) (by as_aux_lemma => kernel_rfl) (by as_aux_lemma => kernel_rfl) (fun _ _ _ h => h) (Or.inl ⟨by rfl, ?_⟩) (by assumption) ?_
  rotate_left
  · (intro w hSw; (try dsimp only at hSw); go_simp); (try with_reducible rfl)
  simp only [List.getElem_toArray, List.getElem_cons_zero, List.getElem_cons_succ, Act.put, List.setIfInBounds_toArray, List.set_cons_zero, List.set_cons_succ]
  refine wpAnyH_take (i := 24) (v := ?_) rfl (by as_aux_lemma => kernel_rfl) (by as_aux_lemma => kernel_rfl) (by as_aux_lemma => kernel_rfl) (fun _ _ _ h => h) (Or.inl ⟨by rfl, ?_⟩) (by assumption) ?_
  rotate_left
  · (intro w hSw; (try dsimp only at hSw); go_simp); (try with_reducible rfl)
  simp only [List.getElem_toArray, List.getElem_cons_zero, List.getElem_cons_succ, Act.put, List.setIfInBounds_toArray, List.set_cons_zero, List.set_cons_succ]
  refine wpAnyH_take (i := 27) (v := ?_) rfl (by as_aux_lemma => kernel_rfl) (by as_aux_lemma => kernel_rfl) (by as_aux_lemma => kernel_rfl) (fun _ _ _ h => h) (Or.inl ⟨by rfl, ?_⟩) (by assumption) ?_
  rotate_left
  · (intro w hSw; (try dsimp only at hSw); go_simp); (try with_reducible rfl)
  simp only [List.getElem_toArray, List.getElem_cons_zero, List.getElem_cons_succ, Act.put, List.setIfInBounds_toArray, List.set_cons_zero, List.set_cons_succ]
  refine wpAnyH_ready (rs := [25]) (by as_aux_lemma => kernel_rfl) (by simp) ?_
  refine AllReadyH.cons rfl (fun K hK => ?_) AllReadyH.nil
  go_simp
  refine (rmulD_any _ _ _ L L 260 1046 260 1046 (ir.ext F3).lo (ir.ext F3).lo a3 a3 (by omega) (by omega)).mono ?_
  rintro _ u4 ⟨vu4, rfl, m4, eu4⟩
  have F4 : Ext w5 u4 := F3.trans eu4
  refine hK.out _ _ ⟨bx6 (Ba.ext F4), bx6 (Vir.ext F4)⟩ (fun hHeld => ?_)
  clear hK K eu4 F3
  refine wpAnyH_ready (rs := [28]) (by as_aux_lemma => kernel_rfl) (by simp) ?_
  refine AllReadyH.cons rfl (fun K hK => ?_) AllReadyH.nil
  go_simp
  refine (rcmpx_lit _ _ _ (L * L) la 520 2092 c1 (HQ.out.1) m4 (na.ext F4).lo r1 rla1 (by omega)).mono ?_
  rintro _ u5 ⟨rfl, eu5⟩
  have F5 : Ext w5 u5 := F4.trans eu5
  replace m4 := m4.ext eu5
  refine hK.out _ _ ⟨bx6 (Ba.ext F5), bx6 (Vir.ext F5)⟩ (fun hHeld => ?_)
  clear hK K eu5 F4
  refine wpAnyH_take (i := 29) (v := ?_) rfl (by as_aux_lemma => kernel_rfl) (by as_aux_lemma => kernel_rfl) (by as_aux_lemma => kernel_rfl) (fun _ _ _ h => h) (Or.inl ⟨by rfl, ?_⟩) (by assumption) ?_
  rotate_left
  · (intro w hSw; (try dsimp only at hSw); go_simp); (try with_reducible rfl)
  simp only [List.getElem_toArray, List.getElem_cons_zero, List.getElem_cons_succ, Act.put, List.setIfInBounds_toArray, List.set_cons_zero, List.set_cons_succ]
  refine wpAnyH_take (i := 30) (v := ?_) rfl (by as_aux_lemma => kernel_rfl) (by as_aux_lemma => kernel_rfl) (by as_aux_lemma => kernel_rfl) (fun _ _ _ h => h) (Or.inl ⟨by rfl, ?_⟩) (by assumption) ?_
  rotate_left
  · (intro w hSw; (try dsimp only at hSw); go_simp); (try with_reducible rfl)
  simp only [List.getElem_toArray, List.getElem_cons_zero, List.getElem_cons_succ, Act.put, List.setIfInBounds_toArray, List.set_cons_zero, List.set_cons_succ]
  refine wpAnyH_take (i := 31) (v := ?_) rfl (by as_aux_lemma => kernel_rfl) (by as_aux_lemma => kernel_rfl) (by as_aux_lemma => kernel_rfl) (fun _ _ _ h => h) (Or.inl ⟨by rfl, ?_⟩) (by assumption) ?_
  rotate_left
  · (intro w hSw; (try dsimp only at hSw); go_simp); (try with_reducible rfl)
  simp only [List.getElem_toArray, List.getElem_cons_zero, List.getElem_cons_succ, Act.put, List.setIfInBounds_toArray, List.set_cons_zero, List.set_cons_succ]
  refine wpAnyH_take (i := 32) (v := ?_) rfl (by as_aux_lemma => kernel_rfl) (by as_aux_lemma => kernel_rfl) (by as_aux_lemma => kernel_rfl) (fun _ _ _ h => h) (Or.inl ⟨by rfl, ?_⟩) (by assumption) ?_
  rotate_left
  · (intro w hSw; (try dsimp only at hSw); go_simp); (try with_reducible rfl)
  simp only [List.getElem_toArray, List.getElem_cons_zero, List.getElem_cons_succ, Act.put, List.setIfInBounds_toArray, List.set_cons_zero, List.set_cons_succ]
  refine wpAnyH_take (i := 34) (v := ?_) rfl (by as_aux_lemma => kernel_rfl) (by as_aux_lemma => kernel_rfl) (by as_aux_lemma => kernel_rfl) (fun _ _ _ h => h) (Or.inl ⟨by rfl, ?_⟩) (by assumption) ?_
  rotate_left
  · (intro w hSw; (try dsimp only at hSw); go_simp); (try with_reducible rfl)
  simp only [List.getElem_toArray, List.getElem_cons_zero, List.getElem_cons_succ, Act.put, List.setIfInBounds_toArray, List.set_cons_zero, List.set_cons_succ]
  refine wpAnyH_take (i := 37) (v := ?_) rfl (by as_aux_lemma => kernel_rfl) (by as_aux_lemma => kernel_rfl) (by as_aux_lemma => kernel_rfl) (fun _ _ _ h => h) (Or.inl ⟨by rfl, ?_⟩) (by assumption) ?_
  rotate_left
  · (intro w hSw; (try dsimp only at hSw); go_simp); (try with_reducible rfl)
  simp only [List.getElem_toArray, List.getElem_cons_zero, List.getElem_cons_succ, Act.put, List.setIfInBounds_toArray, List.set_cons_zero, List.set_cons_succ]
  refine wpAnyH_take (i := 33) (v := ?_) rfl (by as_aux_lemma => kernel_rfl) (by as_aux_lemma => kernel_rfl) (by as_aux_lemma => kernel_rfl) (fun _ _ _ h => h) (Or.inl ⟨by rfl, ?_⟩) (by assumption) ?_
  rotate_left
  · (intro w hSw; (try dsimp only at hSw); go_simp); (try with_reducible rfl)
  simp only [List.getElem_toArray, List.getElem_cons_zero, List.getElem_cons_succ, Act.put, List.setIfInBounds_toArray, List.set_cons_zero, List.set_cons_succ]
  refine wpAnyH_take (i := 35) (v := ?_) rfl (by as_aux_lemma => kernel_rfl) (by as_aux_lemma => kernel_rfl) (by as_aux_lemma => kernel_rfl) (fun _ _ _ h => h) (Or.inl ⟨by rfl, ?_⟩) (by assumption) ?_
  rotate_left
  · (intro w hSw; (try dsimp only at hSw); go_simp); (try with_reducible rfl)
  simp only [List.getElem_toArray, List.getElem_cons_zero, List.getElem_cons_succ, Act.put, List.setIfInBounds_toArray, List.set_cons_zero, List.set_cons_succ]
  refine wpAnyH_take (i := 38) (v := ?_) rfl (by as_aux_lemma => kernel_rfl) (by as_aux_lemma => kernel_rfl) (by as_aux_lemma => kernel_rfl) (fun _ _ _ h => h) (Or.inl ⟨by rfl, ?_⟩) (by assumption) ?_
  rotate_left
  · (intro w hSw; (try dsimp only at hSw); go_simp); (try with_reducible rfl)
  simp only [List.getElem_toArray, List.getElem_cons_zero, List.getElem_cons_succ, Act.put, List.setIfInBounds_toArray, List.set_cons_zero, List.set_cons_succ]
  refine wpAnyH_ready (rs := [36]) (by as_aux_lemma => kernel_rfl) (by simp) ?_
  refine AllReadyH.cons rfl (fun K hK => ?_) AllReadyH.nil
  go_simp
  refine (rmulD_any _ _ _ H H 260 1046 260 1046 (ir.ext F5).hi (ir.ext F5).hi a8 a8 (by omega) (by omega)).mono ?_
  rintro _ u6 ⟨vu6, rfl, m6, eu6⟩
  have F6 : Ext w5 u6 := F5.trans eu6
  refine hK.out _ _ ⟨bx6 (Ba.ext F6), bx6 (Vir.ext F6)⟩ (fun hHeld => ?_)
  clear hK K eu6 F5 m4
  refine wpAnyH_ready (rs := [39]) (by as_aux_lemma => kernel_rfl) (by simp) ?_
  refine AllReadyH.cons rfl (fun K hK => ?_) AllReadyH.nil
  go_simp
  refine (rcmpx_lit _ _ _ (H * H) ha 520 2092 c2 (HQ.out.2.1) m6 (na.ext F6).hi r2 rha1 (by omega)).mono ?_
  rintro _ u7 ⟨rfl, eu7⟩
  have F7 : Ext w5 u7 := F6.trans eu7
  replace m6 := m6.ext eu7
  refine hK.out _ _ ⟨bx6 (Ba.ext F7), bx6 (Vir.ext F7)⟩ (fun hHeld => ?_)
  clear hK K eu7 F6
  refine wpAnyH_take (i := 40) (v := ?_) rfl (by as_aux_lemma => kernel_rfl) (by as_aux_lemma => kernel_rfl) (by as_aux_lemma => kernel_rfl) (fun _ _ _ h => h) (Or.inl ⟨by rfl, ?_⟩) (by assumption) ?_
  rotate_left
  · (intro w hSw; (try dsimp only at hSw); go_simp); (try with_reducible rfl)
  simp only [List.getElem_toArray, List.getElem_cons_zero, List.getElem_cons_succ, Act.put, List.setIfInBounds_toArray, List.set_cons_zero, List.set_cons_succ]
  refine wpAnyH_take (i := 41) (v := ?_) rfl (by as_aux_lemma => kernel_rfl) (by as_aux_lemma => kernel_rfl) (by as_aux_lemma => kernel_rfl) (fun _ _ _ h => h) (Or.inl ⟨by rfl, ?_⟩) (by assumption) ?_
  rotate_left
  · (intro w hSw; (try dsimp only at hSw); go_simp); (try with_reducible rfl)
  simp only [List.getElem_toArray, List.getElem_cons_zero, List.getElem_cons_succ, Act.put, List.setIfInBounds_toArray, List.set_cons_zero, List.set_cons_succ]
  refine wpAnyH_done (by as_aux_lemma => kernel_rfl) ?_ _
  replace T := T.ext F7
  replace na := na.ext F7
  replace ir := ir.ext F7
  replace NL := NL.ext F7
  replace NH := NH.ext F7
  replace Ba := Ba.ext F7
  replace Vir := Vir.ext F7
  have E6x := E5.trans F7
  clear F7 E5 Ba_0 Ba_1 Ba_2 Ba_3 Ba_4 Ba_5 Ba_l Vir_0 Vir_1 Vir_2 Vir_3 Vir_4 Vir_5 Vir_l hHeld
  clear m6 d1 d2 d3 d4
  obtain ⟨Ba_0, Ba_1, Ba_2, Ba_3, Ba_4, Ba_5⟩ := id Ba
  have Ba_l := World.block_lt_of_cell? _ _ Ba_0
  go_wp2_with fail
  refine (rsign_lit _ _ la 0 (HQ.out.2.2.2.1) na.lo).mono ?_
  rintro _ w7 ⟨rfl, f7⟩
  clear Ba_0 Ba_1 Ba_2 Ba_3 Ba_4 Ba_5 Ba_l
  have e7 : Ext u7 w7 := (Ext.refl u7).trans f7
  replace T := T.ext e7
  replace na := na.ext e7
  replace ir := ir.ext e7
  replace NL := NL.ext e7
  replace NH := NH.ext e7
  replace Ba := Ba.ext e7
  replace Vir := Vir.ext e7
  have E7 : Ext w w7 := E6x.trans e7
  clear e7 f7 E6x
  obtain ⟨Vir_0, Vir_1, Vir_2, Vir_3, Vir_4, Vir_5⟩ := id Vir
  have Vir_l := World.block_lt_of_cell? _ _ Vir_0
  go_wp2_with fail
  refine (rsign_lit _ _ L 0 (HQ.out.2.2.1) ir.lo).mono ?_
  rintro _ w8 ⟨rfl, f8⟩
  clear Vir_0 Vir_1 Vir_2 Vir_3 Vir_4 Vir_5 Vir_l
  have e8 : Ext w7 w8 := (Ext.refl w7).trans f8
  replace T := T.ext e8
  replace na := na.ext e8
  replace ir := ir.ext e8
  replace NL := NL.ext e8
  replace NH := NH.ext e8
  replace Ba := Ba.ext e8
  replace Vir := Vir.ext e8
  have E8 : Ext w w8 := E7.trans e8
  clear e8 f8 E7
  go_wp2
  go_ret
  exact ⟨rfl, E8⟩
set_option maxRecDepth 100000 in
set_option maxHeartbeats 4000000 in
theorem root_pos (w : World) (T : Tb w) (nba : Bool) (Ma : Value) (xa : List Int) (ia : Int) (rowa : Row w Ma xa) (bda : -9223372036854775808 ≤ ia ∧ ia ≤ 9223372036854775807) (nba' : Bool) (Ma' : Value) (xa' : List Int) (ia' : Int) (rowa' : Row w Ma' xa') (bda' : -9223372036854775808 ≤ ia' ∧ ia' ≤ 9223372036854775807) (n : Int) (bn : 0 ≤ n ∧ n ≤ 255) (hg : goodIs 1 (pk nba nba nba) (pk xa xa xa) (pk ia ia ia) (pk nba' nba' nba') (pk xa' xa' xa') (pk ia' ia' ia') = true) (la ha : Dyadic) (na : In w (.agg #[.bool nba, Ma, .int .i64 ia, .bool nba', Ma', .int .i64 ia']) la ha) (oa : la ≤ ha) (rla : Rg 200 392 la) (rha : Rg 200 392 ha) (k : Nat) (hkk : n % 60 + 1 = (k : Int)) (hk1 : 1 ≤ k) (hk2 : k ≤ 60) (za : 0 < la) :
    Calls Tryd.prog 6 #[.agg #[.bool nba, Ma, .int .i64 ia, .bool nba', Ma', .int .i64 ia'], .int .u8 n] w (RetE w (.bool true)) := by
  go_enter Tryd.func6, Tryd.ntmps6
  go_wp2_with fail
  refine (headI_any _ (T.ext ((Ext.refl w).alloc _))).mono ?_
  rintro _ w1 ⟨rfl, f1⟩
  have Ba : Bx w1 (w.heap.size) (.bool nba) (Ma) (.int .i64 ia) (.bool nba') (Ma') (.int .i64 ia') := Bx.at ((Ext.refl _).trans f1) (by simp)
  have e1 : Ext w w1 := ((Ext.refl w).alloc _).trans f1
  replace T := T.ext e1
  replace rowa := rowa.ext e1
  replace rowa' := rowa'.ext e1
  replace na := na.ext e1
  have E1 : Ext w w1 := e1
  clear f1
  obtain ⟨Ba_0, Ba_1, Ba_2, Ba_3, Ba_4, Ba_5⟩ := id Ba
  have Ba_l := World.block_lt_of_cell? _ _ Ba_0
  have HG := Lib.hid (good5_any _ _ 1 1 _ _ _ _ _ _ _ _ (by omega) (manyI1 w1 26 nba Ma xa ia rowa bda nba' Ma' xa' ia' rowa' bda'))
  rw [hg] at HG
  clear hg
  go_wp2_with fail
  refine (HG.out).mono ?_
  rintro _ w2 ⟨rfl, f2⟩
  clear Ba_0 Ba_1 Ba_2 Ba_3 Ba_4 Ba_5 Ba_l
  have e2 : Ext w1 w2 := ((Ext.refl w1).alloc _).trans f2
  replace T := T.ext e2
  replace rowa := rowa.ext e2
  replace rowa' := rowa'.ext e2
  replace na := na.ext e2
  replace Ba := Ba.ext e2
  have E2 : Ext w w2 := E1.trans e2
  clear e2 f2 E1
  clear HG
  clear rowa rowa'
  clear bda bda'
  have zn : 0 ≤ la := by grind
  have ya : 0 ≤ ha := by grind
  obtain ⟨a1, a2, a3, a4⟩ := root_rg zn rla hk1 hk2
  obtain ⟨a5, a6, a7, a8⟩ := root_rg ya rha hk1 hk2
  have ta := a1.hi a6 oa
  obtain ⟨Ba_0, Ba_1, Ba_2, Ba_3, Ba_4, Ba_5⟩ := id Ba
  have Ba_l := World.block_lt_of_cell? _ _ Ba_0
  go_wp2_with fail
  refine (iroot_yes _ _ la ha _ k 200 392 (by first | rfl | omega) na zn ya rla rha (by omega) hk1 (by omega) T).mono ?_
  rintro _ w3 ⟨v3, rfl, ir, f3⟩
  clear Ba_0 Ba_1 Ba_2 Ba_3 Ba_4 Ba_5 Ba_l
  have e3 : Ext w2 w3 := (Ext.refl w2).trans f3
  replace T := T.ext e3
  replace na := na.ext e3
  replace Ba := Ba.ext e3
  have E3 : Ext w w3 := E2.trans e3
  clear e3 f3 E2
  obtain ⟨bir, Air, lir, cir, jir, bir', Air', lir', cir', jir', rfl, ir_l, ir_h⟩ := ir
  generalize rlo k la = L at *
  generalize rhi k ha = H at *
  clear a2 a4 a5 a7
  obtain ⟨zl, hzl, cl_, NL⟩ := ir_l.cells
  obtain ⟨zh, hzh, ch_, NH⟩ := ir_h.cells
  have b1 := Few.len (hzl ▸ a1.few) cl_ hk1
  have b2 := Few.len (hzh ▸ a6.few) ch_ hk1
  have t1 : Lt 400 zl.natAbs := Lt.of_bits (Nat.le_trans b1 (by omega))
  have t2 : Lt 400 zh.natAbs := Lt.of_bits (Nat.le_trans b2 (by omega))
  obtain ⟨c1, q1⟩ : ∃ c, cmpD (L * L) la = c := ⟨_, rfl⟩
  obtain ⟨c2, q2⟩ : ∃ c, cmpD (H * H) ha = c := ⟨_, rfl⟩
  have n1 : ¬ 0 < c1 := by have := (cmp_le (L * L) la).2 a1.le; omega
  have n2 : ¬ c2 < 0 := by intro h; rw [← q2] at h; have := (cmp_lt (H * H) ha).1 h; have := a6.ge; grind
  have lp := a1.pos rla za
  have zp : 0 < zl := by rw [hzl, ← dy_zero jir, dy_lt] at lp; exact lp
  have q3 : cmpD L 0 = 1 := cmpX_g lp
  have q4 : cmpD la 0 = 1 := cmpX_g za
  have nx := Rlo.next (hzl ▸ a1) cl_ zp hk1
  have gc := Rg.canon (hzl ▸ a3) cl_
  obtain ⟨B1, g1⟩ : ∃ B : Int, ((bl zl.natAbs : Nat) : Int) = B := ⟨_, rfl⟩
  obtain ⟨B2, g2⟩ : ∃ B : Int, ((bl zh.natAbs : Nat) : Int) = B := ⟨_, rfl⟩
  have k1 : ¬ (k : Int) < B1 := by omega
  have k2 : ¬ (k : Int) < B2 := by omega
  have bp : 0 < B1 := by have := bl_pos (show zl.natAbs ≠ 0 by omega); omega
  rw [g1, ← hzl] at nx
  have rG : Rg 1046 1047 (dy 1 (jir + B1 - (k : Int))) := Rg.pow (by omega)
  obtain ⟨G, hG⟩ : ∃ G, dy 1 (jir + B1 - (k : Int)) = G := ⟨_, rfl⟩
  rw [hG] at nx rG
  have q5 := cmpX_g nx
  have rL := a3.mono (show 260 ≤ 1046 by omega) (show 1046 ≤ 1047 by omega)
  have rN := rL.add rG
  have rM := rN.mul rN
  have rla2 : Rg 2092 2096 la := rla.mono (by omega) (by omega)
  have gj : -1046 ≤ jir ∧ jir ≤ 1046 := by omega
  have HQ := Lib.hid (And.intro q1 (And.intro q2 (And.intro q3 (And.intro q4 (And.intro g1 (And.intro g2 (And.intro (decide_eq_true ta) (And.intro q5 hG))))))))
  have r1 := a3.mul a3
  have r2 := a8.mul a8
  have rla1 : Rg 520 2092 la := rla.mono (by omega) (by omega)
  have rha1 : Rg 520 2092 ha := rha.mono (by omega) (by omega)
  clear q1 q2 q3 q4 g1 g2 ta a1 a6 b1 b2 hzl hzh cl_ ch_ zn ya oa za q5 hG nx lp gc zp
  have ir := In.mk ir_l ir_h
  clear ir_l ir_h
  obtain ⟨Ba_0, Ba_1, Ba_2, Ba_3, Ba_4, Ba_5⟩ := id Ba
  have Ba_l := World.block_lt_of_cell? _ _ Ba_0
  go_wp2_with fail
  refine (rsign_lit _ _ la 1 (HQ.out.2.2.2.1) (na.ext ((Ext.refl w3).alloc _)).lo).mono ?_
  rintro _ w4 ⟨rfl, f4⟩
  clear Ba_0 Ba_1 Ba_2 Ba_3 Ba_4 Ba_5 Ba_l
  have Vir : Bx w4 (w3.heap.size) (.bool bir) (.slice Air lir cir) (.int .i64 jir) (.bool bir') (.slice Air' lir' cir') (.int .i64 jir') := Bx.at ((Ext.refl _).trans f4) (by simp)
  have e4 : Ext w3 w4 := ((Ext.refl w3).alloc _).trans f4
  replace T := T.ext e4
  replace na := na.ext e4
  replace ir := ir.ext e4
  replace NL := NL.ext e4
  replace NH := NH.ext e4
  replace Ba := Ba.ext e4
  have E4 : Ext w w4 := E3.trans e4
  clear e4 f4 E3
  obtain ⟨Vir_0, Vir_1, Vir_2, Vir_3, Vir_4, Vir_5⟩ := id Vir
  have Vir_l := World.block_lt_of_cell? _ _ Vir_0
  go_wp2_with fail
  refine (riright_lit _ _ L H 260 1046 true (HQ.out.2.2.2.2.2.2.1) ir a3 a8 (by omega)).mono ?_
  rintro _ w5 ⟨rfl, f5⟩
  clear Vir_0 Vir_1 Vir_2 Vir_3 Vir_4 Vir_5 Vir_l
  have e5 : Ext w4 w5 := (Ext.refl w4).trans f5
  replace T := T.ext e5
  replace na := na.ext e5
  replace ir := ir.ext e5
  replace NL := NL.ext e5
  replace NH := NH.ext e5
  replace Ba := Ba.ext e5
  replace Vir := Vir.ext e5
  have E5 : Ext w w5 := E4.trans e5
  clear e5 f5 E4
  go_wp2
  try simp only [List.append_eq, List.cons_append, List.nil_append]
  obtain ⟨Ba_0, Ba_1, Ba_2, Ba_3, Ba_4, Ba_5⟩ := id Ba
  have Ba_l := World.block_lt_of_cell? _ _ Ba_0
  obtain ⟨Vir_0, Vir_1, Vir_2, Vir_3, Vir_4, Vir_5⟩ := id Vir
  have Vir_l := World.block_lt_of_cell? _ _ Vir_0
  have d1 : decide ((k : Int) < B1) = false := decide_eq_false (by omega)
  have d2 : decide ((k : Int) < B2) = false := decide_eq_false (by omega)
  have d3 : decide (0 < c1) = false := decide_eq_false (by omega)
  have d4 : decide (c2 < 0) = false := decide_eq_false (by omega)
  refine wp_region_held_drew (S := (fun w' => (w'.cell? ⟨w.heap.size, 0, none⟩ = some (.bool nba) ∧ w'.cell? ⟨w.heap.size, 1, none⟩ = some (Ma) ∧ w'.cell? ⟨w.heap.size, 2, none⟩ = some (.int .i64 ia) ∧ w'.cell? ⟨w.heap.size, 3, none⟩ = some (.bool nba') ∧ w'.cell? ⟨w.heap.size, 4, none⟩ = some (Ma') ∧ w'.cell? ⟨w.heap.size, 5, none⟩ = some (.int .i64 ia')) ∧ (w'.cell? ⟨w3.heap.size, 0, none⟩ = some (.bool bir) ∧ w'.cell? ⟨w3.heap.size, 1, none⟩ = some (.slice Air lir cir) ∧ w'.cell? ⟨w3.heap.size, 2, none⟩ = some (.int .i64 jir) ∧ w'.cell? ⟨w3.heap.size, 3, none⟩ = some (.bool bir') ∧ w'.cell? ⟨w3.heap.size, 4, none⟩ = some (.slice Air' lir' cir') ∧ w'.cell? ⟨w3.heap.size, 5, none⟩ = some (.int .i64 jir')))) (by as_aux_lemma => kernel_rfl) ⟨bx6 (Ba.ext (Ext.refl w5).drew), bx6 (Vir.ext (Ext.refl w5).drew)⟩ (fun hHeld => ?_)
  refine wpAnyH_take (i := 0) (v := ?_) rfl (by as_aux_lemma => kernel_rfl) (by as_aux_lemma => kernel_rfl) (by as_aux_lemma => kernel_rfl) (fun _ _ _ h => h) (Or.inl ⟨by rfl, ?_⟩) (by assumption) ?_
  rotate_left
  · (intro w hSw; (try dsimp only at hSw); go_simp); (try with_reducible rfl)
  simp only [List.getElem_toArray, List.getElem_cons_zero, Act.put, List.setIfInBounds_toArray, List.set_cons_zero, List.set_cons_succ]
  refine wpAnyH_take (i := 4) (v := ?_) rfl (by as_aux_lemma => kernel_rfl) (by as_aux_lemma => kernel_rfl) (by as_aux_lemma => kernel_rfl) (fun _ _ _ h => h) (Or.inl ⟨by rfl, ?_⟩) (by assumption) ?_
  rotate_left
  · (intro w hSw; (try dsimp only at hSw); go_simp); (try with_reducible rfl)
  simp only [List.getElem_toArray, List.getElem_cons_zero, List.getElem_cons_succ, Act.put, List.setIfInBounds_toArray, List.set_cons_zero, List.set_cons_succ]
  refine wpAnyH_take (i := 1) (v := ?_) rfl (by as_aux_lemma => kernel_rfl) (by as_aux_lemma => kernel_rfl) (by as_aux_lemma => kernel_rfl) (fun _ _ _ h => h) (Or.inl ⟨by rfl, ?_⟩) (by assumption) ?_
  rotate_left
  · (intro w hSw; (try dsimp only at hSw); go_simp); (try with_reducible rfl)
  simp only [List.getElem_toArray, List.getElem_cons_zero, List.getElem_cons_succ, Act.put, List.setIfInBounds_toArray, List.set_cons_zero, List.set_cons_succ]
  refine wpAnyH_take (i := 2) (v := ?_) rfl (by as_aux_lemma => kernel_rfl) (by as_aux_lemma => kernel_rfl) (by as_aux_lemma => kernel_rfl) (fun _ _ _ h => h) (Or.inl ⟨by rfl, ?_⟩) (by assumption) ?_
  rotate_left
  · (intro w hSw; (try dsimp only at hSw); go_simp); (try with_reducible rfl)
  simp only [List.getElem_toArray, List.getElem_cons_zero, List.getElem_cons_succ, Act.put, List.setIfInBounds_toArray, List.set_cons_zero, List.set_cons_succ]
  refine wpAnyH_ready (rs := [3]) (by as_aux_lemma => kernel_rfl) (by simp) ?_
  refine AllReadyH.cons rfl (fun K hK => ?_) AllReadyH.nil
  go_simp
  refine (rlenx_lit _ _ _ B1 (HQ.out.2.2.2.2.1) (NL.ext (Ext.refl w5).drew) t1).mono ?_
  rintro _ u1 ⟨rfl, eu1⟩
  have F1 : Ext w5 u1 := (Ext.refl w5).drew.trans eu1
  refine hK.out _ _ ⟨bx6 (Ba.ext F1), bx6 (Vir.ext F1)⟩ (fun hHeld => ?_)
  clear hK K eu1
  refine wpAnyH_take (i := 5) (v := ?_) rfl (by as_aux_lemma => kernel_rfl) (by as_aux_lemma => kernel_rfl) (by as_aux_lemma => kernel_rfl) (fun _ _ _ h => h) (Or.inl ⟨by rfl, ?_⟩) (by assumption) ?_
  rotate_left
  · (intro w hSw; (try dsimp only at hSw); go_simp); (try with_reducible rfl)
  simp only [List.getElem_toArray, List.getElem_cons_zero, List.getElem_cons_succ, Act.put, List.setIfInBounds_toArray, List.set_cons_zero, List.set_cons_succ]
  refine wpAnyH_take (i := 6) (v := ?_) rfl (by as_aux_lemma => kernel_rfl) (by as_aux_lemma => kernel_rfl) (by as_aux_lemma => kernel_rfl) (fun _ _ _ h => h) (Or.inl ⟨by rfl, ?_⟩) (by assumption) ?_
  rotate_left
  · (intro w hSw; (try dsimp only at hSw); go_simp); (try with_reducible rfl)
  simp only [List.getElem_toArray, List.getElem_cons_zero, List.getElem_cons_succ, Act.put, List.setIfInBounds_toArray, List.set_cons_zero, List.set_cons_succ]
  refine wpAnyH_take (i := 7) (v := ?_) rfl (by as_aux_lemma => kernel_rfl) (by as_aux_lemma => kernel_rfl) (by as_aux_lemma => kernel_rfl) (fun _ _ _ h => h) (Or.inl ⟨by rfl, ?_⟩) (by assumption) ?_
  rotate_left
  · (intro w hSw; (try dsimp only at hSw); go_simp); (try with_reducible rfl)
  simp only [List.getElem_toArray, List.getElem_cons_zero, List.getElem_cons_succ, Act.put, List.setIfInBounds_toArray, List.set_cons_zero, List.set_cons_succ]
  refine wpAnyH_take (i := 11) (v := ?_) rfl (by as_aux_lemma => kernel_rfl) (by as_aux_lemma => kernel_rfl) (by as_aux_lemma => kernel_rfl) (fun _ _ _ h => h) (Or.inl ⟨by rfl, ?_⟩) (by assumption) ?_
  rotate_left
  · (intro w hSw; (try dsimp only at hSw); go_simp); (try with_reducible rfl)
  simp only [List.getElem_toArray, List.getElem_cons_zero, List.getElem_cons_succ, Act.put, List.setIfInBounds_toArray, List.set_cons_zero, List.set_cons_succ]
  refine wpAnyH_take (i := 8) (v := ?_) rfl (by as_aux_lemma => kernel_rfl) (by as_aux_lemma => kernel_rfl) (by as_aux_lemma => kernel_rfl) (fun _ _ _ h => h) (Or.inl ⟨by rfl, ?_⟩) (by assumption) ?_
  rotate_left
  · (intro w hSw; (try dsimp only at hSw); go_simp); (try with_reducible rfl)
  simp only [List.getElem_toArray, List.getElem_cons_zero, List.getElem_cons_succ, Act.put, List.setIfInBounds_toArray, List.set_cons_zero, List.set_cons_succ]
  refine wpAnyH_take (i := 9) (v := ?_) rfl (by as_aux_lemma => kernel_rfl) (by as_aux_lemma => kernel_rfl) (by as_aux_lemma => kernel_rfl) (fun _ _ _ h => h) (Or.inl ⟨by rfl, ?_⟩) (by assumption) ?_
  rotate_left
  · (intro w hSw; (try dsimp only at hSw); go_simp); (try with_reducible rfl)
  simp only [List.getElem_toArray, List.getElem_cons_zero, List.getElem_cons_succ, Act.put, List.setIfInBounds_toArray, List.set_cons_zero, List.set_cons_succ]
  refine wpAnyH_ready (rs := [10]) (by as_aux_lemma => kernel_rfl) (by simp) ?_
  refine AllReadyH.cons rfl (fun K hK => ?_) AllReadyH.nil
  go_simp
  refine (rlenx_lit _ _ _ B2 (HQ.out.2.2.2.2.2.1) (NH.ext F1) t2).mono ?_
  rintro _ u2 ⟨rfl, eu2⟩
  have F2 : Ext w5 u2 := F1.trans eu2
  refine hK.out _ _ ⟨bx6 (Ba.ext F2), bx6 (Vir.ext F2)⟩ (fun hHeld => ?_)
  clear hK K eu2 F1
  refine wpAnyH_take (i := 12) (v := ?_) rfl (by as_aux_lemma => kernel_rfl) (by as_aux_lemma => kernel_rfl) (by as_aux_lemma => kernel_rfl) (fun _ _ _ h => h) (Or.inl ⟨by rfl, ?_⟩) (by assumption) ?_
  rotate_left
  · (intro w hSw; (try dsimp only at hSw); go_simp); (try with_reducible rfl)
  simp only [List.getElem_toArray, List.getElem_cons_zero, List.getElem_cons_succ, Act.put, List.setIfInBounds_toArray, List.set_cons_zero, List.set_cons_succ]
  refine wpAnyH_take (i := 13) (v := ?_) rfl (by as_aux_lemma => kernel_rfl) (by as_aux_lemma => kernel_rfl) (by as_aux_lemma => kernel_rfl) (fun _ _ _ h => h) (Or.inl ⟨by rfl, ?_⟩) (by assumption) ?_
  rotate_left
  · (intro w hSw; (try dsimp only at hSw); go_simp); (try with_reducible rfl)
  simp only [List.getElem_toArray, List.getElem_cons_zero, List.getElem_cons_succ, Act.put, List.setIfInBounds_toArray, List.set_cons_zero, List.set_cons_succ]
  refine wpAnyH_take (i := 14) (v := ?_) rfl (by as_aux_lemma => kernel_rfl) (by as_aux_lemma => kernel_rfl) (by as_aux_lemma => kernel_rfl) (fun _ _ _ h => h) (Or.inl ⟨by rfl, ?_⟩) (by assumption) ?_
  rotate_left
  · (intro w hSw; (try dsimp only at hSw); go_simp); (try with_reducible rfl)
  simp only [List.getElem_toArray, List.getElem_cons_zero, List.getElem_cons_succ, Act.put, List.setIfInBounds_toArray, List.set_cons_zero, List.set_cons_succ]
  refine wpAnyH_take (i := 15) (v := ?_) rfl (by as_aux_lemma => kernel_rfl) (by as_aux_lemma => kernel_rfl) (by as_aux_lemma => kernel_rfl) (fun _ _ _ h => h) (Or.inl ⟨by rfl, ?_⟩) (by assumption) ?_
  rotate_left
  · (intro w hSw; (try dsimp only at hSw); go_simp); (try with_reducible rfl)
  simp only [List.getElem_toArray, List.getElem_cons_zero, List.getElem_cons_succ, Act.put, List.setIfInBounds_toArray, List.set_cons_zero, List.set_cons_succ]
  refine wpAnyH_take (i := 16) (v := ?_) rfl (by as_aux_lemma => kernel_rfl) (by as_aux_lemma => kernel_rfl) (by as_aux_lemma => kernel_rfl) (fun _ _ _ h => h) (Or.inl ⟨by rfl, ?_⟩) (by assumption) ?_
  rotate_left
  · (intro w hSw; (try dsimp only at hSw); go_simp); (try with_reducible rfl)
  simp only [List.getElem_toArray, List.getElem_cons_zero, List.getElem_cons_succ, Act.put, List.setIfInBounds_toArray, List.set_cons_zero, List.set_cons_succ]
  refine wpAnyH_ready (rs := [17]) (by as_aux_lemma => kernel_rfl) (by simp) ?_
  refine AllReadyH.cons rfl (fun K hK => ?_) AllReadyH.nil
  go_simp
  refine (rsign_lit _ _ L 1 (HQ.out.2.2.1) (ir.ext F2).lo).mono ?_
  rintro _ u3 ⟨rfl, eu3⟩
  have F3 : Ext w5 u3 := F2.trans eu3
  refine hK.out _ _ ⟨bx6 (Ba.ext F3), bx6 (Vir.ext F3)⟩ (fun hHeld => ?_)
  clear hK K eu3 F2
  refine wpAnyH_take (i := 18) (v := ?_) rfl (by as_aux_lemma => kernel_rfl) (by as_aux_lemma => kernel_rfl) (by as_aux_lemma => kernel_rfl) (fun _ _ _ h => h) (Or.inl ⟨by rfl, ?_⟩) (by assumption) ?_
  rotate_left
  · (intro w hSw; (try dsimp only at hSw); go_simp); (try with_reducible rfl)
  simp only [List.getElem_toArray, List.getElem_cons_zero, List.getElem_cons_succ, Act.put, List.setIfInBounds_toArray, List.set_cons_zero, List.set_cons_succ]
  refine wpAnyH_take (i := 19) (v := ?_) rfl (by as_aux_lemma => kernel_rfl) (by as_aux_lemma => kernel_rfl) (by as_aux_lemma => kernel_rfl) (fun _ _ _ h => h) (Or.inl ⟨by rfl, ?_⟩) (by assumption) ?_
  rotate_left
  · (intro w hSw; (try dsimp only at hSw); go_simp); (try with_reducible rfl)
  simp only [List.getElem_toArray, List.getElem_cons_zero, List.getElem_cons_succ, Act.put, List.setIfInBounds_toArray, List.set_cons_zero, List.set_cons_succ]
  refine wpAnyH_take (i := 20) (v := ?_) rfl (by as_aux_lemma => kernel_rfl) (by as_aux_lemma => kernel_rfl) (by as_aux_lemma => kernel_rfl) (fun _ _ _ h => h) (Or.inl ⟨by rfl, ?_⟩) (by assumption) ?_
  rotate_left
  · (intro w hSw; (try dsimp only at hSw); go_simp); (try with_reducible rfl)
  simp only [List.getElem_toArray, List.getElem_cons_zero, List.getElem_cons_succ, Act.put, List.setIfInBounds_toArray, List.set_cons_zero, List.set_cons_succ]
  refine wpAnyH_take (i := 21) (v := ?_) rfl (by as_aux_lemma => kernel_rfl) (by as_aux_lemma => kernel_rfl) (by as_aux_lemma => kernel_rfl) (fun _ _ _ h => h) (Or.inl ⟨by rfl, ?_⟩) (by assumption) ?_
  rotate_left
  · (intro w hSw; (try dsimp only at hSw); go_simp); (try with_reducible rfl)
  simp only [List.getElem_toArray, List.getElem_cons_zero, List.getElem_cons_succ, Act.put, List.setIfInBounds_toArray, List.set_cons_zero, List.set_cons_succ]
  refine wpAnyH_take (i := 23) (v := ?_) rfl (by as_aux_lemma => kernel_rfl) (by as_aux_lemma => kernel_rfl) (by as_aux_lemma => kernel_rfl) (fun _ _ _ h => h) (Or.inl ⟨by rfl, ?_⟩) (by assumption) ?_
  rotate_left
  · (intro w hSw; (try dsimp only at hSw); go_simp); (try with_reducible rfl)
  simp only [List.getElem_toArray, List.getElem_cons_zero, List.getElem_cons_succ, Act.put, List.setIfInBounds_toArray, List.set_cons_zero, List.set_cons_succ]
  refine wpAnyH_take (i := 26) (v := ?_) rfl (by as_aux_lemma => kernel_rfl) (by as_aux_lemma => kernel_rfl) (by as_aux_lemma => kernel_rfl) (fun _ _ _ h => h) (Or.inl ⟨by rfl, ?_⟩) (by assumption) ?_
  rotate_left
  · (intro w hSw; (try dsimp only at hSw); go_simp); (try with_reducible rfl)
  simp only [List.getElem_toArray, List.getElem_cons_zero, List.getElem_cons_succ, Act.put, List.setIfInBounds_toArray, List.set_cons_zero, List.set_cons_succ]
  refine wpAnyH_take (i := 22) (v := ?_) rfl (by as_aux_lemma => kernel_rfl) (by as_aux_lemma => kernel_rfl) (by as_aux_lemma => kernel_rfl) (fun _ _ _ h => h) (Or.inl ⟨by rfl, ?_⟩) (by assumption) ?_
  rotate_left
  · (intro w hSw; (try dsimp only at hSw); go_simp); (try with_reducible rfl)
  simp only [List.getElem_toArray, List.getElem_cons_zero, List.getElem_cons_succ, Act.put, List.setIfInBounds_toArray, List.set_cons_zero, List.set_cons_succ]
  refine wpAnyH_take (i := 24) (v := ?_) rfl (by as_aux_lemma => kernel_rfl) (by as_aux_lemma => kernel_rfl) (by as_aux_lemma => kernel_rfl) (fun _ _ _ h => h) (Or.inl ⟨by rfl, ?_⟩) (by assumption) ?_
  rotate_left
  · (intro w hSw; (try dsimp only at hSw); go_simp); (try with_reducible rfl)
  simp only [List.getElem_toArray, List.getElem_cons_zero, List.getElem_cons_succ, Act.put, List.setIfInBounds_toArray, List.set_cons_zero, List.set_cons_succ]
  refine wpAnyH_take (i := 27) (v := ?_) rfl (by as_aux_lemma => kernel_rfl) (by as_aux_lemma => kernel_rfl) (by as_aux_lemma => kernel_rfl) (fun _ _ _ h => h) (Or.inl ⟨by rfl, ?_⟩) (by assumption) ?_
  rotate_left
  · (intro w hSw; (try dsimp only at hSw); go_simp); (try with_reducible rfl)
  simp only [List.getElem_toArray, List.getElem_cons_zero, List.getElem_cons_succ, Act.put, List.setIfInBounds_toArray, List.set_cons_zero, List.set_cons_succ]
  refine wpAnyH_ready (rs := [25]) (by as_aux_lemma => kernel_rfl) (by simp) ?_
  refine AllReadyH.cons rfl (fun K hK => ?_) AllReadyH.nil
  go_simp
  refine (rmulD_any _ _ _ L L 260 1046 260 1046 (ir.ext F3).lo (ir.ext F3).lo a3 a3 (by omega) (by omega)).mono ?_
  rintro _ u4 ⟨vu4, rfl, m4, eu4⟩
  have F4 : Ext w5 u4 := F3.trans eu4
  refine hK.out _ _ ⟨bx6 (Ba.ext F4), bx6 (Vir.ext F4)⟩ (fun hHeld => ?_)
  clear hK K eu4 F3
  refine wpAnyH_ready (rs := [28]) (by as_aux_lemma => kernel_rfl) (by simp) ?_
  refine AllReadyH.cons rfl (fun K hK => ?_) AllReadyH.nil
  go_simp
  refine (rcmpx_lit _ _ _ (L * L) la 520 2092 c1 (HQ.out.1) m4 (na.ext F4).lo r1 rla1 (by omega)).mono ?_
  rintro _ u5 ⟨rfl, eu5⟩
  have F5 : Ext w5 u5 := F4.trans eu5
  replace m4 := m4.ext eu5
  refine hK.out _ _ ⟨bx6 (Ba.ext F5), bx6 (Vir.ext F5)⟩ (fun hHeld => ?_)
  clear hK K eu5 F4
  refine wpAnyH_take (i := 29) (v := ?_) rfl (by as_aux_lemma => kernel_rfl) (by as_aux_lemma => kernel_rfl) (by as_aux_lemma => kernel_rfl) (fun _ _ _ h => h) (Or.inl ⟨by rfl, ?_⟩) (by assumption) ?_
  rotate_left
  · (intro w hSw; (try dsimp only at hSw); go_simp); (try with_reducible rfl)
  simp only [List.getElem_toArray, List.getElem_cons_zero, List.getElem_cons_succ, Act.put, List.setIfInBounds_toArray, List.set_cons_zero, List.set_cons_succ]
  refine wpAnyH_take (i := 30) (v := ?_) rfl (by as_aux_lemma => kernel_rfl) (by as_aux_lemma => kernel_rfl) (by as_aux_lemma => kernel_rfl) (fun _ _ _ h => h) (Or.inl ⟨by rfl, ?_⟩) (by assumption) ?_
  rotate_left
  · (intro w hSw; (try dsimp only at hSw); go_simp); (try with_reducible rfl)
  simp only [List.getElem_toArray, List.getElem_cons_zero, List.getElem_cons_succ, Act.put, List.setIfInBounds_toArray, List.set_cons_zero, List.set_cons_succ]
  refine wpAnyH_take (i := 31) (v := ?_) rfl (by as_aux_lemma => kernel_rfl) (by as_aux_lemma => kernel_rfl) (by as_aux_lemma => kernel_rfl) (fun _ _ _ h => h) (Or.inl ⟨by rfl, ?_⟩) (by assumption) ?_
  rotate_left
  · (intro w hSw; (try dsimp only at hSw); go_simp); (try with_reducible rfl)
  simp only [List.getElem_toArray, List.getElem_cons_zero, List.getElem_cons_succ, Act.put, List.setIfInBounds_toArray, List.set_cons_zero, List.set_cons_succ]
  refine wpAnyH_take (i := 32) (v := ?_) rfl (by as_aux_lemma => kernel_rfl) (by as_aux_lemma => kernel_rfl) (by as_aux_lemma => kernel_rfl) (fun _ _ _ h => h) (Or.inl ⟨by rfl, ?_⟩) (by assumption) ?_
  rotate_left
  · (intro w hSw; (try dsimp only at hSw); go_simp); (try with_reducible rfl)
  simp only [List.getElem_toArray, List.getElem_cons_zero, List.getElem_cons_succ, Act.put, List.setIfInBounds_toArray, List.set_cons_zero, List.set_cons_succ]
  refine wpAnyH_take (i := 34) (v := ?_) rfl (by as_aux_lemma => kernel_rfl) (by as_aux_lemma => kernel_rfl) (by as_aux_lemma => kernel_rfl) (fun _ _ _ h => h) (Or.inl ⟨by rfl, ?_⟩) (by assumption) ?_
  rotate_left
  · (intro w hSw; (try dsimp only at hSw); go_simp); (try with_reducible rfl)
  simp only [List.getElem_toArray, List.getElem_cons_zero, List.getElem_cons_succ, Act.put, List.setIfInBounds_toArray, List.set_cons_zero, List.set_cons_succ]
  refine wpAnyH_take (i := 37) (v := ?_) rfl (by as_aux_lemma => kernel_rfl) (by as_aux_lemma => kernel_rfl) (by as_aux_lemma => kernel_rfl) (fun _ _ _ h => h) (Or.inl ⟨by rfl, ?_⟩) (by assumption) ?_
  rotate_left
  · (intro w hSw; (try dsimp only at hSw); go_simp); (try with_reducible rfl)
  simp only [List.getElem_toArray, List.getElem_cons_zero, List.getElem_cons_succ, Act.put, List.setIfInBounds_toArray, List.set_cons_zero, List.set_cons_succ]
  refine wpAnyH_take (i := 33) (v := ?_) rfl (by as_aux_lemma => kernel_rfl) (by as_aux_lemma => kernel_rfl) (by as_aux_lemma => kernel_rfl) (fun _ _ _ h => h) (Or.inl ⟨by rfl, ?_⟩) (by assumption) ?_
  rotate_left
  · (intro w hSw; (try dsimp only at hSw); go_simp); (try with_reducible rfl)
  simp only [List.getElem_toArray, List.getElem_cons_zero, List.getElem_cons_succ, Act.put, List.setIfInBounds_toArray, List.set_cons_zero, List.set_cons_succ]
  refine wpAnyH_take (i := 35) (v := ?_) rfl (by as_aux_lemma => kernel_rfl) (by as_aux_lemma => kernel_rfl) (by as_aux_lemma => kernel_rfl) (fun _ _ _ h => h) (Or.inl ⟨by rfl, ?_⟩) (by assumption) ?_
  rotate_left
  · (intro w hSw; (try dsimp only at hSw); go_simp); (try with_reducible rfl)
  simp only [List.getElem_toArray, List.getElem_cons_zero, List.getElem_cons_succ, Act.put, List.setIfInBounds_toArray, List.set_cons_zero, List.set_cons_succ]
  refine wpAnyH_take (i := 38) (v := ?_) rfl (by as_aux_lemma => kernel_rfl) (by as_aux_lemma => kernel_rfl) (by as_aux_lemma => kernel_rfl) (fun _ _ _ h => h) (Or.inl ⟨by rfl, ?_⟩) (by assumption) ?_
  rotate_left
  · (intro w hSw; (try dsimp only at hSw); go_simp); (try with_reducible rfl)
  simp only [List.getElem_toArray, List.getElem_cons_zero, List.getElem_cons_succ, Act.put, List.setIfInBounds_toArray, List.set_cons_zero, List.set_cons_succ]
  refine wpAnyH_ready (rs := [36]) (by as_aux_lemma => kernel_rfl) (by simp) ?_
  refine AllReadyH.cons rfl (fun K hK => ?_) AllReadyH.nil
  go_simp
  refine (rmulD_any _ _ _ H H 260 1046 260 1046 (ir.ext F5).hi (ir.ext F5).hi a8 a8 (by omega) (by omega)).mono ?_
  rintro _ u6 ⟨vu6, rfl, m6, eu6⟩
  have F6 : Ext w5 u6 := F5.trans eu6
  refine hK.out _ _ ⟨bx6 (Ba.ext F6), bx6 (Vir.ext F6)⟩ (fun hHeld => ?_)
  clear hK K eu6 F5 m4
  refine wpAnyH_ready (rs := [39]) (by as_aux_lemma => kernel_rfl) (by simp) ?_
  refine AllReadyH.cons rfl (fun K hK => ?_) AllReadyH.nil
  go_simp
  refine (rcmpx_lit _ _ _ (H * H) ha 520 2092 c2 (HQ.out.2.1) m6 (na.ext F6).hi r2 rha1 (by omega)).mono ?_
  rintro _ u7 ⟨rfl, eu7⟩
  have F7 : Ext w5 u7 := F6.trans eu7
  replace m6 := m6.ext eu7
  refine hK.out _ _ ⟨bx6 (Ba.ext F7), bx6 (Vir.ext F7)⟩ (fun hHeld => ?_)
  clear hK K eu7 F6
  refine wpAnyH_take (i := 40) (v := ?_) rfl (by as_aux_lemma => kernel_rfl) (by as_aux_lemma => kernel_rfl) (by as_aux_lemma => kernel_rfl) (fun _ _ _ h => h) (Or.inl ⟨by rfl, ?_⟩) (by assumption) ?_
  rotate_left
  · (intro w hSw; (try dsimp only at hSw); go_simp); (try with_reducible rfl)
  simp only [List.getElem_toArray, List.getElem_cons_zero, List.getElem_cons_succ, Act.put, List.setIfInBounds_toArray, List.set_cons_zero, List.set_cons_succ]
  refine wpAnyH_take (i := 41) (v := ?_) rfl (by as_aux_lemma => kernel_rfl) (by as_aux_lemma => kernel_rfl) (by as_aux_lemma => kernel_rfl) (fun _ _ _ h => h) (Or.inl ⟨by rfl, ?_⟩) (by assumption) ?_
  rotate_left
  · (intro w hSw; (try dsimp only at hSw); go_simp); (try with_reducible rfl)
  simp only [List.getElem_toArray, List.getElem_cons_zero, List.getElem_cons_succ, Act.put, List.setIfInBounds_toArray, List.set_cons_zero, List.set_cons_succ]
  refine wpAnyH_done (by as_aux_lemma => kernel_rfl) ?_ _
  replace T := T.ext F7
  replace na := na.ext F7
  replace ir := ir.ext F7
  replace NL := NL.ext F7
  replace NH := NH.ext F7
  replace Ba := Ba.ext F7
  replace Vir := Vir.ext F7
  have E6x := E5.trans F7
  clear F7 E5 Ba_0 Ba_1 Ba_2 Ba_3 Ba_4 Ba_5 Ba_l Vir_0 Vir_1 Vir_2 Vir_3 Vir_4 Vir_5 Vir_l hHeld
  clear m6 d1 d2 d3 d4
  obtain ⟨Ba_0, Ba_1, Ba_2, Ba_3, Ba_4, Ba_5⟩ := id Ba
  have Ba_l := World.block_lt_of_cell? _ _ Ba_0
  go_wp2_with fail
  refine (rsign_lit _ _ la 1 (HQ.out.2.2.2.1) na.lo).mono ?_
  rintro _ w7 ⟨rfl, f7⟩
  clear Ba_0 Ba_1 Ba_2 Ba_3 Ba_4 Ba_5 Ba_l
  have e7 : Ext u7 w7 := (Ext.refl u7).trans f7
  replace T := T.ext e7
  replace na := na.ext e7
  replace ir := ir.ext e7
  replace NL := NL.ext e7
  replace NH := NH.ext e7
  replace Ba := Ba.ext e7
  replace Vir := Vir.ext e7
  have E7 : Ext w w7 := E6x.trans e7
  clear e7 f7 E6x
  have hlt := World.block_lt_of_cell? w7 _ Vir.c0
  simp only at hlt
  go_upto_region 14 with fail
  go_cut [9] from 10 (fun px wx => ∃ (gx : Nat) (x y z : Value), px = .pointer (some ⟨gx, 0, none⟩) ∧ Box wx gx x y z ∧ Dn wx (.agg #[x, y, z]) G ∧ Ext w7 wx)
  case first =>
    obtain ⟨v0, v1, v2, v3, v4, v5⟩ := id Vir
    have hna : w3.heap.size ≠ w7.heap.size := by omega
    have hna1 : w3.heap.size ≠ w7.heap.size + 1 := by omega
    have hw1 : IntKind.i64.wrap (jir + B1) = jir + B1 := IntWalk.i64_in _ (by omega)
    have hw2 : IntKind.i64.wrap (jir + B1 - (k : Int)) = jir + B1 - (k : Int) := IntWalk.i64_in _ (by omega)
    have HL : Hid (∀ (w' : World) (E : Ext w7 w'), Calls Tryd.prog 29 #[.slice Air lir cir] w' fun e w'' => e = .returned (.int .i64 B1) ∧ w' = w'') := Lib.hid (fun w' E => by rw [← (HQ.out.2.2.2.2.1)]; exact rlen_any w' _ _ (NL.ext E) t1)
    go_region_held3 (fun w' => w'.cell? ⟨w3.heap.size, 0, none⟩ = some (.bool bir) ∧ w'.cell? ⟨w3.heap.size, 1, none⟩ = some (.slice Air lir cir) ∧ w'.cell? ⟨w3.heap.size, 2, none⟩ = some (.int .i64 jir) ∧ w'.cell? ⟨w3.heap.size, 3, none⟩ = some (.bool bir') ∧ w'.cell? ⟨w3.heap.size, 4, none⟩ = some (.slice Air' lir' cir') ∧ w'.cell? ⟨w3.heap.size, 5, none⟩ = some (.int .i64 jir')) (first | (with_reducible exact bx6 (Vir.ext (Ext.refl _).drew)) | (with_reducible exact bx6 (Vir.ext ((Ext.refl _).alloc _).drew)) | (with_reducible exact bx6 (Vir.ext (((Ext.refl _).alloc _).alloc _).drew)) | (with_reducible exact bx6 (Vir.ext ((Ext.refl _).drew.alloc _))) | (with_reducible exact bx6 (Vir.ext (((Ext.refl _).drew.alloc _).alloc _))) | go_keep) (first | ((go_at_call 29); (refine (HL.out _ (by first | exact (Ext.refl _).drew | exact ((Ext.refl _).alloc _).drew | exact (((Ext.refl _).alloc _).alloc _).drew | exact (Ext.refl _).drew.alloc _ | exact ((Ext.refl _).drew.alloc _).alloc _)).mono ?_); (rintro _ _ ⟨rfl, rfl⟩)))
    all_goals (
      go_wp2_with fail
      go_meet
      case rel =>
        rw [← HQ.out.2.2.2.2.2.2.2.2]
        first
        | exact ⟨_, _, _, _, rfl, Box.at (Ext.refl _).drew (by simp), (lit_dn w7 1 _ 1 false _ (by omega) (by omega) (by omega) (by decide)).ext ((Ext.refl _).alloc _).drew, (((Ext.refl _).alloc _).alloc _).drew⟩
        | exact ⟨_, _, _, _, rfl, Box.at ((Ext.refl _).alloc _).drew (by simp), lit_nextx w7 _ 1 _ 1 false _ (by omega) (by omega) (by omega) (by decide), (((Ext.refl _).alloc _).alloc _).drew⟩)
  case rest =>
    obtain ⟨go, o0, o1, o2, rfl, Bo, no, F0⟩ := hcut
    replace T := T.ext F0
    replace na := na.ext F0
    replace ir := ir.ext F0
    replace NL := NL.ext F0
    replace NH := NH.ext F0
    replace Ba := Ba.ext F0
    replace Vir := Vir.ext F0
    replace E7 := E7.trans F0
    clear F0 hlt
    obtain ⟨Vir_0, Vir_1, Vir_2, Vir_3, Vir_4, Vir_5⟩ := id Vir
    have Vir_l := World.block_lt_of_cell? _ _ Vir_0
    obtain ⟨Bo_0, Bo_1, Bo_2⟩ := id Bo
    have Bo_l := World.block_lt_of_cell? _ _ Bo_0
    go_wp2_with fail
    refine (raddD_any _ _ _ L G 1046 1047 ir.lo no rL rG (by omega)).mono ?_
    rintro _ w18 ⟨v18, rfl, nn, f18⟩
    clear Vir_0 Vir_1 Vir_2 Vir_3 Vir_4 Vir_5 Vir_l Bo_0 Bo_1 Bo_2 Bo_l
    have e18 : Ext wc w18 := (Ext.refl wc).trans f18
    replace T := T.ext e18
    replace na := na.ext e18
    replace ir := ir.ext e18
    replace NL := NL.ext e18
    replace NH := NH.ext e18
    replace no := no.ext e18
    replace Ba := Ba.ext e18
    replace Vir := Vir.ext e18
    replace Bo := Bo.ext e18
    have E18 : Ext w w18 := E7.trans e18
    clear e18 f18 E7
    obtain ⟨bnn, Ann, lnn, cnn, jnn, rfl⟩ := nn.form
    go_wp2
    try simp only [List.append_eq, List.cons_append, List.nil_append]
    have Vn : Box (w18.alloc (.cells #[.bool bnn, .slice Ann lnn cnn, .int .i64 jnn] 24)) w18.heap.size (.bool bnn) (.slice Ann lnn cnn) (.int .i64 jnn) := Box.at (Ext.refl _) rfl
    have eV8 : Ext w18 (w18.alloc (.cells #[.bool bnn, .slice Ann lnn cnn, .int .i64 jnn] 24)) := (Ext.refl _).alloc _
    replace T := T.ext eV8
    replace na := na.ext eV8
    replace ir := ir.ext eV8
    replace NL := NL.ext eV8
    replace NH := NH.ext eV8
    replace no := no.ext eV8
    replace nn := nn.ext eV8
    replace Ba := Ba.ext eV8
    replace Vir := Vir.ext eV8
    replace Bo := Bo.ext eV8
    have EV8 := E18.trans eV8
    clear eV8 E18
    generalize hgen : (w18.alloc (.cells #[.bool bnn, .slice Ann lnn cnn, .int .i64 jnn] 24)) = V8 at *
    clear hgen
    obtain ⟨Ba_0, Ba_1, Ba_2, Ba_3, Ba_4, Ba_5⟩ := id Ba
    have Ba_l := World.block_lt_of_cell? _ _ Ba_0
    obtain ⟨Vir_0, Vir_1, Vir_2, Vir_3, Vir_4, Vir_5⟩ := id Vir
    have Vir_l := World.block_lt_of_cell? _ _ Vir_0
    obtain ⟨Vn_0, Vn_1, Vn_2⟩ := id Vn
    have Vn_l := World.block_lt_of_cell? _ _ Vn_0
    refine wp_region_held_drew (S := (fun w' => (w'.cell? ⟨w.heap.size, 0, none⟩ = some (.bool nba) ∧ w'.cell? ⟨w.heap.size, 1, none⟩ = some (Ma) ∧ w'.cell? ⟨w.heap.size, 2, none⟩ = some (.int .i64 ia) ∧ w'.cell? ⟨w.heap.size, 3, none⟩ = some (.bool nba') ∧ w'.cell? ⟨w.heap.size, 4, none⟩ = some (Ma') ∧ w'.cell? ⟨w.heap.size, 5, none⟩ = some (.int .i64 ia')) ∧ (w'.cell? ⟨w3.heap.size, 0, none⟩ = some (.bool bir) ∧ w'.cell? ⟨w3.heap.size, 1, none⟩ = some (.slice Air lir cir) ∧ w'.cell? ⟨w3.heap.size, 2, none⟩ = some (.int .i64 jir) ∧ w'.cell? ⟨w3.heap.size, 3, none⟩ = some (.bool bir') ∧ w'.cell? ⟨w3.heap.size, 4, none⟩ = some (.slice Air' lir' cir') ∧ w'.cell? ⟨w3.heap.size, 5, none⟩ = some (.int .i64 jir')) ∧ (w'.cell? ⟨w18.heap.size, 0, none⟩ = some (.bool bnn) ∧ w'.cell? ⟨w18.heap.size, 1, none⟩ = some (.slice Ann lnn cnn) ∧ w'.cell? ⟨w18.heap.size, 2, none⟩ = some (.int .i64 jnn)))) (by as_aux_lemma => kernel_rfl) ⟨bx6 (Ba.ext (Ext.refl V8).drew), bx6 (Vir.ext (Ext.refl V8).drew), box3 (Vn.ext (Ext.refl V8).drew)⟩ (fun hHeld => ?_)
    refine wpAnyH_take (i := 0) (v := ?_) rfl (by as_aux_lemma => kernel_rfl) (by as_aux_lemma => kernel_rfl) (by as_aux_lemma => kernel_rfl) (fun _ _ _ h => h) (Or.inl ⟨by rfl, ?_⟩) (by assumption) ?_
    rotate_left
    · (intro w hSw; (try dsimp only at hSw); go_simp); (try with_reducible rfl)
    simp only [List.getElem_toArray, List.getElem_cons_zero, Act.put, List.setIfInBounds_toArray, List.set_cons_zero, List.set_cons_succ]
    refine wpAnyH_take (i := 1) (v := ?_) rfl (by as_aux_lemma => kernel_rfl) (by as_aux_lemma => kernel_rfl) (by as_aux_lemma => kernel_rfl) (fun _ _ _ h => h) (Or.inl ⟨by rfl, ?_⟩) (by assumption) ?_
    rotate_left
    · (intro w hSw; (try dsimp only at hSw); go_simp); (try with_reducible rfl)
    simp only [List.getElem_toArray, List.getElem_cons_zero, List.getElem_cons_succ, Act.put, List.setIfInBounds_toArray, List.set_cons_zero, List.set_cons_succ]
    refine wpAnyH_take (i := 2) (v := ?_) rfl (by as_aux_lemma => kernel_rfl) (by as_aux_lemma => kernel_rfl) (by as_aux_lemma => kernel_rfl) (fun _ _ _ h => h) (Or.inl ⟨by rfl, ?_⟩) (by assumption) ?_
    rotate_left
    · (intro w hSw; (try dsimp only at hSw); go_simp); (try with_reducible rfl)
    simp only [List.getElem_toArray, List.getElem_cons_zero, List.getElem_cons_succ, Act.put, List.setIfInBounds_toArray, List.set_cons_zero, List.set_cons_succ]
    refine wpAnyH_take (i := 3) (v := ?_) rfl (by as_aux_lemma => kernel_rfl) (by as_aux_lemma => kernel_rfl) (by as_aux_lemma => kernel_rfl) (fun _ _ _ h => h) (Or.inl ⟨by rfl, ?_⟩) (by assumption) ?_
    rotate_left
    · (intro w hSw; (try dsimp only at hSw); go_simp); (try with_reducible rfl)
    simp only [List.getElem_toArray, List.getElem_cons_zero, List.getElem_cons_succ, Act.put, List.setIfInBounds_toArray, List.set_cons_zero, List.set_cons_succ]
    refine wpAnyH_ready (rs := [4]) (by as_aux_lemma => kernel_rfl) (by simp) ?_
    refine AllReadyH.cons rfl (fun K hK => ?_) AllReadyH.nil
    go_simp
    refine (rsign_lit _ _ L 1 (HQ.out.2.2.1) (ir.ext (Ext.refl V8).drew).lo).mono ?_
    rintro _ z1 ⟨rfl, ez1⟩
    have G_1 : Ext V8 z1 := (Ext.refl V8).drew.trans ez1
    refine hK.out _ _ ⟨bx6 (Ba.ext G_1), bx6 (Vir.ext G_1), box3 (Vn.ext G_1)⟩ (fun hHeld => ?_)
    clear hK K ez1
    refine wpAnyH_take (i := 5) (v := ?_) rfl (by as_aux_lemma => kernel_rfl) (by as_aux_lemma => kernel_rfl) (by as_aux_lemma => kernel_rfl) (fun _ _ _ h => h) (Or.inl ⟨by rfl, ?_⟩) (by assumption) ?_
    rotate_left
    · (intro w hSw; (try dsimp only at hSw); go_simp); (try with_reducible rfl)
    simp only [List.getElem_toArray, List.getElem_cons_zero, List.getElem_cons_succ, Act.put, List.setIfInBounds_toArray, List.set_cons_zero, List.set_cons_succ]
    refine wpAnyH_take (i := 6) (v := ?_) rfl (by as_aux_lemma => kernel_rfl) (by as_aux_lemma => kernel_rfl) (by as_aux_lemma => kernel_rfl) (fun _ _ _ h => h) (Or.inl ⟨by rfl, ?_⟩) (by assumption) ?_
    rotate_left
    · (intro w hSw; (try dsimp only at hSw); go_simp); (try with_reducible rfl)
    simp only [List.getElem_toArray, List.getElem_cons_zero, List.getElem_cons_succ, Act.put, List.setIfInBounds_toArray, List.set_cons_zero, List.set_cons_succ]
    refine wpAnyH_take (i := 7) (v := ?_) rfl (by as_aux_lemma => kernel_rfl) (by as_aux_lemma => kernel_rfl) (by as_aux_lemma => kernel_rfl) (fun _ _ _ h => h) (Or.inl ⟨by rfl, ?_⟩) (by assumption) ?_
    rotate_left
    · (intro w hSw; (try dsimp only at hSw); go_simp); (try with_reducible rfl)
    simp only [List.getElem_toArray, List.getElem_cons_zero, List.getElem_cons_succ, Act.put, List.setIfInBounds_toArray, List.set_cons_zero, List.set_cons_succ]
    refine wpAnyH_take (i := 8) (v := ?_) rfl (by as_aux_lemma => kernel_rfl) (by as_aux_lemma => kernel_rfl) (by as_aux_lemma => kernel_rfl) (fun _ _ _ h => h) (Or.inl ⟨by rfl, ?_⟩) (by assumption) ?_
    rotate_left
    · (intro w hSw; (try dsimp only at hSw); go_simp); (try with_reducible rfl)
    simp only [List.getElem_toArray, List.getElem_cons_zero, List.getElem_cons_succ, Act.put, List.setIfInBounds_toArray, List.set_cons_zero, List.set_cons_succ]
    refine wpAnyH_take (i := 9) (v := ?_) rfl (by as_aux_lemma => kernel_rfl) (by as_aux_lemma => kernel_rfl) (by as_aux_lemma => kernel_rfl) (fun _ _ _ h => h) (Or.inl ⟨by rfl, ?_⟩) (by assumption) ?_
    rotate_left
    · (intro w hSw; (try dsimp only at hSw); go_simp); (try with_reducible rfl)
    simp only [List.getElem_toArray, List.getElem_cons_zero, List.getElem_cons_succ, Act.put, List.setIfInBounds_toArray, List.set_cons_zero, List.set_cons_succ]
    refine wpAnyH_take (i := 11) (v := ?_) rfl (by as_aux_lemma => kernel_rfl) (by as_aux_lemma => kernel_rfl) (by as_aux_lemma => kernel_rfl) (fun _ _ _ h => h) (Or.inl ⟨by rfl, ?_⟩) (by assumption) ?_
    rotate_left
    · (intro w hSw; (try dsimp only at hSw); go_simp); (try with_reducible rfl)
    simp only [List.getElem_toArray, List.getElem_cons_zero, List.getElem_cons_succ, Act.put, List.setIfInBounds_toArray, List.set_cons_zero, List.set_cons_succ]
    refine wpAnyH_take (i := 12) (v := ?_) rfl (by as_aux_lemma => kernel_rfl) (by as_aux_lemma => kernel_rfl) (by as_aux_lemma => kernel_rfl) (fun _ _ _ h => h) (Or.inl ⟨by rfl, ?_⟩) (by assumption) ?_
    rotate_left
    · (intro w hSw; (try dsimp only at hSw); go_simp); (try with_reducible rfl)
    simp only [List.getElem_toArray, List.getElem_cons_zero, List.getElem_cons_succ, Act.put, List.setIfInBounds_toArray, List.set_cons_zero, List.set_cons_succ]
    refine wpAnyH_ready (rs := [10]) (by as_aux_lemma => kernel_rfl) (by simp) ?_
    refine AllReadyH.cons rfl (fun K hK => ?_) AllReadyH.nil
    go_simp
    refine (rmulD_any _ _ _ (L + G) (L + G) 1046 1048 1046 1048 (nn.ext G_1) (nn.ext G_1) rN rN (by omega) (by omega)).mono ?_
    rintro _ z2 ⟨vz2, rfl, k_2, ez2⟩
    have G_2 : Ext V8 z2 := G_1.trans ez2
    refine hK.out _ _ ⟨bx6 (Ba.ext G_2), bx6 (Vir.ext G_2), box3 (Vn.ext G_2)⟩ (fun hHeld => ?_)
    clear hK K ez2 G_1
    refine wpAnyH_ready (rs := [13]) (by as_aux_lemma => kernel_rfl) (by simp) ?_
    refine AllReadyH.cons rfl (fun K hK => ?_) AllReadyH.nil
    go_simp
    refine (rcmpx_lit _ _ _ ((L + G) * (L + G)) la 2092 2096 1 (HQ.out.2.2.2.2.2.2.2.1) k_2 (na.ext G_2).lo rM rla2 (by omega)).mono ?_
    rintro _ z3 ⟨rfl, ez3⟩
    have G_3 : Ext V8 z3 := G_2.trans ez3
    replace k_2 := k_2.ext ez3
    refine hK.out _ _ ⟨bx6 (Ba.ext G_3), bx6 (Vir.ext G_3), box3 (Vn.ext G_3)⟩ (fun hHeld => ?_)
    clear hK K ez3 G_2
    refine wpAnyH_take (i := 14) (v := ?_) rfl (by as_aux_lemma => kernel_rfl) (by as_aux_lemma => kernel_rfl) (by as_aux_lemma => kernel_rfl) (fun _ _ _ h => h) (Or.inl ⟨by rfl, ?_⟩) (by assumption) ?_
    rotate_left
    · (intro w hSw; (try dsimp only at hSw); go_simp); (try with_reducible rfl)
    simp only [List.getElem_toArray, List.getElem_cons_zero, List.getElem_cons_succ, Act.put, List.setIfInBounds_toArray, List.set_cons_zero, List.set_cons_succ]
    refine wpAnyH_take (i := 15) (v := ?_) rfl (by as_aux_lemma => kernel_rfl) (by as_aux_lemma => kernel_rfl) (by as_aux_lemma => kernel_rfl) (fun _ _ _ h => h) (Or.inl ⟨by rfl, ?_⟩) (by assumption) ?_
    rotate_left
    · (intro w hSw; (try dsimp only at hSw); go_simp); (try with_reducible rfl)
    simp only [List.getElem_toArray, List.getElem_cons_zero, List.getElem_cons_succ, Act.put, List.setIfInBounds_toArray, List.set_cons_zero, List.set_cons_succ]
    refine wpAnyH_take (i := 16) (v := ?_) rfl (by as_aux_lemma => kernel_rfl) (by as_aux_lemma => kernel_rfl) (by as_aux_lemma => kernel_rfl) (fun _ _ _ h => h) (Or.inl ⟨by rfl, ?_⟩) (by assumption) ?_
    rotate_left
    · (intro w hSw; (try dsimp only at hSw); go_simp); (try with_reducible rfl)
    simp only [List.getElem_toArray, List.getElem_cons_zero, List.getElem_cons_succ, Act.put, List.setIfInBounds_toArray, List.set_cons_zero, List.set_cons_succ]
    refine wpAnyH_done (by as_aux_lemma => kernel_rfl) ?_ _
    go_wp2
    go_ret
    exact ⟨rfl, EV8.trans G_3⟩
theorem walk_IvlRoot (w : World) (T : Tb w) (nba : Bool) (Ma : Value) (xa : List Int) (ia : Int) (rowa : Row w Ma xa) (bda : -9223372036854775808 ≤ ia ∧ ia ≤ 9223372036854775807) (nba' : Bool) (Ma' : Value) (xa' : List Int) (ia' : Int) (rowa' : Row w Ma' xa') (bda' : -9223372036854775808 ≤ ia' ∧ ia' ≤ 9223372036854775807) (n : Int) (bn : 0 ≤ n ∧ n ≤ 255) : Calls Tryd.prog 6 #[.agg #[.bool nba, Ma, .int .i64 ia, .bool nba', Ma', .int .i64 ia'], .int .u8 n] w (RetE w (.bool true)) := by
  cases hg : goodIs 1 (pk nba nba nba) (pk xa xa xa) (pk ia ia ia) (pk nba' nba' nba') (pk xa' xa' xa') (pk ia' ia' ia')
  · exact root_no w T nba Ma xa ia rowa bda nba' Ma' xa' ia' rowa' bda' n bn hg
  ·
    have hall := pk6_all (goodIs_true hg)
    obtain ⟨la, ha, na, oa, rla, rha⟩ := good_ivl rowa rowa' (hall.1 (by omega))
    obtain ⟨k, hkk⟩ : ∃ k : Nat, n % 60 + 1 = (k : Int) := ⟨(n % 60 + 1).toNat, by omega⟩
    by_cases h1 : la < 0
    · exact root_neg w T nba Ma xa ia rowa bda nba' Ma' xa' ia' rowa' bda' n bn hg la ha na oa rla rha k hkk (by omega) (by omega) h1
    · by_cases h2 : la = 0
      · exact root_zero w T nba Ma xa ia rowa bda nba' Ma' xa' ia' rowa' bda' n bn hg la ha na oa rla rha k hkk (by omega) (by omega) h2
      · exact root_pos w T nba Ma xa ia rowa bda nba' Ma' xa' ia' rowa' bda' n bn hg la ha na oa rla rha k hkk (by omega) (by omega) (by grind)
end Go.Proofs.YtimdglgianheiaaDoor
