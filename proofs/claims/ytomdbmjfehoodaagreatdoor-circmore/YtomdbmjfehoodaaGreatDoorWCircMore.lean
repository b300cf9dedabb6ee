/- The walk of CircMore. -/
import Derived.Test.YtomdbmjfehoodaaGreatDoorLH
import Derived.Test.YtomdbmjfehoodaaGreatDoorLG
set_option maxRecDepth 8000
namespace Go.Proofs.YtomdbmjfehoodaaGreatDoor
open Go.RowKit
set_option linter.unusedVariables false
set_option linter.unusedSimpArgs false
theorem inside_yes {l h l' h' : Dyadic} (h1 : l' ≤ l) (h3 : h ≤ h') : (decide (l' ≤ l) && decide (h ≤ h')) = true := by
  rw [Bool.and_eq_true, decide_eq_true_eq, decide_eq_true_eq]
  exact ⟨h1, h3⟩
theorem rinside_lit7 (w : World) (va vb : Value) (l h l' h' : Dyadic) (P Q : Nat) (h1 : l' ≤ l) (h2 : l ≤ h) (h3 : h ≤ h') (ha : In w va l h) (hb : In w vb l' h') (r1 : Rg P Q l) (r2 : Rg P Q h) (r3 : Rg P Q l') (r4 : Rg P Q h') (hp : P + Q ≤ 7200) : Calls Tryz.prog 36 #[va, vb] w (RetE w (.bool true)) := by
  have := rinside_any w va vb l h l' h' P Q ha hb r1 r2 r3 r4 hp
  rwa [inside_yes h1 h3] at this
theorem rcmp_lit8 (w : World) (va vb : Value) (x y : Dyadic) (P Q : Nat) (r : Int) (hr : cmpD x y = r) (ha : Dn w va x) (hb : Dn w vb y) (hx : Rg P Q x) (hy : Rg P Q y) (h1 : P + Q ≤ 7200) : Calls Tryz.prog 23 #[va, vb] w (RetE w (.int .i64 r)) := by
  subst hr; exact rcmpD_any w va vb x y P Q ha hb hx hy h1
theorem dn_exp8 {w : World} {b : Bool} {A : Option Addr} {l c : Nat} {e : Int} {d : Dyadic} {N : Nat} (h : Dn w (.agg #[.bool b, .slice A l c, .int .i64 e]) d) (hm : ∃ m : Int, d = dy m (-(N : Int))) : -(N : Int) ≤ e := by
  obtain ⟨M, z, e', hv, hN, hc, hd⟩ := h
  obtain ⟨m, rfl⟩ := hm
  simp only [Value.agg.injEq, Array.mk.injEq, List.cons.injEq, Value.int.injEq, and_true] at hv
  obtain ⟨_, _, _, rfl⟩ := hv
  have hb : Rg N (m.natAbs + 1) (dy m (-(N : Int))) := ⟨m, rfl, by
    have h1 := @Nat.lt_two_pow_self (m.natAbs)
    have h2 := pow2_mono (show m.natAbs ≤ N + (m.natAbs + 1) by omega)
    have h3 : ((2 ^ m.natAbs : Nat) : Int) = 2 ^ m.natAbs := by rw [Int.natCast_pow]; rfl
    omega, by
    have h1 := @Nat.lt_two_pow_self (m.natAbs)
    have h2 := pow2_mono (show m.natAbs ≤ N + (m.natAbs + 1) by omega)
    have h3 : ((2 ^ m.natAbs : Nat) : Int) = 2 ^ m.natAbs := by rw [Int.natCast_pow]; rfl
    omega⟩
  rw [hd] at hb
  exact (hb.canon hc).1
theorem dn_len0 {w : World} {b : Bool} {A : Option Addr} {l c : Nat} {e : Int} {d : Dyadic} (h : Dn w (.agg #[.bool b, .slice A l c, .int .i64 e]) d) [Decidable (d = 0)] : decide (d = 0) = decide (l = 0) := by
  obtain ⟨M, z, e', hv, hN, hc, rfl⟩ := h
  simp only [Value.agg.injEq, Array.mk.injEq, List.cons.injEq, Value.int.injEq, and_true] at hv
  obtain ⟨_, rfl, _⟩ := hv
  have h1 := dn_len hN
  have h2 : decide (l = 0) = ((l : Int) == 0) := by
    by_cases h : l = 0
    · subst h; rfl
    · rw [decide_eq_false h]; exact (beq_eq_false_iff_ne.2 (by omega)).symm
  rw [h2, h1]
  congr 1
  refine propext ⟨fun hd => ?_, fun hz => ?_⟩
  · have : z = 0 := dy_inj (hd.trans (dy_zero e').symm)
    rw [this]; rfl
  · have : z = 0 := by omega
    rw [this, dy_zero]
theorem goodD_lit (w : World) (nb : Bool) (M : Value) (xs : List Int) (e : Int) (r : Bool) (hr : goodAll 1 (pk nb nb nb) (pk xs xs xs) (pk e e e) = r) (row : Row w M xs) (be : -9223372036854775808 ≤ e ∧ e ≤ 9223372036854775807) : Calls Tryz.prog 11 #[.slice (some ⟨w.heap.size, 0, none⟩) 1 1] (w.alloc (.cells #[.bool nb, M, .int .i64 e] 26)) (RetE (w.alloc (.cells #[.bool nb, M, .int .i64 e] 26)) (.bool r)) := by
  subst hr; exact good_any _ _ 1 1 _ _ _ _ (by omega) (many1 w 26 nb M xs e row be)
set_option maxRecDepth 100000 in
set_option maxHeartbeats 4000000 in
theorem more_no (w : World) (T0 : Tu w) (K Q n n2 : Int) (nb : Bool) (M : Value) (xs : List Int) (e : Int) (row : Row w M xs) (be : -9223372036854775808 ≤ e ∧ e ≤ 9223372036854775807) (bK : -9223372036854775808 ≤ K ∧ K ≤ 9223372036854775807) (bQ : -9223372036854775808 ≤ Q ∧ Q ≤ 9223372036854775807) (hn : 0 ≤ n ∧ n ≤ 255) (hr : goodT K Q = false) :
    Calls Tryz.prog 8 #[.agg #[.int .i64 K, .int .i64 Q], .int .u8 n, .int .u8 n2, .agg #[.bool nb, M, .int .i64 e]] w (RetE w (.bool true)) := by
  have T := T0.tb
  have P := T0.pl
  clear T0
  go_enter Tryz.func8, Tryz.ntmps8
  go_wp2_with fail
  refine (headC_any _ (T.ext (((Ext.refl w).alloc _).alloc _)) (P.ext (((Ext.refl w).alloc _).alloc _))).mono ?_
  rintro _ w1 ⟨rfl, f1⟩
  have Bt0 : B2 w1 (w.heap.size) (.int .i64 K) (.int .i64 Q) := B2.at (((Ext.refl _).alloc _).trans f1) (by simp)
  have Bd : Box w1 (w.heap.size + 1) (.bool nb) (M) (.int .i64 e) := Box.at ((Ext.refl _).trans f1) (by simp)
  have e1 : Ext w w1 := (((Ext.refl w).alloc _).alloc _).trans f1
  replace T := T.ext e1
  replace P := P.ext e1
  replace row := row.ext e1
  have E1 : Ext w w1 := e1
  clear f1
  obtain ⟨Bt0_0, Bt0_1⟩ := _root_.id Bt0
  have Bt0_l := World.block_lt_of_cell? _ _ Bt0_0
  go_wp2_with fail
  refine (good1_any _ w1.heap.size K Q false hr bK bQ (B2.at (Ext.refl _) rfl)).mono ?_
  rintro _ w2 ⟨rfl, f2⟩
  clear Bt0_0 Bt0_1 Bt0_l
  have e2 : Ext w1 w2 := ((Ext.refl w1).alloc _).trans f2
  replace T := T.ext e2
  replace P := P.ext e2
  replace row := row.ext e2
  replace Bt0 := Bt0.ext e2
  replace Bd := Bd.ext e2
  have E2 : Ext w w2 := E1.trans e2
  clear e2 f2 E1
  go_wp2
  go_ret
  exact ⟨rfl, E2⟩
set_option maxRecDepth 100000 in
set_option maxHeartbeats 4000000 in
theorem more_bad (w : World) (T0 : Tu w) (K Q n n2 : Int) (nb : Bool) (M : Value) (xs : List Int) (e : Int) (row : Row w M xs) (be : -9223372036854775808 ≤ e ∧ e ≤ 9223372036854775807) (bK : -9223372036854775808 ≤ K ∧ K ≤ 9223372036854775807) (bQ : -9223372036854775808 ≤ Q ∧ Q ≤ 9223372036854775807) (hn : 0 ≤ n ∧ n ≤ 255) (hr : goodT K Q = true) (hg : goodAll 1 (pk nb nb nb) (pk xs xs xs) (pk e e e) = false) :
    Calls Tryz.prog 8 #[.agg #[.int .i64 K, .int .i64 Q], .int .u8 n, .int .u8 n2, .agg #[.bool nb, M, .int .i64 e]] w (RetE w (.bool true)) := by
  have T := T0.tb
  have P := T0.pl
  clear T0
  go_enter Tryz.func8, Tryz.ntmps8
  go_wp2_with fail
  refine (headC_any _ (T.ext (((Ext.refl w).alloc _).alloc _)) (P.ext (((Ext.refl w).alloc _).alloc _))).mono ?_
  rintro _ w1 ⟨rfl, f1⟩
  have Bt0 : B2 w1 (w.heap.size) (.int .i64 K) (.int .i64 Q) := B2.at (((Ext.refl _).alloc _).trans f1) (by simp)
  have Bd : Box w1 (w.heap.size + 1) (.bool nb) (M) (.int .i64 e) := Box.at ((Ext.refl _).trans f1) (by simp)
  have e1 : Ext w w1 := (((Ext.refl w).alloc _).alloc _).trans f1
  replace T := T.ext e1
  replace P := P.ext e1
  replace row := row.ext e1
  have E1 : Ext w w1 := e1
  clear f1
  obtain ⟨Bt0_0, Bt0_1⟩ := _root_.id Bt0
  have Bt0_l := World.block_lt_of_cell? _ _ Bt0_0
  go_wp2_with fail
  refine (good1_any _ w1.heap.size K Q true hr bK bQ (B2.at (Ext.refl _) rfl)).mono ?_
  rintro _ w2 ⟨rfl, f2⟩
  clear Bt0_0 Bt0_1 Bt0_l
  have e2 : Ext w1 w2 := ((Ext.refl w1).alloc _).trans f2
  replace T := T.ext e2
  replace P := P.ext e2
  replace row := row.ext e2
  replace Bt0 := Bt0.ext e2
  replace Bd := Bd.ext e2
  have E2 : Ext w w2 := E1.trans e2
  clear e2 f2 E1
  obtain ⟨Bd_0, Bd_1, Bd_2⟩ := _root_.id Bd
  have Bd_l := World.block_lt_of_cell? _ _ Bd_0
  go_wp2_with fail
  refine (goodD_lit _ nb M xs e false hg row be).mono ?_
  rintro _ w3 ⟨rfl, f3⟩
  clear Bd_0 Bd_1 Bd_2 Bd_l
  have e3 : Ext w2 w3 := ((Ext.refl w2).alloc _).trans f3
  replace T := T.ext e3
  replace P := P.ext e3
  replace row := row.ext e3
  replace Bt0 := Bt0.ext e3
  replace Bd := Bd.ext e3
  have E3 : Ext w w3 := E2.trans e3
  clear e3 f3 E2
  go_wp2
  go_ret
  exact ⟨rfl, E3⟩
set_option maxRecDepth 100000 in
set_option maxHeartbeats 4000000 in
theorem more_z (w : World) (T0 : Tu w) (K n n2 j j2 : Int) (Q N N2 : Nat) (nb : Bool) (M : Value) (xs : List Int) (e : Int) (row : Row w M xs) (be : -9223372036854775808 ≤ e ∧ e ≤ 9223372036854775807) (bK : -9223372036854775808 ≤ K ∧ K ≤ 9223372036854775807) (q14 : Q ≤ 14) (hn : 0 ≤ n ∧ n ≤ 255) (hn2 : 0 ≤ n2 ∧ n2 ≤ 255) (hr : goodT K (Q : Int) = true) (hg : goodAll 1 (pk nb nb nb) (pk xs xs xs) (pk e e e) = true) (hj : n % 70 + 1 = j) (hj2 : j + n2 % 20 = j2) (hN : j = (N : Int)) (N1 : 1 ≤ N) (N3 : N ≤ 70) (N4 : N2 ≤ 90)
    (c1 c2 s1 s2 a1 a2 bb1 bb2 d f : Dyadic) (nd : Dn w (.agg #[.bool nb, M, .int .i64 e]) d) (rd : Rg 200 392 d) (hf : flo N d = f) (hz : f = 0)
    (HC : Hid (∀ w', Tb w' → Pl w' → Calls Tryz.prog 14 #[.agg #[.int .i64 K, .int .i64 (Q : Int)], .int .i64 j] w' (RetI w' c1 c2)))
    (HS : Hid (∀ w', Tb w' → Pl w' → Calls Tryz.prog 16 #[.agg #[.int .i64 K, .int .i64 (Q : Int)], .int .i64 j] w' (RetI w' s1 s2)))
    (HA : Hid (∀ w', Tb w' → Pl w' → Calls Tryz.prog 14 #[.agg #[.int .i64 K, .int .i64 (Q : Int)], .int .i64 j2] w' (RetI w' a1 a2)))
    (HB : Hid (∀ w', Tb w' → Pl w' → Calls Tryz.prog 16 #[.agg #[.int .i64 K, .int .i64 (Q : Int)], .int .i64 j2] w' (RetI w' bb1 bb2)))
    (rc1 : Rg N2 1 c1) (rc2 : Rg N2 1 c2) (rs1 : Rg N2 1 s1) (rs2 : Rg N2 1 s2) (ra1 : Rg N2 1 a1) (ra2 : Rg N2 1 a2) (rb1 : Rg N2 1 bb1) (rb2 : Rg N2 1 bb2) (o1 : c1 ≤ a1) (o2 : a1 ≤ a2) (o3 : a2 ≤ c2) (p1 : s1 ≤ bb1) (p2 : bb1 ≤ bb2) (p3 : bb2 ≤ s2) :
    Calls Tryz.prog 8 #[.agg #[.int .i64 K, .int .i64 (Q : Int)], .int .u8 n, .int .u8 n2, .agg #[.bool nb, M, .int .i64 e]] w (RetE w (.bool true)) := by
  have bQ : -9223372036854775808 ≤ (Q : Int) ∧ (Q : Int) ≤ 9223372036854775807 := by omega
  obtain ⟨fm, ff, fl, fh⟩ := (flo_spec N d).out
  rw [hf] at ff fl
  have rf : Rg 300 393 f := by rw [← hf]; exact (flo_rgx rd).mono (by omega) (by omega)
  have rp : Rg 300 393 (eps N) := (rg_eps N).mono (by omega) (by omega)
  have rd3 : Rg 300 394 d := rd.mono (by omega) (by omega)
  obtain ⟨x1, hx1⟩ : ∃ x, cmpD f d = x := ⟨_, rfl⟩
  obtain ⟨x2, hx2⟩ : ∃ x, cmpD d (f + eps N) = x := ⟨_, rfl⟩
  have y1 : decide (x1 ≤ 0) = true := decide_eq_true (by rw [← hx1]; exact (cmp_le _ _).2 fl)
  have y2 : decide (x2 < 0) = true := decide_eq_true (by rw [← hx2]; refine (cmp_lt _ _).2 ?_; rw [ff]; unfold eps; rw [dy_add]; exact fh)
  have HX := Lib.hid (And.intro hx1 hx2)
  have HY := Lib.hid (And.intro y1 y2)
  have HF := Lib.hid (And.intro hf (show ∃ m : Int, f = dy m (-(N : Int)) from ⟨fm, ff⟩))
  have HN := Lib.hid hN
  have t1 : n2.tmod 20 = n2 % 20 := Int.tmod_eq_emod_of_nonneg hn2.1
  have t2 : IntKind.i64.wrap n2 = n2 := IntWalk.i64_in _ (by omega)
  have t3 : wrap64 n2 = n2 := by unfold wrap64; omega
  have t4 : wrap64 (j + n2 % 20) = j2 := by unfold wrap64; omega
  have t5 : wrap64 (n2 % 20) = n2 % 20 := by unfold wrap64; omega
  have t6 : IntKind.i64.wrap (n2 % 20) = n2 % 20 := IntWalk.i64_in _ (by omega)
  clear hx1 hx2 y1 y2 hN hf ff fl fh
  have T := T0.tb
  have P := T0.pl
  clear T0
  go_enter Tryz.func8, Tryz.ntmps8
  go_wp2_with fail
  refine (headC_any _ (T.ext (((Ext.refl w).alloc _).alloc _)) (P.ext (((Ext.refl w).alloc _).alloc _))).mono ?_
  rintro _ w1 ⟨rfl, f1⟩
  have Bt0 : B2 w1 (w.heap.size) (.int .i64 K) (.int .i64 (Q : Int)) := B2.at (((Ext.refl _).alloc _).trans f1) (by simp)
  have Bd : Box w1 (w.heap.size + 1) (.bool nb) (M) (.int .i64 e) := Box.at ((Ext.refl _).trans f1) (by simp)
  have e1 : Ext w w1 := (((Ext.refl w).alloc _).alloc _).trans f1
  replace T := T.ext e1
  replace P := P.ext e1
  replace row := row.ext e1
  have E1 : Ext w w1 := e1
  clear f1
  replace nd := nd.ext E1
  obtain ⟨Bt0_0, Bt0_1⟩ := _root_.id Bt0
  have Bt0_l := World.block_lt_of_cell? _ _ Bt0_0
  go_wp2_with fail
  refine (good1_any _ w1.heap.size K (Q : Int) true hr bK bQ (B2.at (Ext.refl _) rfl)).mono ?_
  rintro _ w2 ⟨rfl, f2⟩
  clear Bt0_0 Bt0_1 Bt0_l
  have e2 : Ext w1 w2 := ((Ext.refl w1).alloc _).trans f2
  replace T := T.ext e2
  replace P := P.ext e2
  replace row := row.ext e2
  replace nd := nd.ext e2
  replace Bt0 := Bt0.ext e2
  replace Bd := Bd.ext e2
  have E2 : Ext w w2 := E1.trans e2
  clear e2 f2 E1
  obtain ⟨Bd_0, Bd_1, Bd_2⟩ := _root_.id Bd
  have Bd_l := World.block_lt_of_cell? _ _ Bd_0
  go_wp2_with fail
  refine (goodD_lit _ nb M xs e true hg row be).mono ?_
  rintro _ w3 ⟨rfl, f3⟩
  clear Bd_0 Bd_1 Bd_2 Bd_l
  have e3 : Ext w2 w3 := ((Ext.refl w2).alloc _).trans f3
  replace T := T.ext e3
  replace P := P.ext e3
  replace row := row.ext e3
  replace nd := nd.ext e3
  replace Bt0 := Bt0.ext e3
  replace Bd := Bd.ext e3
  have E3 : Ext w w3 := E2.trans e3
  clear e3 f3 E2
  go_wp2_with fail
  refine (bits_any _ n j hn hj).mono ?_
  rintro _ w4 ⟨rfl, f4⟩
  have e4 : Ext w3 w4 := (Ext.refl w3).trans f4
  replace T := T.ext e4
  replace P := P.ext e4
  replace row := row.ext e4
  replace nd := nd.ext e4
  replace Bt0 := Bt0.ext e4
  replace Bd := Bd.ext e4
  have E4 : Ext w w4 := E3.trans e4
  clear e4 f4 E3
  have hj1 : -1000 ≤ j ∧ j ≤ 1000 := by have := HN.out; omega
  obtain ⟨Bd_0, Bd_1, Bd_2⟩ := _root_.id Bd
  have Bd_l := World.block_lt_of_cell? _ _ Bd_0
  go_wp2_with fail
  refine (floor_lit _ _ d f j N 200 392 HN.out HF.out.1 nd rd (by omega) (by omega) T).mono ?_
  rintro _ w5 ⟨v5, rfl, nf, f5⟩
  clear Bd_0 Bd_1 Bd_2 Bd_l
  have e5 : Ext w4 w5 := (Ext.refl w4).trans f5
  replace T := T.ext e5
  replace P := P.ext e5
  replace row := row.ext e5
  replace nd := nd.ext e5
  replace Bt0 := Bt0.ext e5
  replace Bd := Bd.ext e5
  have E5 : Ext w w5 := E4.trans e5
  clear e5 f5 E4
  clear hj hj2 hn hn2 hr hg bK bQ t1 t2 t3 t4 t5 t6
  obtain ⟨bnf, Anf, lnf, cnf, jnf, rfl⟩ := nf.form
  have ke : -j ≤ jnf := by have := dn_exp8 nf HF.out.2; have := HN.out; omega
  have ke2 : decide (-j ≤ jnf) = true := decide_eq_true ke
  have ke3 : decide (jnf ≥ -j) = true := decide_eq_true ke
  have ke4 : IntKind.i64.wrap (-j) = -j := IntWalk.i64_in _ (by omega)
  have kz : decide (lnf = 0) = true := by rw [← dn_len0 nf]; exact decide_eq_true hz
  have kz2 : ((lnf : Int) == 0) = true := by have h := of_decide_eq_true kz; subst h; rfl
  have kz3 : decide ((lnf : Int) = 0) = true := by have h := of_decide_eq_true kz; exact decide_eq_true (by omega)
  go_upto_region 7 with fail
  have Vf : Box (w5.alloc (.cells #[.bool bnf, .slice Anf lnf cnf, .int .i64 jnf] 26)) w5.heap.size (.bool bnf) (.slice Anf lnf cnf) (.int .i64 jnf) := Box.at (Ext.refl _) rfl
  have eW7 : Ext w5 (w5.alloc (.cells #[.bool bnf, .slice Anf lnf cnf, .int .i64 jnf] 26)) := (Ext.refl _).alloc _
  replace T := T.ext eW7
  replace P := P.ext eW7
  replace row := row.ext eW7
  replace nd := nd.ext eW7
  replace nf := nf.ext eW7
  replace Bt0 := Bt0.ext eW7
  replace Bd := Bd.ext eW7
  have EW7 := E5.trans eW7
  clear eW7 E5
  generalize hgen : (w5.alloc (.cells #[.bool bnf, .slice Anf lnf cnf, .int .i64 jnf] 26)) = W7 at *
  clear hgen
  obtain ⟨Vf_0, Vf_1, Vf_2⟩ := _root_.id Vf
  have Vf_l := World.block_lt_of_cell? _ _ Vf_0
  obtain ⟨Bd_0, Bd_1, Bd_2⟩ := _root_.id Bd
  have Bd_l := World.block_lt_of_cell? _ _ Bd_0
  go_upto_region 8 with fail
  try simp only [List.append_eq, List.cons_append, List.nil_append]
  have np : Dn ((W7.alloc (.cells #[.int .i64 1] 3)).alloc (.cells #[.bool false, .slice (some ⟨W7.heap.size, 0, none⟩) 1 1, .int .i64 (-j)] 26)) (.agg #[.bool false, .slice (some ⟨W7.heap.size, 0, none⟩) 1 1, .int .i64 (-j)]) (eps N) := (by have h := (lit_dn W7 1 (-j) 1 false 3 (by omega) (by omega) (by omega) (by rfl)).ext ((Ext.refl _).alloc (.cells #[.bool false, .slice (some ⟨W7.heap.size, 0, none⟩) 1 1, .int .i64 (-j)] 26)); rw [show dy 1 (-j) = eps N by rw [HN.out]; rfl] at h; exact h)
  have Vp : Box ((W7.alloc (.cells #[.int .i64 1] 3)).alloc (.cells #[.bool false, .slice (some ⟨W7.heap.size, 0, none⟩) 1 1, .int .i64 (-j)] 26)) (W7.heap.size + 1) (.bool false) (.slice (some ⟨W7.heap.size, 0, none⟩) 1 1) (.int .i64 (-j)) := Box.at (Ext.refl _) (by simp)
  have ep : Ext W7 ((W7.alloc (.cells #[.int .i64 1] 3)).alloc (.cells #[.bool false, .slice (some ⟨W7.heap.size, 0, none⟩) 1 1, .int .i64 (-j)] 26)) := ((Ext.refl _).alloc _).alloc _
  replace T := T.ext ep
  replace P := P.ext ep
  replace row := row.ext ep
  replace nd := nd.ext ep
  replace nf := nf.ext ep
  replace Bt0 := Bt0.ext ep
  replace Bd := Bd.ext ep
  replace Vf := Vf.ext ep
  have EP := EW7.trans ep
  clear ep EW7 Vf_0 Vf_1 Vf_2 Vf_l Bd_0 Bd_1 Bd_2 Bd_l
  generalize hgen : ((W7.alloc (.cells #[.int .i64 1] 3)).alloc (.cells #[.bool false, .slice (some ⟨W7.heap.size, 0, none⟩) 1 1, .int .i64 (-j)] 26)) = WP at *
  clear hgen
  generalize hgs : W7.heap.size = gp at *
  clear hgs
  obtain ⟨y1, y2⟩ := HY.out
  obtain ⟨Bt0_0, Bt0_1⟩ := _root_.id Bt0
  have Bt0_l := World.block_lt_of_cell? _ _ Bt0_0
  obtain ⟨Bd_0, Bd_1, Bd_2⟩ := _root_.id Bd
  have Bd_l := World.block_lt_of_cell? _ _ Bd_0
  obtain ⟨Vf_0, Vf_1, Vf_2⟩ := _root_.id Vf
  have Vf_l := World.block_lt_of_cell? _ _ Vf_0
  obtain ⟨Vp_0, Vp_1, Vp_2⟩ := _root_.id Vp
  have Vp_l := World.block_lt_of_cell? _ _ Vp_0
  refine wp_region_held_drew (S := (fun w' => (w'.cell? ⟨w.heap.size, 0, none⟩ = some (.int .i64 K) ∧ w'.cell? ⟨w.heap.size, 1, none⟩ = some (.int .i64 (Q : Int))) ∧ (w'.cell? ⟨w.heap.size + 1, 0, none⟩ = some (.bool nb) ∧ w'.cell? ⟨w.heap.size + 1, 1, none⟩ = some (M) ∧ w'.cell? ⟨w.heap.size + 1, 2, none⟩ = some (.int .i64 e)) ∧ (w'.cell? ⟨w5.heap.size, 0, none⟩ = some (.bool bnf) ∧ w'.cell? ⟨w5.heap.size, 1, none⟩ = some (.slice Anf lnf cnf) ∧ w'.cell? ⟨w5.heap.size, 2, none⟩ = some (.int .i64 jnf)) ∧ (w'.cell? ⟨gp + 1, 0, none⟩ = some (.bool false) ∧ w'.cell? ⟨gp + 1, 1, none⟩ = some (.slice (some ⟨gp, 0, none⟩) 1 1) ∧ w'.cell? ⟨gp + 1, 2, none⟩ = some (.int .i64 (-j))))) (by as_aux_lemma => kernel_rfl) ⟨b2 (Bt0.ext (Ext.refl WP).drew), box3 (Bd.ext (Ext.refl WP).drew), box3 (Vf.ext (Ext.refl WP).drew), box3 (Vp.ext (Ext.refl WP).drew)⟩ (fun hHeld => ?_)
  refine wpAnyH_take (i := 0) (v := ?_) rfl (by as_aux_lemma => kernel_rfl) (by as_aux_lemma => kernel_rfl) (by as_aux_lemma => kernel_rfl) (fun _ _ _ h => h) (Or.inl ⟨by rfl, ?_⟩) (by assumption) ?_
  rotate_left
  · (intro w hSw; (try dsimp only at hSw); go_simp); (try with_reducible rfl)
  simp only [List.getElem_toArray, List.getElem_cons_zero, Act.put, List.setIfInBounds_toArray, List.set_cons_zero, List.set_cons_succ]
  refine wpAnyH_take (i := 1) (v := ?_) rfl (by as_aux_lemma => kernel_rfl) (by as_aux_lemma => kernel_rfl) (by as_aux_lemma => kernel_rfl) (fun _ _ _ h => h) (Or.inl ⟨by rfl, ?_⟩) (by assumption) ?_
  rotate_left
  · (intro w hSw; (try dsimp only at hSw); go_simp); (try with_reducible rfl)
  simp only [List.getElem_toArray, List.getElem_cons_zero, List.getElem_cons_succ, Act.put, List.setIfInBounds_toArray, List.set_cons_zero, List.set_cons_succ]
  refine wpAnyH_take (i := 2) (v := ?_) rfl (by as_aux_lemma => kernel_rfl) (by as_aux_lemma => kernel_rfl) (by as_aux_lemma => kernel_rfl) (fun _ _ _ h => h) (Or.inl ⟨by rfl, ?_⟩) (by assumption) ?_
  rotate_left
  · (intro w hSw; (try dsimp only at hSw); go_simp); (try with_reducible rfl)
  simp only [List.getElem_toArray, List.getElem_cons_zero, List.getElem_cons_succ, Act.put, List.setIfInBounds_toArray, List.set_cons_zero, List.set_cons_succ]
  refine wpAnyH_take (i := 3) (v := ?_) rfl (by as_aux_lemma => kernel_rfl) (by as_aux_lemma => kernel_rfl) (by as_aux_lemma => kernel_rfl) (fun _ _ _ h => h) (Or.inl ⟨by rfl, ?_⟩) (by assumption) ?_
  rotate_left
  · (intro w hSw; (try dsimp only at hSw); go_simp); (try with_reducible rfl)
  simp only [List.getElem_toArray, List.getElem_cons_zero, List.getElem_cons_succ, Act.put, List.setIfInBounds_toArray, List.set_cons_zero, List.set_cons_succ]
  refine wpAnyH_take (i := 5) (v := ?_) rfl (by as_aux_lemma => kernel_rfl) (by as_aux_lemma => kernel_rfl) (by as_aux_lemma => kernel_rfl) (fun _ _ _ h => h) (Or.inl ⟨by rfl, ?_⟩) (by assumption) ?_
  rotate_left
  · (intro w hSw; (try dsimp only at hSw); go_simp); (try with_reducible rfl)
  simp only [List.getElem_toArray, List.getElem_cons_zero, List.getElem_cons_succ, Act.put, List.setIfInBounds_toArray, List.set_cons_zero, List.set_cons_succ]
  refine wpAnyH_take (i := 6) (v := ?_) rfl (by as_aux_lemma => kernel_rfl) (by as_aux_lemma => kernel_rfl) (by as_aux_lemma => kernel_rfl) (fun _ _ _ h => h) (Or.inl ⟨by rfl, ?_⟩) (by assumption) ?_
  rotate_left
  · (intro w hSw; (try dsimp only at hSw); go_simp); (try with_reducible rfl)
  simp only [List.getElem_toArray, List.getElem_cons_zero, List.getElem_cons_succ, Act.put, List.setIfInBounds_toArray, List.set_cons_zero, List.set_cons_succ]
  refine wpAnyH_ready (rs := [4]) (by as_aux_lemma => kernel_rfl) (by simp) ?_
  refine AllReadyH.cons rfl (fun K hK => ?_) AllReadyH.nil
  go_simp
  refine (HA.out _ (T.ext (Ext.refl WP).drew) (P.ext (Ext.refl WP).drew)).mono ?_
  rintro _ u1 ⟨vu1, rfl, mu1, eu1⟩
  have Fu1 : Ext WP u1 := (Ext.refl WP).drew.trans eu1
  refine hK.out _ _ ⟨b2 (Bt0.ext Fu1), box3 (Bd.ext Fu1), box3 (Vf.ext Fu1), box3 (Vp.ext Fu1)⟩ (fun hHeld => ?_)
  clear hK K eu1
  refine wpAnyH_ready (rs := [7]) (by as_aux_lemma => kernel_rfl) (by simp) ?_
  refine AllReadyH.cons rfl (fun K hK => ?_) AllReadyH.nil
  go_simp
  refine (HC.out _ (T.ext Fu1) (P.ext Fu1)).mono ?_
  rintro _ u2 ⟨vu2, rfl, mu2, eu2⟩
  have Fu2 : Ext WP u2 := Fu1.trans eu2
  replace mu1 := mu1.ext eu2
  refine hK.out _ _ ⟨b2 (Bt0.ext Fu2), box3 (Bd.ext Fu2), box3 (Vf.ext Fu2), box3 (Vp.ext Fu2)⟩ (fun hHeld => ?_)
  clear hK K eu2 Fu1
  refine wpAnyH_ready (rs := [8]) (by as_aux_lemma => kernel_rfl) (by simp) ?_
  refine AllReadyH.cons rfl (fun K hK => ?_) AllReadyH.nil
  go_simp
  refine (rinside_lit7 _ _ _ a1 a2 c1 c2 N2 1 o1 o2 o3 mu1 mu2 ra1 ra2 rc1 rc2 (by omega)).mono ?_
  rintro _ u3 ⟨rfl, eu3⟩
  have Fu3 : Ext WP u3 := Fu2.trans eu3
  replace mu1 := mu1.ext eu3
  replace mu2 := mu2.ext eu3
  refine hK.out _ _ ⟨b2 (Bt0.ext Fu3), box3 (Bd.ext Fu3), box3 (Vf.ext Fu3), box3 (Vp.ext Fu3)⟩ (fun hHeld => ?_)
  clear hK K eu3 Fu2
  refine wpAnyH_take (i := 9) (v := ?_) rfl (by as_aux_lemma => kernel_rfl) (by as_aux_lemma => kernel_rfl) (by as_aux_lemma => kernel_rfl) (fun _ _ _ h => h) (Or.inl ⟨by rfl, ?_⟩) (by assumption) ?_
  rotate_left
  · (intro w hSw; (try dsimp only at hSw); go_simp); (try with_reducible rfl)
  simp only [List.getElem_toArray, List.getElem_cons_zero, List.getElem_cons_succ, Act.put, List.setIfInBounds_toArray, List.set_cons_zero, List.set_cons_succ]
  refine wpAnyH_take (i := 10) (v := ?_) rfl (by as_aux_lemma => kernel_rfl) (by as_aux_lemma => kernel_rfl) (by as_aux_lemma => kernel_rfl) (fun _ _ _ h => h) (Or.inl ⟨by rfl, ?_⟩) (by assumption) ?_
  rotate_left
  · (intro w hSw; (try dsimp only at hSw); go_simp); (try with_reducible rfl)
  simp only [List.getElem_toArray, List.getElem_cons_zero, List.getElem_cons_succ, Act.put, List.setIfInBounds_toArray, List.set_cons_zero, List.set_cons_succ]
  refine wpAnyH_take (i := 11) (v := ?_) rfl (by as_aux_lemma => kernel_rfl) (by as_aux_lemma => kernel_rfl) (by as_aux_lemma => kernel_rfl) (fun _ _ _ h => h) (Or.inl ⟨by rfl, ?_⟩) (by assumption) ?_
  rotate_left
  · (intro w hSw; (try dsimp only at hSw); go_simp); (try with_reducible rfl)
  simp only [List.getElem_toArray, List.getElem_cons_zero, List.getElem_cons_succ, Act.put, List.setIfInBounds_toArray, List.set_cons_zero, List.set_cons_succ]
  refine wpAnyH_take (i := 12) (v := ?_) rfl (by as_aux_lemma => kernel_rfl) (by as_aux_lemma => kernel_rfl) (by as_aux_lemma => kernel_rfl) (fun _ _ _ h => h) (Or.inl ⟨by rfl, ?_⟩) (by assumption) ?_
  rotate_left
  · (intro w hSw; (try dsimp only at hSw); go_simp); (try with_reducible rfl)
  simp only [List.getElem_toArray, List.getElem_cons_zero, List.getElem_cons_succ, Act.put, List.setIfInBounds_toArray, List.set_cons_zero, List.set_cons_succ]
  refine wpAnyH_take (i := 14) (v := ?_) rfl (by as_aux_lemma => kernel_rfl) (by as_aux_lemma => kernel_rfl) (by as_aux_lemma => kernel_rfl) (fun _ _ _ h => h) (Or.inl ⟨by rfl, ?_⟩) (by assumption) ?_
  rotate_left
  · (intro w hSw; (try dsimp only at hSw); go_simp); (try with_reducible rfl)
  simp only [List.getElem_toArray, List.getElem_cons_zero, List.getElem_cons_succ, Act.put, List.setIfInBounds_toArray, List.set_cons_zero, List.set_cons_succ]
  refine wpAnyH_take (i := 15) (v := ?_) rfl (by as_aux_lemma => kernel_rfl) (by as_aux_lemma => kernel_rfl) (by as_aux_lemma => kernel_rfl) (fun _ _ _ h => h) (Or.inl ⟨by rfl, ?_⟩) (by assumption) ?_
  rotate_left
  · (intro w hSw; (try dsimp only at hSw); go_simp); (try with_reducible rfl)
  simp only [List.getElem_toArray, List.getElem_cons_zero, List.getElem_cons_succ, Act.put, List.setIfInBounds_toArray, List.set_cons_zero, List.set_cons_succ]
  refine wpAnyH_ready (rs := [13]) (by as_aux_lemma => kernel_rfl) (by simp) ?_
  refine AllReadyH.cons rfl (fun K hK => ?_) AllReadyH.nil
  go_simp
  refine (HB.out _ (T.ext Fu3) (P.ext Fu3)).mono ?_
  rintro _ u4 ⟨vu4, rfl, mu4, eu4⟩
  have Fu4 : Ext WP u4 := Fu3.trans eu4
  refine hK.out _ _ ⟨b2 (Bt0.ext Fu4), box3 (Bd.ext Fu4), box3 (Vf.ext Fu4), box3 (Vp.ext Fu4)⟩ (fun hHeld => ?_)
  clear hK K eu4 Fu3 mu1 mu2
  refine wpAnyH_ready (rs := [16]) (by as_aux_lemma => kernel_rfl) (by simp) ?_
  refine AllReadyH.cons rfl (fun K hK => ?_) AllReadyH.nil
  go_simp
  refine (HS.out _ (T.ext Fu4) (P.ext Fu4)).mono ?_
  rintro _ u5 ⟨vu5, rfl, mu5, eu5⟩
  have Fu5 : Ext WP u5 := Fu4.trans eu5
  replace mu4 := mu4.ext eu5
  refine hK.out _ _ ⟨b2 (Bt0.ext Fu5), box3 (Bd.ext Fu5), box3 (Vf.ext Fu5), box3 (Vp.ext Fu5)⟩ (fun hHeld => ?_)
  clear hK K eu5 Fu4
  refine wpAnyH_ready (rs := [17]) (by as_aux_lemma => kernel_rfl) (by simp) ?_
  refine AllReadyH.cons rfl (fun K hK => ?_) AllReadyH.nil
  go_simp
  refine (rinside_lit7 _ _ _ bb1 bb2 s1 s2 N2 1 p1 p2 p3 mu4 mu5 rb1 rb2 rs1 rs2 (by omega)).mono ?_
  rintro _ u6 ⟨rfl, eu6⟩
  have Fu6 : Ext WP u6 := Fu5.trans eu6
  replace mu4 := mu4.ext eu6
  replace mu5 := mu5.ext eu6
  refine hK.out _ _ ⟨b2 (Bt0.ext Fu6), box3 (Bd.ext Fu6), box3 (Vf.ext Fu6), box3 (Vp.ext Fu6)⟩ (fun hHeld => ?_)
  clear hK K eu6 Fu5
  refine wpAnyH_take (i := 18) (v := ?_) rfl (by as_aux_lemma => kernel_rfl) (by as_aux_lemma => kernel_rfl) (by as_aux_lemma => kernel_rfl) (fun _ _ _ h => h) (Or.inl ⟨by rfl, ?_⟩) (by assumption) ?_
  rotate_left
  · (intro w hSw; (try dsimp only at hSw); go_simp); (try with_reducible rfl)
  simp only [List.getElem_toArray, List.getElem_cons_zero, List.getElem_cons_succ, Act.put, List.setIfInBounds_toArray, List.set_cons_zero, List.set_cons_succ]
  refine wpAnyH_take (i := 19) (v := ?_) rfl (by as_aux_lemma => kernel_rfl) (by as_aux_lemma => kernel_rfl) (by as_aux_lemma => kernel_rfl) (fun _ _ _ h => h) (Or.inl ⟨by rfl, ?_⟩) (by assumption) ?_
  rotate_left
  · (intro w hSw; (try dsimp only at hSw); go_simp); (try with_reducible rfl)
  simp only [List.getElem_toArray, List.getElem_cons_zero, List.getElem_cons_succ, Act.put, List.setIfInBounds_toArray, List.set_cons_zero, List.set_cons_succ]
  refine wpAnyH_take (i := 20) (v := ?_) rfl (by as_aux_lemma => kernel_rfl) (by as_aux_lemma => kernel_rfl) (by as_aux_lemma => kernel_rfl) (fun _ _ _ h => h) (Or.inl ⟨by rfl, ?_⟩) (by assumption) ?_
  rotate_left
  · (intro w hSw; (try dsimp only at hSw); go_simp); (try with_reducible rfl)
  simp only [List.getElem_toArray, List.getElem_cons_zero, List.getElem_cons_succ, Act.put, List.setIfInBounds_toArray, List.set_cons_zero, List.set_cons_succ]
  refine wpAnyH_ready (rs := [21]) (by as_aux_lemma => kernel_rfl) (by simp) ?_
  refine AllReadyH.cons rfl (fun K hK => ?_) AllReadyH.nil
  go_simp
  refine (rrightDn_any _ _ f 300 393 (nf.ext Fu6) rf (by omega)).mono ?_
  rintro _ u7 ⟨rfl, eu7⟩
  have Fu7 : Ext WP u7 := Fu6.trans eu7
  refine hK.out _ _ ⟨b2 (Bt0.ext Fu7), box3 (Bd.ext Fu7), box3 (Vf.ext Fu7), box3 (Vp.ext Fu7)⟩ (fun hHeld => ?_)
  clear hK K eu7 Fu6 mu4 mu5
  refine wpAnyH_take (i := 22) (v := ?_) rfl (by as_aux_lemma => kernel_rfl) (by as_aux_lemma => kernel_rfl) (by as_aux_lemma => kernel_rfl) (fun _ _ _ h => h) (Or.inl ⟨by rfl, ?_⟩) (by assumption) ?_
  rotate_left
  · (intro w hSw; (try dsimp only at hSw); go_simp); (try with_reducible rfl)
  simp only [List.getElem_toArray, List.getElem_cons_zero, List.getElem_cons_succ, Act.put, List.setIfInBounds_toArray, List.set_cons_zero, List.set_cons_succ]
  refine wpAnyH_take (i := 23) (v := ?_) rfl (by as_aux_lemma => kernel_rfl) (by as_aux_lemma => kernel_rfl) (by as_aux_lemma => kernel_rfl) (fun _ _ _ h => h) (Or.inl ⟨by rfl, ?_⟩) (by assumption) ?_
  rotate_left
  · (intro w hSw; (try dsimp only at hSw); go_simp); (try with_reducible rfl)
  simp only [List.getElem_toArray, List.getElem_cons_zero, List.getElem_cons_succ, Act.put, List.setIfInBounds_toArray, List.set_cons_zero, List.set_cons_succ]
  refine wpAnyH_take (i := 24) (v := ?_) rfl (by as_aux_lemma => kernel_rfl) (by as_aux_lemma => kernel_rfl) (by as_aux_lemma => kernel_rfl) (fun _ _ _ h => h) (Or.inl ⟨by rfl, ?_⟩) (by assumption) ?_
  rotate_left
  · (intro w hSw; (try dsimp only at hSw); go_simp); (try with_reducible rfl)
  simp only [List.getElem_toArray, List.getElem_cons_zero, List.getElem_cons_succ, Act.put, List.setIfInBounds_toArray, List.set_cons_zero, List.set_cons_succ]
  refine wpAnyH_take (i := 25) (v := ?_) rfl (by as_aux_lemma => kernel_rfl) (by as_aux_lemma => kernel_rfl) (by as_aux_lemma => kernel_rfl) (fun _ _ _ h => h) (Or.inl ⟨by rfl, ?_⟩) (by assumption) ?_
  rotate_left
  · (intro w hSw; (try dsimp only at hSw); go_simp); (try with_reducible rfl)
  simp only [List.getElem_toArray, List.getElem_cons_zero, List.getElem_cons_succ, Act.put, List.setIfInBounds_toArray, List.set_cons_zero, List.set_cons_succ]
  refine wpAnyH_ready (rs := [26]) (by as_aux_lemma => kernel_rfl) (by simp) ?_
  refine AllReadyH.cons rfl (fun K hK => ?_) AllReadyH.nil
  go_simp
  refine hK.out _ _ ⟨b2 (Bt0.ext Fu7), box3 (Bd.ext Fu7), box3 (Vf.ext Fu7), box3 (Vp.ext Fu7)⟩ (fun hHeld => ?_)
  clear hK K
  refine wpAnyH_take (i := 27) (v := ?_) rfl (by as_aux_lemma => kernel_rfl) (by as_aux_lemma => kernel_rfl) (by as_aux_lemma => kernel_rfl) (fun _ _ _ h => h) (Or.inl ⟨by rfl, ?_⟩) (by assumption) ?_
  rotate_left
  · (intro w hSw; (try dsimp only at hSw); go_simp); (try with_reducible rfl)
  simp only [List.getElem_toArray, List.getElem_cons_zero, List.getElem_cons_succ, Act.put, List.setIfInBounds_toArray, List.set_cons_zero, List.set_cons_succ]
  refine wpAnyH_take (i := 28) (v := ?_) rfl (by as_aux_lemma => kernel_rfl) (by as_aux_lemma => kernel_rfl) (by as_aux_lemma => kernel_rfl) (fun _ _ _ h => h) (Or.inl ⟨by rfl, ?_⟩) (by assumption) ?_
  rotate_left
  · (intro w hSw; (try dsimp only at hSw); go_simp); (try with_reducible rfl)
  simp only [List.getElem_toArray, List.getElem_cons_zero, List.getElem_cons_succ, Act.put, List.setIfInBounds_toArray, List.set_cons_zero, List.set_cons_succ]
  refine wpAnyH_take (i := 29) (v := undef) rfl (by as_aux_lemma => kernel_rfl) (by as_aux_lemma => kernel_rfl) (by as_aux_lemma => kernel_rfl) (fun _ _ _ h => h) (Or.inr ⟨by rfl, rfl⟩) (by assumption) ?_
  simp only [List.getElem_toArray, List.getElem_cons_zero, List.getElem_cons_succ, Act.put, List.setIfInBounds_toArray, List.set_cons_zero, List.set_cons_succ]
  refine wpAnyH_take (i := 31) (v := undef) rfl (by as_aux_lemma => kernel_rfl) (by as_aux_lemma => kernel_rfl) (by as_aux_lemma => kernel_rfl) (fun _ _ _ h => h) (Or.inr ⟨by rfl, rfl⟩) (by assumption) ?_
  simp only [List.getElem_toArray, List.getElem_cons_zero, List.getElem_cons_succ, Act.put, List.setIfInBounds_toArray, List.set_cons_zero, List.set_cons_succ]
  refine wpAnyH_take (i := 30) (v := undef) rfl (by as_aux_lemma => kernel_rfl) (by as_aux_lemma => kernel_rfl) (by as_aux_lemma => kernel_rfl) (fun _ _ _ h => h) (Or.inr ⟨by rfl, rfl⟩) (by assumption) ?_
  simp only [List.getElem_toArray, List.getElem_cons_zero, List.getElem_cons_succ, Act.put, List.setIfInBounds_toArray, List.set_cons_zero, List.set_cons_succ]
  refine wpAnyH_take (i := 32) (v := undef) rfl (by as_aux_lemma => kernel_rfl) (by as_aux_lemma => kernel_rfl) (by as_aux_lemma => kernel_rfl) (fun _ _ _ h => h) (Or.inr ⟨by rfl, rfl⟩) (by assumption) ?_
  simp only [List.getElem_toArray, List.getElem_cons_zero, List.getElem_cons_succ, Act.put, List.setIfInBounds_toArray, List.set_cons_zero, List.set_cons_succ]
  refine wpAnyH_take (i := 33) (v := undef) rfl (by as_aux_lemma => kernel_rfl) (by as_aux_lemma => kernel_rfl) (by as_aux_lemma => kernel_rfl) (fun _ _ _ h => h) (Or.inr ⟨by rfl, rfl⟩) (by assumption) ?_
  simp only [List.getElem_toArray, List.getElem_cons_zero, List.getElem_cons_succ, Act.put, List.setIfInBounds_toArray, List.set_cons_zero, List.set_cons_succ]
  refine wpAnyH_take (i := 34) (v := ?_) rfl (by as_aux_lemma => kernel_rfl) (by as_aux_lemma => kernel_rfl) (by as_aux_lemma => kernel_rfl) (fun _ _ _ h => h) (Or.inl ⟨by rfl, ?_⟩) (by assumption) ?_
  rotate_left
  · (intro w hSw; (try dsimp only at hSw); go_simp); (try with_reducible rfl)
  simp only [List.getElem_toArray, List.getElem_cons_zero, List.getElem_cons_succ, Act.put, List.setIfInBounds_toArray, List.set_cons_zero, List.set_cons_succ]
  refine wpAnyH_take (i := 35) (v := ?_) rfl (by as_aux_lemma => kernel_rfl) (by as_aux_lemma => kernel_rfl) (by as_aux_lemma => kernel_rfl) (fun _ _ _ h => h) (Or.inl ⟨by rfl, ?_⟩) (by assumption) ?_
  rotate_left
  · (intro w hSw; (try dsimp only at hSw); go_simp); (try with_reducible rfl)
  simp only [List.getElem_toArray, List.getElem_cons_zero, List.getElem_cons_succ, Act.put, List.setIfInBounds_toArray, List.set_cons_zero, List.set_cons_succ]
  refine wpAnyH_take (i := 36) (v := ?_) rfl (by as_aux_lemma => kernel_rfl) (by as_aux_lemma => kernel_rfl) (by as_aux_lemma => kernel_rfl) (fun _ _ _ h => h) (Or.inl ⟨by rfl, ?_⟩) (by assumption) ?_
  rotate_left
  · (intro w hSw; (try dsimp only at hSw); go_simp); (try with_reducible rfl)
  simp only [List.getElem_toArray, List.getElem_cons_zero, List.getElem_cons_succ, Act.put, List.setIfInBounds_toArray, List.set_cons_zero, List.set_cons_succ]
  refine wpAnyH_take (i := 37) (v := ?_) rfl (by as_aux_lemma => kernel_rfl) (by as_aux_lemma => kernel_rfl) (by as_aux_lemma => kernel_rfl) (fun _ _ _ h => h) (Or.inl ⟨by rfl, ?_⟩) (by assumption) ?_
  rotate_left
  · (intro w hSw; (try dsimp only at hSw); go_simp); (try with_reducible rfl)
  simp only [List.getElem_toArray, List.getElem_cons_zero, List.getElem_cons_succ, Act.put, List.setIfInBounds_toArray, List.set_cons_zero, List.set_cons_succ]
  refine wpAnyH_take (i := 38) (v := ?_) rfl (by as_aux_lemma => kernel_rfl) (by as_aux_lemma => kernel_rfl) (by as_aux_lemma => kernel_rfl) (fun _ _ _ h => h) (Or.inl ⟨by rfl, ?_⟩) (by assumption) ?_
  rotate_left
  · (intro w hSw; (try dsimp only at hSw); go_simp); (try with_reducible rfl)
  simp only [List.getElem_toArray, List.getElem_cons_zero, List.getElem_cons_succ, Act.put, List.setIfInBounds_toArray, List.set_cons_zero, List.set_cons_succ]
  refine wpAnyH_ready (rs := [39]) (by as_aux_lemma => kernel_rfl) (by simp) ?_
  refine AllReadyH.cons rfl (fun K hK => ?_) AllReadyH.nil
  go_simp
  refine (rcmp_lit8 _ _ _ f d 300 394 x1 HX.out.1 (nf.ext Fu7) (nd.ext Fu7) (rf.mono (by omega) (by omega)) rd3 (by omega)).mono ?_
  rintro _ u8 ⟨rfl, eu8⟩
  have Fu8 : Ext WP u8 := Fu7.trans eu8
  refine hK.out _ _ ⟨b2 (Bt0.ext Fu8), box3 (Bd.ext Fu8), box3 (Vf.ext Fu8), box3 (Vp.ext Fu8)⟩ (fun hHeld => ?_)
  clear hK K eu8 Fu7
  refine wpAnyH_take (i := 40) (v := ?_) rfl (by as_aux_lemma => kernel_rfl) (by as_aux_lemma => kernel_rfl) (by as_aux_lemma => kernel_rfl) (fun _ _ _ h => h) (Or.inl ⟨by rfl, ?_⟩) (by assumption) ?_
  rotate_left
  · (intro w hSw; (try dsimp only at hSw); go_simp); (try with_reducible rfl)
  simp only [List.getElem_toArray, List.getElem_cons_zero, List.getElem_cons_succ, Act.put, List.setIfInBounds_toArray, List.set_cons_zero, List.set_cons_succ]
  refine wpAnyH_take (i := 41) (v := ?_) rfl (by as_aux_lemma => kernel_rfl) (by as_aux_lemma => kernel_rfl) (by as_aux_lemma => kernel_rfl) (fun _ _ _ h => h) (Or.inl ⟨by rfl, ?_⟩) (by assumption) ?_
  rotate_left
  · (intro w hSw; (try dsimp only at hSw); go_simp); (try with_reducible rfl)
  simp only [List.getElem_toArray, List.getElem_cons_zero, List.getElem_cons_succ, Act.put, List.setIfInBounds_toArray, List.set_cons_zero, List.set_cons_succ]
  refine wpAnyH_take (i := 42) (v := ?_) rfl (by as_aux_lemma => kernel_rfl) (by as_aux_lemma => kernel_rfl) (by as_aux_lemma => kernel_rfl) (fun _ _ _ h => h) (Or.inl ⟨by rfl, ?_⟩) (by assumption) ?_
  rotate_left
  · (intro w hSw; (try dsimp only at hSw); go_simp); (try with_reducible rfl)
  simp only [List.getElem_toArray, List.getElem_cons_zero, List.getElem_cons_succ, Act.put, List.setIfInBounds_toArray, List.set_cons_zero, List.set_cons_succ]
  refine wpAnyH_take (i := 43) (v := ?_) rfl (by as_aux_lemma => kernel_rfl) (by as_aux_lemma => kernel_rfl) (by as_aux_lemma => kernel_rfl) (fun _ _ _ h => h) (Or.inl ⟨by rfl, ?_⟩) (by assumption) ?_
  rotate_left
  · (intro w hSw; (try dsimp only at hSw); go_simp); (try with_reducible rfl)
  simp only [List.getElem_toArray, List.getElem_cons_zero, List.getElem_cons_succ, Act.put, List.setIfInBounds_toArray, List.set_cons_zero, List.set_cons_succ]
  refine wpAnyH_take (i := 44) (v := ?_) rfl (by as_aux_lemma => kernel_rfl) (by as_aux_lemma => kernel_rfl) (by as_aux_lemma => kernel_rfl) (fun _ _ _ h => h) (Or.inl ⟨by rfl, ?_⟩) (by assumption) ?_
  rotate_left
  · (intro w hSw; (try dsimp only at hSw); go_simp); (try with_reducible rfl)
  simp only [List.getElem_toArray, List.getElem_cons_zero, List.getElem_cons_succ, Act.put, List.setIfInBounds_toArray, List.set_cons_zero, List.set_cons_succ]
  refine wpAnyH_take (i := 45) (v := ?_) rfl (by as_aux_lemma => kernel_rfl) (by as_aux_lemma => kernel_rfl) (by as_aux_lemma => kernel_rfl) (fun _ _ _ h => h) (Or.inl ⟨by rfl, ?_⟩) (by assumption) ?_
  rotate_left
  · (intro w hSw; (try dsimp only at hSw); go_simp); (try with_reducible rfl)
  simp only [List.getElem_toArray, List.getElem_cons_zero, List.getElem_cons_succ, Act.put, List.setIfInBounds_toArray, List.set_cons_zero, List.set_cons_succ]
  refine wpAnyH_ready (rs := [46]) (by as_aux_lemma => kernel_rfl) (by simp) ?_
  refine AllReadyH.cons rfl (fun K hK => ?_) AllReadyH.nil
  go_simp
  refine (raddD_any _ _ _ f (eps N) 300 393 (nf.ext Fu8) (np.ext Fu8) rf rp (by omega)).mono ?_
  rintro _ u9 ⟨vu9, rfl, mu9, eu9⟩
  have Fu9 : Ext WP u9 := Fu8.trans eu9
  refine hK.out _ _ ⟨b2 (Bt0.ext Fu9), box3 (Bd.ext Fu9), box3 (Vf.ext Fu9), box3 (Vp.ext Fu9)⟩ (fun hHeld => ?_)
  clear hK K eu9 Fu8
  refine wpAnyH_ready (rs := [47]) (by as_aux_lemma => kernel_rfl) (by simp) ?_
  refine AllReadyH.cons rfl (fun K hK => ?_) AllReadyH.nil
  go_simp
  refine (rcmp_lit8 _ _ _ d (f + eps N) 300 394 x2 HX.out.2 (nd.ext Fu9) mu9 rd3 (rf.add rp) (by omega)).mono ?_
  rintro _ u10 ⟨rfl, eu10⟩
  have Fu10 : Ext WP u10 := Fu9.trans eu10
  replace mu9 := mu9.ext eu10
  refine hK.out _ _ ⟨b2 (Bt0.ext Fu10), box3 (Bd.ext Fu10), box3 (Vf.ext Fu10), box3 (Vp.ext Fu10)⟩ (fun hHeld => ?_)
  clear hK K eu10 Fu9
  refine wpAnyH_take (i := 48) (v := ?_) rfl (by as_aux_lemma => kernel_rfl) (by as_aux_lemma => kernel_rfl) (by as_aux_lemma => kernel_rfl) (fun _ _ _ h => h) (Or.inl ⟨by rfl, ?_⟩) (by assumption) ?_
  rotate_left
  · (intro w hSw; (try dsimp only at hSw); go_simp); (try with_reducible rfl)
  simp only [List.getElem_toArray, List.getElem_cons_zero, List.getElem_cons_succ, Act.put, List.setIfInBounds_toArray, List.set_cons_zero, List.set_cons_succ]
  refine wpAnyH_take (i := 49) (v := ?_) rfl (by as_aux_lemma => kernel_rfl) (by as_aux_lemma => kernel_rfl) (by as_aux_lemma => kernel_rfl) (fun _ _ _ h => h) (Or.inl ⟨by rfl, ?_⟩) (by assumption) ?_
  rotate_left
  · (intro w hSw; (try dsimp only at hSw); go_simp); (try with_reducible rfl)
  simp only [List.getElem_toArray, List.getElem_cons_zero, List.getElem_cons_succ, Act.put, List.setIfInBounds_toArray, List.set_cons_zero, List.set_cons_succ]
  refine wpAnyH_take (i := 50) (v := ?_) rfl (by as_aux_lemma => kernel_rfl) (by as_aux_lemma => kernel_rfl) (by as_aux_lemma => kernel_rfl) (fun _ _ _ h => h) (Or.inl ⟨by rfl, ?_⟩) (by assumption) ?_
  rotate_left
  · (intro w hSw; (try dsimp only at hSw); go_simp); (try with_reducible rfl)
  simp only [List.getElem_toArray, List.getElem_cons_zero, List.getElem_cons_succ, Act.put, List.setIfInBounds_toArray, List.set_cons_zero, List.set_cons_succ]
  refine wpAnyH_done (by as_aux_lemma => kernel_rfl) ?_ _
  go_wp2
  go_ret
  exact ⟨rfl, EP.trans Fu10⟩
set_option maxRecDepth 100000 in
set_option maxHeartbeats 4000000 in
theorem more_y (w : World) (T0 : Tu w) (K n n2 j j2 : Int) (Q N N2 : Nat) (nb : Bool) (M : Value) (xs : List Int) (e : Int) (row : Row w M xs) (be : -9223372036854775808 ≤ e ∧ e ≤ 9223372036854775807) (bK : -9223372036854775808 ≤ K ∧ K ≤ 9223372036854775807) (q14 : Q ≤ 14) (hn : 0 ≤ n ∧ n ≤ 255) (hn2 : 0 ≤ n2 ∧ n2 ≤ 255) (hr : goodT K (Q : Int) = true) (hg : goodAll 1 (pk nb nb nb) (pk xs xs xs) (pk e e e) = true) (hj : n % 70 + 1 = j) (hj2 : j + n2 % 20 = j2) (hN : j = (N : Int)) (N1 : 1 ≤ N) (N3 : N ≤ 70) (N4 : N2 ≤ 90)
    (c1 c2 s1 s2 a1 a2 bb1 bb2 d f : Dyadic) (nd : Dn w (.agg #[.bool nb, M, .int .i64 e]) d) (rd : Rg 200 392 d) (hf : flo N d = f) (hz : f ≠ 0)
    (HC : Hid (∀ w', Tb w' → Pl w' → Calls Tryz.prog 14 #[.agg #[.int .i64 K, .int .i64 (Q : Int)], .int .i64 j] w' (RetI w' c1 c2)))
    (HS : Hid (∀ w', Tb w' → Pl w' → Calls Tryz.prog 16 #[.agg #[.int .i64 K, .int .i64 (Q : Int)], .int .i64 j] w' (RetI w' s1 s2)))
    (HA : Hid (∀ w', Tb w' → Pl w' → Calls Tryz.prog 14 #[.agg #[.int .i64 K, .int .i64 (Q : Int)], .int .i64 j2] w' (RetI w' a1 a2)))
    (HB : Hid (∀ w', Tb w' → Pl w' → Calls Tryz.prog 16 #[.agg #[.int .i64 K, .int .i64 (Q : Int)], .int .i64 j2] w' (RetI w' bb1 bb2)))
    (rc1 : Rg N2 1 c1) (rc2 : Rg N2 1 c2) (rs1 : Rg N2 1 s1) (rs2 : Rg N2 1 s2) (ra1 : Rg N2 1 a1) (ra2 : Rg N2 1 a2) (rb1 : Rg N2 1 bb1) (rb2 : Rg N2 1 bb2) (o1 : c1 ≤ a1) (o2 : a1 ≤ a2) (o3 : a2 ≤ c2) (p1 : s1 ≤ bb1) (p2 : bb1 ≤ bb2) (p3 : bb2 ≤ s2) :
    Calls Tryz.prog 8 #[.agg #[.int .i64 K, .int .i64 (Q : Int)], .int .u8 n, .int .u8 n2, .agg #[.bool nb, M, .int .i64 e]] w (RetE w (.bool true)) := by
  have bQ : -9223372036854775808 ≤ (Q : Int) ∧ (Q : Int) ≤ 9223372036854775807 := by omega
  obtain ⟨fm, ff, fl, fh⟩ := (flo_spec N d).out
  rw [hf] at ff fl
  have rf : Rg 300 393 f := by rw [← hf]; exact (flo_rgx rd).mono (by omega) (by omega)
  have rp : Rg 300 393 (eps N) := (rg_eps N).mono (by omega) (by omega)
  have rd3 : Rg 300 394 d := rd.mono (by omega) (by omega)
  obtain ⟨x1, hx1⟩ : ∃ x, cmpD f d = x := ⟨_, rfl⟩
  obtain ⟨x2, hx2⟩ : ∃ x, cmpD d (f + eps N) = x := ⟨_, rfl⟩
  have y1 : decide (x1 ≤ 0) = true := decide_eq_true (by rw [← hx1]; exact (cmp_le _ _).2 fl)
  have y2 : decide (x2 < 0) = true := decide_eq_true (by rw [← hx2]; refine (cmp_lt _ _).2 ?_; rw [ff]; unfold eps; rw [dy_add]; exact fh)
  have HX := Lib.hid (And.intro hx1 hx2)
  have HY := Lib.hid (And.intro y1 y2)
  have HF := Lib.hid (And.intro hf (show ∃ m : Int, f = dy m (-(N : Int)) from ⟨fm, ff⟩))
  have HN := Lib.hid hN
  have t1 : n2.tmod 20 = n2 % 20 := Int.tmod_eq_emod_of_nonneg hn2.1
  have t2 : IntKind.i64.wrap n2 = n2 := IntWalk.i64_in _ (by omega)
  have t3 : wrap64 n2 = n2 := by unfold wrap64; omega
  have t4 : wrap64 (j + n2 % 20) = j2 := by unfold wrap64; omega
  have t5 : wrap64 (n2 % 20) = n2 % 20 := by unfold wrap64; omega
  have t6 : IntKind.i64.wrap (n2 % 20) = n2 % 20 := IntWalk.i64_in _ (by omega)
  clear hx1 hx2 y1 y2 hN hf ff fl fh
  have T := T0.tb
  have P := T0.pl
  clear T0
  go_enter Tryz.func8, Tryz.ntmps8
  go_wp2_with fail
  refine (headC_any _ (T.ext (((Ext.refl w).alloc _).alloc _)) (P.ext (((Ext.refl w).alloc _).alloc _))).mono ?_
  rintro _ w1 ⟨rfl, f1⟩
  have Bt0 : B2 w1 (w.heap.size) (.int .i64 K) (.int .i64 (Q : Int)) := B2.at (((Ext.refl _).alloc _).trans f1) (by simp)
  have Bd : Box w1 (w.heap.size + 1) (.bool nb) (M) (.int .i64 e) := Box.at ((Ext.refl _).trans f1) (by simp)
  have e1 : Ext w w1 := (((Ext.refl w).alloc _).alloc _).trans f1
  replace T := T.ext e1
  replace P := P.ext e1
  replace row := row.ext e1
  have E1 : Ext w w1 := e1
  clear f1
  replace nd := nd.ext E1
  obtain ⟨Bt0_0, Bt0_1⟩ := _root_.id Bt0
  have Bt0_l := World.block_lt_of_cell? _ _ Bt0_0
  go_wp2_with fail
  refine (good1_any _ w1.heap.size K (Q : Int) true hr bK bQ (B2.at (Ext.refl _) rfl)).mono ?_
  rintro _ w2 ⟨rfl, f2⟩
  clear Bt0_0 Bt0_1 Bt0_l
  have e2 : Ext w1 w2 := ((Ext.refl w1).alloc _).trans f2
  replace T := T.ext e2
  replace P := P.ext e2
  replace row := row.ext e2
  replace nd := nd.ext e2
  replace Bt0 := Bt0.ext e2
  replace Bd := Bd.ext e2
  have E2 : Ext w w2 := E1.trans e2
  clear e2 f2 E1
  obtain ⟨Bd_0, Bd_1, Bd_2⟩ := _root_.id Bd
  have Bd_l := World.block_lt_of_cell? _ _ Bd_0
  go_wp2_with fail
  refine (goodD_lit _ nb M xs e true hg row be).mono ?_
  rintro _ w3 ⟨rfl, f3⟩
  clear Bd_0 Bd_1 Bd_2 Bd_l
  have e3 : Ext w2 w3 := ((Ext.refl w2).alloc _).trans f3
  replace T := T.ext e3
  replace P := P.ext e3
  replace row := row.ext e3
  replace nd := nd.ext e3
  replace Bt0 := Bt0.ext e3
  replace Bd := Bd.ext e3
  have E3 : Ext w w3 := E2.trans e3
  clear e3 f3 E2
  go_wp2_with fail
  refine (bits_any _ n j hn hj).mono ?_
  rintro _ w4 ⟨rfl, f4⟩
  have e4 : Ext w3 w4 := (Ext.refl w3).trans f4
  replace T := T.ext e4
  replace P := P.ext e4
  replace row := row.ext e4
  replace nd := nd.ext e4
  replace Bt0 := Bt0.ext e4
  replace Bd := Bd.ext e4
  have E4 : Ext w w4 := E3.trans e4
  clear e4 f4 E3
  have hj1 : -1000 ≤ j ∧ j ≤ 1000 := by have := HN.out; omega
  obtain ⟨Bd_0, Bd_1, Bd_2⟩ := _root_.id Bd
  have Bd_l := World.block_lt_of_cell? _ _ Bd_0
  go_wp2_with fail
  refine (floor_lit _ _ d f j N 200 392 HN.out HF.out.1 nd rd (by omega) (by omega) T).mono ?_
  rintro _ w5 ⟨v5, rfl, nf, f5⟩
  clear Bd_0 Bd_1 Bd_2 Bd_l
  have e5 : Ext w4 w5 := (Ext.refl w4).trans f5
  replace T := T.ext e5
  replace P := P.ext e5
  replace row := row.ext e5
  replace nd := nd.ext e5
  replace Bt0 := Bt0.ext e5
  replace Bd := Bd.ext e5
  have E5 : Ext w w5 := E4.trans e5
  clear e5 f5 E4
  clear hj hj2 hn hn2 hr hg bK bQ t1 t2 t3 t4 t5 t6
  obtain ⟨bnf, Anf, lnf, cnf, jnf, rfl⟩ := nf.form
  have ke : -j ≤ jnf := by have := dn_exp8 nf HF.out.2; have := HN.out; omega
  have ke2 : decide (-j ≤ jnf) = true := decide_eq_true ke
  have ke3 : decide (jnf ≥ -j) = true := decide_eq_true ke
  have ke4 : IntKind.i64.wrap (-j) = -j := IntWalk.i64_in _ (by omega)
  have kz : decide (lnf = 0) = false := by rw [← dn_len0 nf]; exact decide_eq_false hz
  have kz2 : ((lnf : Int) == 0) = false := by have h := of_decide_eq_false kz; exact beq_eq_false_iff_ne.2 (by omega)
  have kz3 : decide ((lnf : Int) = 0) = false := by have h := of_decide_eq_false kz; exact decide_eq_false (by omega)
  go_upto_region 7 with fail
  have Vf : Box (w5.alloc (.cells #[.bool bnf, .slice Anf lnf cnf, .int .i64 jnf] 26)) w5.heap.size (.bool bnf) (.slice Anf lnf cnf) (.int .i64 jnf) := Box.at (Ext.refl _) rfl
  have eW7 : Ext w5 (w5.alloc (.cells #[.bool bnf, .slice Anf lnf cnf, .int .i64 jnf] 26)) := (Ext.refl _).alloc _
  replace T := T.ext eW7
  replace P := P.ext eW7
  replace row := row.ext eW7
  replace nd := nd.ext eW7
  replace nf := nf.ext eW7
  replace Bt0 := Bt0.ext eW7
  replace Bd := Bd.ext eW7
  have EW7 := E5.trans eW7
  clear eW7 E5
  generalize hgen : (w5.alloc (.cells #[.bool bnf, .slice Anf lnf cnf, .int .i64 jnf] 26)) = W7 at *
  clear hgen
  obtain ⟨Vf_0, Vf_1, Vf_2⟩ := _root_.id Vf
  have Vf_l := World.block_lt_of_cell? _ _ Vf_0
  obtain ⟨Bd_0, Bd_1, Bd_2⟩ := _root_.id Bd
  have Bd_l := World.block_lt_of_cell? _ _ Bd_0
  go_upto_region 8 with fail
  try simp only [List.append_eq, List.cons_append, List.nil_append]
  have np : Dn ((W7.alloc (.cells #[.int .i64 1] 3)).alloc (.cells #[.bool false, .slice (some ⟨W7.heap.size, 0, none⟩) 1 1, .int .i64 (-j)] 26)) (.agg #[.bool false, .slice (some ⟨W7.heap.size, 0, none⟩) 1 1, .int .i64 (-j)]) (eps N) := (by have h := (lit_dn W7 1 (-j) 1 false 3 (by omega) (by omega) (by omega) (by rfl)).ext ((Ext.refl _).alloc (.cells #[.bool false, .slice (some ⟨W7.heap.size, 0, none⟩) 1 1, .int .i64 (-j)] 26)); rw [show dy 1 (-j) = eps N by rw [HN.out]; rfl] at h; exact h)
  have Vp : Box ((W7.alloc (.cells #[.int .i64 1] 3)).alloc (.cells #[.bool false, .slice (some ⟨W7.heap.size, 0, none⟩) 1 1, .int .i64 (-j)] 26)) (W7.heap.size + 1) (.bool false) (.slice (some ⟨W7.heap.size, 0, none⟩) 1 1) (.int .i64 (-j)) := Box.at (Ext.refl _) (by simp)
  have ep : Ext W7 ((W7.alloc (.cells #[.int .i64 1] 3)).alloc (.cells #[.bool false, .slice (some ⟨W7.heap.size, 0, none⟩) 1 1, .int .i64 (-j)] 26)) := ((Ext.refl _).alloc _).alloc _
  replace T := T.ext ep
  replace P := P.ext ep
  replace row := row.ext ep
  replace nd := nd.ext ep
  replace nf := nf.ext ep
  replace Bt0 := Bt0.ext ep
  replace Bd := Bd.ext ep
  replace Vf := Vf.ext ep
  have EP := EW7.trans ep
  clear ep EW7 Vf_0 Vf_1 Vf_2 Vf_l Bd_0 Bd_1 Bd_2 Bd_l
  generalize hgen : ((W7.alloc (.cells #[.int .i64 1] 3)).alloc (.cells #[.bool false, .slice (some ⟨W7.heap.size, 0, none⟩) 1 1, .int .i64 (-j)] 26)) = WP at *
  clear hgen
  generalize hgs : W7.heap.size = gp at *
  clear hgs
  obtain ⟨y1, y2⟩ := HY.out
  obtain ⟨Bt0_0, Bt0_1⟩ := _root_.id Bt0
  have Bt0_l := World.block_lt_of_cell? _ _ Bt0_0
  obtain ⟨Bd_0, Bd_1, Bd_2⟩ := _root_.id Bd
  have Bd_l := World.block_lt_of_cell? _ _ Bd_0
  obtain ⟨Vf_0, Vf_1, Vf_2⟩ := _root_.id Vf
  have Vf_l := World.block_lt_of_cell? _ _ Vf_0
  obtain ⟨Vp_0, Vp_1, Vp_2⟩ := _root_.id Vp
  have Vp_l := World.block_lt_of_cell? _ _ Vp_0
  refine wp_region_held_drew (S := (fun w' => (w'.cell? ⟨w.heap.size, 0, none⟩ = some (.int .i64 K) ∧ w'.cell? ⟨w.heap.size, 1, none⟩ = some (.int .i64 (Q : Int))) ∧ (w'.cell? ⟨w.heap.size + 1, 0, none⟩ = some (.bool nb) ∧ w'.cell? ⟨w.heap.size + 1, 1, none⟩ = some (M) ∧ w'.cell? ⟨w.heap.size + 1, 2, none⟩ = some (.int .i64 e)) ∧ (w'.cell? ⟨w5.heap.size, 0, none⟩ = some (.bool bnf) ∧ w'.cell? ⟨w5.heap.size, 1, none⟩ = some (.slice Anf lnf cnf) ∧ w'.cell? ⟨w5.heap.size, 2, none⟩ = some (.int .i64 jnf)) ∧ (w'.cell? ⟨gp + 1, 0, none⟩ = some (.bool false) ∧ w'.cell? ⟨gp + 1, 1, none⟩ = some (.slice (some ⟨gp, 0, none⟩) 1 1) ∧ w'.cell? ⟨gp + 1, 2, none⟩ = some (.int .i64 (-j))))) (by as_aux_lemma => kernel_rfl) ⟨b2 (Bt0.ext (Ext.refl WP).drew), box3 (Bd.ext (Ext.refl WP).drew), box3 (Vf.ext (Ext.refl WP).drew), box3 (Vp.ext (Ext.refl WP).drew)⟩ (fun hHeld => ?_)
  refine wpAnyH_take (i := 0) (v := ?_) rfl (by as_aux_lemma => kernel_rfl) (by as_aux_lemma => kernel_rfl) (by as_aux_lemma => kernel_rfl) (fun _ _ _ h => h) (Or.inl ⟨by rfl, ?_⟩) (by assumption) ?_
  rotate_left
  · (intro w hSw; (try dsimp only at hSw); go_simp); (try with_reducible rfl)
  simp only [List.getElem_toArray, List.getElem_cons_zero, Act.put, List.setIfInBounds_toArray, List.set_cons_zero, List.set_cons_succ]
  refine wpAnyH_take (i := 1) (v := ?_) rfl (by as_aux_lemma => kernel_rfl) (by as_aux_lemma => kernel_rfl) (by as_aux_lemma => kernel_rfl) (fun _ _ _ h => h) (Or.inl ⟨by rfl, ?_⟩) (by assumption) ?_
  rotate_left
  · (intro w hSw; (try dsimp only at hSw); go_simp); (try with_reducible rfl)
  simp only [List.getElem_toArray, List.getElem_cons_zero, List.getElem_cons_succ, Act.put, List.setIfInBounds_toArray, List.set_cons_zero, List.set_cons_succ]
  refine wpAnyH_take (i := 2) (v := ?_) rfl (by as_aux_lemma => kernel_rfl) (by as_aux_lemma => kernel_rfl) (by as_aux_lemma => kernel_rfl) (fun _ _ _ h => h) (Or.inl ⟨by rfl, ?_⟩) (by assumption) ?_
  rotate_left
  · (intro w hSw; (try dsimp only at hSw); go_simp); (try with_reducible rfl)
  simp only [List.getElem_toArray, List.getElem_cons_zero, List.getElem_cons_succ, Act.put, List.setIfInBounds_toArray, List.set_cons_zero, List.set_cons_succ]
  refine wpAnyH_take (i := 3) (v := ?_) rfl (by as_aux_lemma => kernel_rfl) (by as_aux_lemma => kernel_rfl) (by as_aux_lemma => kernel_rfl) (fun _ _ _ h => h) (Or.inl ⟨by rfl, ?_⟩) (by assumption) ?_
  rotate_left
  · (intro w hSw; (try dsimp only at hSw); go_simp); (try with_reducible rfl)
  simp only [List.getElem_toArray, List.getElem_cons_zero, List.getElem_cons_succ, Act.put, List.setIfInBounds_toArray, List.set_cons_zero, List.set_cons_succ]
  refine wpAnyH_take (i := 5) (v := ?_) rfl (by as_aux_lemma => kernel_rfl) (by as_aux_lemma => kernel_rfl) (by as_aux_lemma => kernel_rfl) (fun _ _ _ h => h) (Or.inl ⟨by rfl, ?_⟩) (by assumption) ?_
  rotate_left
  · (intro w hSw; (try dsimp only at hSw); go_simp); (try with_reducible rfl)
  simp only [List.getElem_toArray, List.getElem_cons_zero, List.getElem_cons_succ, Act.put, List.setIfInBounds_toArray, List.set_cons_zero, List.set_cons_succ]
  refine wpAnyH_take (i := 6) (v := ?_) rfl (by as_aux_lemma => kernel_rfl) (by as_aux_lemma => kernel_rfl) (by as_aux_lemma => kernel_rfl) (fun _ _ _ h => h) (Or.inl ⟨by rfl, ?_⟩) (by assumption) ?_
  rotate_left
  · (intro w hSw; (try dsimp only at hSw); go_simp); (try with_reducible rfl)
  simp only [List.getElem_toArray, List.getElem_cons_zero, List.getElem_cons_succ, Act.put, List.setIfInBounds_toArray, List.set_cons_zero, List.set_cons_succ]
  refine wpAnyH_ready (rs := [4]) (by as_aux_lemma => kernel_rfl) (by simp) ?_
  refine AllReadyH.cons rfl (fun K hK => ?_) AllReadyH.nil
  go_simp
  refine (HA.out _ (T.ext (Ext.refl WP).drew) (P.ext (Ext.refl WP).drew)).mono ?_
  rintro _ u1 ⟨vu1, rfl, mu1, eu1⟩
  have Fu1 : Ext WP u1 := (Ext.refl WP).drew.trans eu1
  refine hK.out _ _ ⟨b2 (Bt0.ext Fu1), box3 (Bd.ext Fu1), box3 (Vf.ext Fu1), box3 (Vp.ext Fu1)⟩ (fun hHeld => ?_)
  clear hK K eu1
  refine wpAnyH_ready (rs := [7]) (by as_aux_lemma => kernel_rfl) (by simp) ?_
  refine AllReadyH.cons rfl (fun K hK => ?_) AllReadyH.nil
  go_simp
  refine (HC.out _ (T.ext Fu1) (P.ext Fu1)).mono ?_
  rintro _ u2 ⟨vu2, rfl, mu2, eu2⟩
  have Fu2 : Ext WP u2 := Fu1.trans eu2
  replace mu1 := mu1.ext eu2
  refine hK.out _ _ ⟨b2 (Bt0.ext Fu2), box3 (Bd.ext Fu2), box3 (Vf.ext Fu2), box3 (Vp.ext Fu2)⟩ (fun hHeld => ?_)
  clear hK K eu2 Fu1
  refine wpAnyH_ready (rs := [8]) (by as_aux_lemma => kernel_rfl) (by simp) ?_
  refine AllReadyH.cons rfl (fun K hK => ?_) AllReadyH.nil
  go_simp
  refine (rinside_lit7 _ _ _ a1 a2 c1 c2 N2 1 o1 o2 o3 mu1 mu2 ra1 ra2 rc1 rc2 (by omega)).mono ?_
  rintro _ u3 ⟨rfl, eu3⟩
  have Fu3 : Ext WP u3 := Fu2.trans eu3
  replace mu1 := mu1.ext eu3
  replace mu2 := mu2.ext eu3
  refine hK.out _ _ ⟨b2 (Bt0.ext Fu3), box3 (Bd.ext Fu3), box3 (Vf.ext Fu3), box3 (Vp.ext Fu3)⟩ (fun hHeld => ?_)
  clear hK K eu3 Fu2
  refine wpAnyH_take (i := 9) (v := ?_) rfl (by as_aux_lemma => kernel_rfl) (by as_aux_lemma => kernel_rfl) (by as_aux_lemma => kernel_rfl) (fun _ _ _ h => h) (Or.inl ⟨by rfl, ?_⟩) (by assumption) ?_
  rotate_left
  · (intro w hSw; (try dsimp only at hSw); go_simp); (try with_reducible rfl)
  simp only [List.getElem_toArray, List.getElem_cons_zero, List.getElem_cons_succ, Act.put, List.setIfInBounds_toArray, List.set_cons_zero, List.set_cons_succ]
  refine wpAnyH_take (i := 10) (v := ?_) rfl (by as_aux_lemma => kernel_rfl) (by as_aux_lemma => kernel_rfl) (by as_aux_lemma => kernel_rfl) (fun _ _ _ h => h) (Or.inl ⟨by rfl, ?_⟩) (by assumption) ?_
  rotate_left
  · (intro w hSw; (try dsimp only at hSw); go_simp); (try with_reducible rfl)
  simp only [List.getElem_toArray, List.getElem_cons_zero, List.getElem_cons_succ, Act.put, List.setIfInBounds_toArray, List.set_cons_zero, List.set_cons_succ]
  refine wpAnyH_take (i := 11) (v := ?_) rfl (by as_aux_lemma => kernel_rfl) (by as_aux_lemma => kernel_rfl) (by as_aux_lemma => kernel_rfl) (fun _ _ _ h => h) (Or.inl ⟨by rfl, ?_⟩) (by assumption) ?_
  rotate_left
  · (intro w hSw; (try dsimp only at hSw); go_simp); (try with_reducible rfl)
  simp only [List.getElem_toArray, List.getElem_cons_zero, List.getElem_cons_succ, Act.put, List.setIfInBounds_toArray, List.set_cons_zero, List.set_cons_succ]
  refine wpAnyH_take (i := 12) (v := ?_) rfl (by as_aux_lemma => kernel_rfl) (by as_aux_lemma => kernel_rfl) (by as_aux_lemma => kernel_rfl) (fun _ _ _ h => h) (Or.inl ⟨by rfl, ?_⟩) (by assumption) ?_
  rotate_left
  · (intro w hSw; (try dsimp only at hSw); go_simp); (try with_reducible rfl)
  simp only [List.getElem_toArray, List.getElem_cons_zero, List.getElem_cons_succ, Act.put, List.setIfInBounds_toArray, List.set_cons_zero, List.set_cons_succ]
  refine wpAnyH_take (i := 14) (v := ?_) rfl (by as_aux_lemma => kernel_rfl) (by as_aux_lemma => kernel_rfl) (by as_aux_lemma => kernel_rfl) (fun _ _ _ h => h) (Or.inl ⟨by rfl, ?_⟩) (by assumption) ?_
  rotate_left
  · (intro w hSw; (try dsimp only at hSw); go_simp); (try with_reducible rfl)
  simp only [List.getElem_toArray, List.getElem_cons_zero, List.getElem_cons_succ, Act.put, List.setIfInBounds_toArray, List.set_cons_zero, List.set_cons_succ]
  refine wpAnyH_take (i := 15) (v := ?_) rfl (by as_aux_lemma => kernel_rfl) (by as_aux_lemma => kernel_rfl) (by as_aux_lemma => kernel_rfl) (fun _ _ _ h => h) (Or.inl ⟨by rfl, ?_⟩) (by assumption) ?_
  rotate_left
  · (intro w hSw; (try dsimp only at hSw); go_simp); (try with_reducible rfl)
  simp only [List.getElem_toArray, List.getElem_cons_zero, List.getElem_cons_succ, Act.put, List.setIfInBounds_toArray, List.set_cons_zero, List.set_cons_succ]
  refine wpAnyH_ready (rs := [13]) (by as_aux_lemma => kernel_rfl) (by simp) ?_
  refine AllReadyH.cons rfl (fun K hK => ?_) AllReadyH.nil
  go_simp
  refine (HB.out _ (T.ext Fu3) (P.ext Fu3)).mono ?_
  rintro _ u4 ⟨vu4, rfl, mu4, eu4⟩
  have Fu4 : Ext WP u4 := Fu3.trans eu4
  refine hK.out _ _ ⟨b2 (Bt0.ext Fu4), box3 (Bd.ext Fu4), box3 (Vf.ext Fu4), box3 (Vp.ext Fu4)⟩ (fun hHeld => ?_)
  clear hK K eu4 Fu3 mu1 mu2
  refine wpAnyH_ready (rs := [16]) (by as_aux_lemma => kernel_rfl) (by simp) ?_
  refine AllReadyH.cons rfl (fun K hK => ?_) AllReadyH.nil
  go_simp
  refine (HS.out _ (T.ext Fu4) (P.ext Fu4)).mono ?_
  rintro _ u5 ⟨vu5, rfl, mu5, eu5⟩
  have Fu5 : Ext WP u5 := Fu4.trans eu5
  replace mu4 := mu4.ext eu5
  refine hK.out _ _ ⟨b2 (Bt0.ext Fu5), box3 (Bd.ext Fu5), box3 (Vf.ext Fu5), box3 (Vp.ext Fu5)⟩ (fun hHeld => ?_)
  clear hK K eu5 Fu4
  refine wpAnyH_ready (rs := [17]) (by as_aux_lemma => kernel_rfl) (by simp) ?_
  refine AllReadyH.cons rfl (fun K hK => ?_) AllReadyH.nil
  go_simp
  refine (rinside_lit7 _ _ _ bb1 bb2 s1 s2 N2 1 p1 p2 p3 mu4 mu5 rb1 rb2 rs1 rs2 (by omega)).mono ?_
  rintro _ u6 ⟨rfl, eu6⟩
  have Fu6 : Ext WP u6 := Fu5.trans eu6
  replace mu4 := mu4.ext eu6
  replace mu5 := mu5.ext eu6
  refine hK.out _ _ ⟨b2 (Bt0.ext Fu6), box3 (Bd.ext Fu6), box3 (Vf.ext Fu6), box3 (Vp.ext Fu6)⟩ (fun hHeld => ?_)
  clear hK K eu6 Fu5
  refine wpAnyH_take (i := 18) (v := ?_) rfl (by as_aux_lemma => kernel_rfl) (by as_aux_lemma => kernel_rfl) (by as_aux_lemma => kernel_rfl) (fun _ _ _ h => h) (Or.inl ⟨by rfl, ?_⟩) (by assumption) ?_
  rotate_left
  · (intro w hSw; (try dsimp only at hSw); go_simp); (try with_reducible rfl)
  simp only [List.getElem_toArray, List.getElem_cons_zero, List.getElem_cons_succ, Act.put, List.setIfInBounds_toArray, List.set_cons_zero, List.set_cons_succ]
  refine wpAnyH_take (i := 19) (v := ?_) rfl (by as_aux_lemma => kernel_rfl) (by as_aux_lemma => kernel_rfl) (by as_aux_lemma => kernel_rfl) (fun _ _ _ h => h) (Or.inl ⟨by rfl, ?_⟩) (by assumption) ?_
  rotate_left
  · (intro w hSw; (try dsimp only at hSw); go_simp); (try with_reducible rfl)
  simp only [List.getElem_toArray, List.getElem_cons_zero, List.getElem_cons_succ, Act.put, List.setIfInBounds_toArray, List.set_cons_zero, List.set_cons_succ]
  refine wpAnyH_take (i := 20) (v := ?_) rfl (by as_aux_lemma => kernel_rfl) (by as_aux_lemma => kernel_rfl) (by as_aux_lemma => kernel_rfl) (fun _ _ _ h => h) (Or.inl ⟨by rfl, ?_⟩) (by assumption) ?_
  rotate_left
  · (intro w hSw; (try dsimp only at hSw); go_simp); (try with_reducible rfl)
  simp only [List.getElem_toArray, List.getElem_cons_zero, List.getElem_cons_succ, Act.put, List.setIfInBounds_toArray, List.set_cons_zero, List.set_cons_succ]
  refine wpAnyH_ready (rs := [21]) (by as_aux_lemma => kernel_rfl) (by simp) ?_
  refine AllReadyH.cons rfl (fun K hK => ?_) AllReadyH.nil
  go_simp
  refine (rrightDn_any _ _ f 300 393 (nf.ext Fu6) rf (by omega)).mono ?_
  rintro _ u7 ⟨rfl, eu7⟩
  have Fu7 : Ext WP u7 := Fu6.trans eu7
  refine hK.out _ _ ⟨b2 (Bt0.ext Fu7), box3 (Bd.ext Fu7), box3 (Vf.ext Fu7), box3 (Vp.ext Fu7)⟩ (fun hHeld => ?_)
  clear hK K eu7 Fu6 mu4 mu5
  refine wpAnyH_take (i := 22) (v := ?_) rfl (by as_aux_lemma => kernel_rfl) (by as_aux_lemma => kernel_rfl) (by as_aux_lemma => kernel_rfl) (fun _ _ _ h => h) (Or.inl ⟨by rfl, ?_⟩) (by assumption) ?_
  rotate_left
  · (intro w hSw; (try dsimp only at hSw); go_simp); (try with_reducible rfl)
  simp only [List.getElem_toArray, List.getElem_cons_zero, List.getElem_cons_succ, Act.put, List.setIfInBounds_toArray, List.set_cons_zero, List.set_cons_succ]
  refine wpAnyH_take (i := 23) (v := ?_) rfl (by as_aux_lemma => kernel_rfl) (by as_aux_lemma => kernel_rfl) (by as_aux_lemma => kernel_rfl) (fun _ _ _ h => h) (Or.inl ⟨by rfl, ?_⟩) (by assumption) ?_
  rotate_left
  · (intro w hSw; (try dsimp only at hSw); go_simp); (try with_reducible rfl)
  simp only [List.getElem_toArray, List.getElem_cons_zero, List.getElem_cons_succ, Act.put, List.setIfInBounds_toArray, List.set_cons_zero, List.set_cons_succ]
  refine wpAnyH_take (i := 24) (v := ?_) rfl (by as_aux_lemma => kernel_rfl) (by as_aux_lemma => kernel_rfl) (by as_aux_lemma => kernel_rfl) (fun _ _ _ h => h) (Or.inl ⟨by rfl, ?_⟩) (by assumption) ?_
  rotate_left
  · (intro w hSw; (try dsimp only at hSw); go_simp); (try with_reducible rfl)
  simp only [List.getElem_toArray, List.getElem_cons_zero, List.getElem_cons_succ, Act.put, List.setIfInBounds_toArray, List.set_cons_zero, List.set_cons_succ]
  refine wpAnyH_take (i := 25) (v := ?_) rfl (by as_aux_lemma => kernel_rfl) (by as_aux_lemma => kernel_rfl) (by as_aux_lemma => kernel_rfl) (fun _ _ _ h => h) (Or.inl ⟨by rfl, ?_⟩) (by assumption) ?_
  rotate_left
  · (intro w hSw; (try dsimp only at hSw); go_simp); (try with_reducible rfl)
  simp only [List.getElem_toArray, List.getElem_cons_zero, List.getElem_cons_succ, Act.put, List.setIfInBounds_toArray, List.set_cons_zero, List.set_cons_succ]
  refine wpAnyH_ready (rs := [26]) (by as_aux_lemma => kernel_rfl) (by simp) ?_
  refine AllReadyH.cons rfl (fun K hK => ?_) AllReadyH.nil
  go_simp
  refine hK.out _ _ ⟨b2 (Bt0.ext Fu7), box3 (Bd.ext Fu7), box3 (Vf.ext Fu7), box3 (Vp.ext Fu7)⟩ (fun hHeld => ?_)
  clear hK K
  refine wpAnyH_take (i := 27) (v := ?_) rfl (by as_aux_lemma => kernel_rfl) (by as_aux_lemma => kernel_rfl) (by as_aux_lemma => kernel_rfl) (fun _ _ _ h => h) (Or.inl ⟨by rfl, ?_⟩) (by assumption) ?_
  rotate_left
  · (intro w hSw; (try dsimp only at hSw); go_simp); (try with_reducible rfl)
  simp only [List.getElem_toArray, List.getElem_cons_zero, List.getElem_cons_succ, Act.put, List.setIfInBounds_toArray, List.set_cons_zero, List.set_cons_succ]
  refine wpAnyH_take (i := 28) (v := ?_) rfl (by as_aux_lemma => kernel_rfl) (by as_aux_lemma => kernel_rfl) (by as_aux_lemma => kernel_rfl) (fun _ _ _ h => h) (Or.inl ⟨by rfl, ?_⟩) (by assumption) ?_
  rotate_left
  · (intro w hSw; (try dsimp only at hSw); go_simp); (try with_reducible rfl)
  simp only [List.getElem_toArray, List.getElem_cons_zero, List.getElem_cons_succ, Act.put, List.setIfInBounds_toArray, List.set_cons_zero, List.set_cons_succ]
  refine wpAnyH_take (i := 29) (v := ?_) rfl (by as_aux_lemma => kernel_rfl) (by as_aux_lemma => kernel_rfl) (by as_aux_lemma => kernel_rfl) (fun _ _ _ h => h) (Or.inl ⟨by rfl, ?_⟩) (by assumption) ?_
  rotate_left
  · (intro w hSw; (try dsimp only at hSw); go_simp); (try with_reducible rfl)
  simp only [List.getElem_toArray, List.getElem_cons_zero, List.getElem_cons_succ, Act.put, List.setIfInBounds_toArray, List.set_cons_zero, List.set_cons_succ]
  refine wpAnyH_take (i := 31) (v := ?_) rfl (by as_aux_lemma => kernel_rfl) (by as_aux_lemma => kernel_rfl) (by as_aux_lemma => kernel_rfl) (fun _ _ _ h => h) (Or.inl ⟨by rfl, ?_⟩) (by assumption) ?_
  rotate_left
  · (intro w hSw; (try dsimp only at hSw); go_simp); (try with_reducible rfl)
  simp only [List.getElem_toArray, List.getElem_cons_zero, List.getElem_cons_succ, Act.put, List.setIfInBounds_toArray, List.set_cons_zero, List.set_cons_succ]
  refine wpAnyH_take (i := 30) (v := ?_) rfl (by as_aux_lemma => kernel_rfl) (by as_aux_lemma => kernel_rfl) (by as_aux_lemma => kernel_rfl) (fun _ _ _ h => h) (Or.inl ⟨by rfl, ?_⟩) (by assumption) ?_
  rotate_left
  · (intro w hSw; (try dsimp only at hSw); go_simp); (try with_reducible rfl)
  simp only [List.getElem_toArray, List.getElem_cons_zero, List.getElem_cons_succ, Act.put, List.setIfInBounds_toArray, List.set_cons_zero, List.set_cons_succ]
  refine wpAnyH_take (i := 32) (v := ?_) rfl (by as_aux_lemma => kernel_rfl) (by as_aux_lemma => kernel_rfl) (by as_aux_lemma => kernel_rfl) (fun _ _ _ h => h) (Or.inl ⟨by rfl, ?_⟩) (by assumption) ?_
  rotate_left
  · (intro w hSw; (try dsimp only at hSw); go_simp); (try with_reducible rfl)
  simp only [List.getElem_toArray, List.getElem_cons_zero, List.getElem_cons_succ, Act.put, List.setIfInBounds_toArray, List.set_cons_zero, List.set_cons_succ]
  refine wpAnyH_take (i := 33) (v := ?_) rfl (by as_aux_lemma => kernel_rfl) (by as_aux_lemma => kernel_rfl) (by as_aux_lemma => kernel_rfl) (fun _ _ _ h => h) (Or.inl ⟨by rfl, ?_⟩) (by assumption) ?_
  rotate_left
  · (intro w hSw; (try dsimp only at hSw); go_simp); (try with_reducible rfl)
  simp only [List.getElem_toArray, List.getElem_cons_zero, List.getElem_cons_succ, Act.put, List.setIfInBounds_toArray, List.set_cons_zero, List.set_cons_succ]
  refine wpAnyH_take (i := 34) (v := ?_) rfl (by as_aux_lemma => kernel_rfl) (by as_aux_lemma => kernel_rfl) (by as_aux_lemma => kernel_rfl) (fun _ _ _ h => h) (Or.inl ⟨by rfl, ?_⟩) (by assumption) ?_
  rotate_left
  · (intro w hSw; (try dsimp only at hSw); go_simp); (try with_reducible rfl)
  simp only [List.getElem_toArray, List.getElem_cons_zero, List.getElem_cons_succ, Act.put, List.setIfInBounds_toArray, List.set_cons_zero, List.set_cons_succ]
  refine wpAnyH_take (i := 35) (v := ?_) rfl (by as_aux_lemma => kernel_rfl) (by as_aux_lemma => kernel_rfl) (by as_aux_lemma => kernel_rfl) (fun _ _ _ h => h) (Or.inl ⟨by rfl, ?_⟩) (by assumption) ?_
  rotate_left
  · (intro w hSw; (try dsimp only at hSw); go_simp); (try with_reducible rfl)
  simp only [List.getElem_toArray, List.getElem_cons_zero, List.getElem_cons_succ, Act.put, List.setIfInBounds_toArray, List.set_cons_zero, List.set_cons_succ]
  refine wpAnyH_take (i := 36) (v := ?_) rfl (by as_aux_lemma => kernel_rfl) (by as_aux_lemma => kernel_rfl) (by as_aux_lemma => kernel_rfl) (fun _ _ _ h => h) (Or.inl ⟨by rfl, ?_⟩) (by assumption) ?_
  rotate_left
  · (intro w hSw; (try dsimp only at hSw); go_simp); (try with_reducible rfl)
  simp only [List.getElem_toArray, List.getElem_cons_zero, List.getElem_cons_succ, Act.put, List.setIfInBounds_toArray, List.set_cons_zero, List.set_cons_succ]
  refine wpAnyH_take (i := 37) (v := ?_) rfl (by as_aux_lemma => kernel_rfl) (by as_aux_lemma => kernel_rfl) (by as_aux_lemma => kernel_rfl) (fun _ _ _ h => h) (Or.inl ⟨by rfl, ?_⟩) (by assumption) ?_
  rotate_left
  · (intro w hSw; (try dsimp only at hSw); go_simp); (try with_reducible rfl)
  simp only [List.getElem_toArray, List.getElem_cons_zero, List.getElem_cons_succ, Act.put, List.setIfInBounds_toArray, List.set_cons_zero, List.set_cons_succ]
  refine wpAnyH_take (i := 38) (v := ?_) rfl (by as_aux_lemma => kernel_rfl) (by as_aux_lemma => kernel_rfl) (by as_aux_lemma => kernel_rfl) (fun _ _ _ h => h) (Or.inl ⟨by rfl, ?_⟩) (by assumption) ?_
  rotate_left
  · (intro w hSw; (try dsimp only at hSw); go_simp); (try with_reducible rfl)
  simp only [List.getElem_toArray, List.getElem_cons_zero, List.getElem_cons_succ, Act.put, List.setIfInBounds_toArray, List.set_cons_zero, List.set_cons_succ]
  refine wpAnyH_ready (rs := [39]) (by as_aux_lemma => kernel_rfl) (by simp) ?_
  refine AllReadyH.cons rfl (fun K hK => ?_) AllReadyH.nil
  go_simp
  refine (rcmp_lit8 _ _ _ f d 300 394 x1 HX.out.1 (nf.ext Fu7) (nd.ext Fu7) (rf.mono (by omega) (by omega)) rd3 (by omega)).mono ?_
  rintro _ u8 ⟨rfl, eu8⟩
  have Fu8 : Ext WP u8 := Fu7.trans eu8
  refine hK.out _ _ ⟨b2 (Bt0.ext Fu8), box3 (Bd.ext Fu8), box3 (Vf.ext Fu8), box3 (Vp.ext Fu8)⟩ (fun hHeld => ?_)
  clear hK K eu8 Fu7
  refine wpAnyH_take (i := 40) (v := ?_) rfl (by as_aux_lemma => kernel_rfl) (by as_aux_lemma => kernel_rfl) (by as_aux_lemma => kernel_rfl) (fun _ _ _ h => h) (Or.inl ⟨by rfl, ?_⟩) (by assumption) ?_
  rotate_left
  · (intro w hSw; (try dsimp only at hSw); go_simp); (try with_reducible rfl)
  simp only [List.getElem_toArray, List.getElem_cons_zero, List.getElem_cons_succ, Act.put, List.setIfInBounds_toArray, List.set_cons_zero, List.set_cons_succ]
  refine wpAnyH_take (i := 41) (v := ?_) rfl (by as_aux_lemma => kernel_rfl) (by as_aux_lemma => kernel_rfl) (by as_aux_lemma => kernel_rfl) (fun _ _ _ h => h) (Or.inl ⟨by rfl, ?_⟩) (by assumption) ?_
  rotate_left
  · (intro w hSw; (try dsimp only at hSw); go_simp); (try with_reducible rfl)
  simp only [List.getElem_toArray, List.getElem_cons_zero, List.getElem_cons_succ, Act.put, List.setIfInBounds_toArray, List.set_cons_zero, List.set_cons_succ]
  refine wpAnyH_take (i := 42) (v := ?_) rfl (by as_aux_lemma => kernel_rfl) (by as_aux_lemma => kernel_rfl) (by as_aux_lemma => kernel_rfl) (fun _ _ _ h => h) (Or.inl ⟨by rfl, ?_⟩) (by assumption) ?_
  rotate_left
  · (intro w hSw; (try dsimp only at hSw); go_simp); (try with_reducible rfl)
  simp only [List.getElem_toArray, List.getElem_cons_zero, List.getElem_cons_succ, Act.put, List.setIfInBounds_toArray, List.set_cons_zero, List.set_cons_succ]
  refine wpAnyH_take (i := 43) (v := ?_) rfl (by as_aux_lemma => kernel_rfl) (by as_aux_lemma => kernel_rfl) (by as_aux_lemma => kernel_rfl) (fun _ _ _ h => h) (Or.inl ⟨by rfl, ?_⟩) (by assumption) ?_
  rotate_left
  · (intro w hSw; (try dsimp only at hSw); go_simp); (try with_reducible rfl)
  simp only [List.getElem_toArray, List.getElem_cons_zero, List.getElem_cons_succ, Act.put, List.setIfInBounds_toArray, List.set_cons_zero, List.set_cons_succ]
  refine wpAnyH_take (i := 44) (v := ?_) rfl (by as_aux_lemma => kernel_rfl) (by as_aux_lemma => kernel_rfl) (by as_aux_lemma => kernel_rfl) (fun _ _ _ h => h) (Or.inl ⟨by rfl, ?_⟩) (by assumption) ?_
  rotate_left
  · (intro w hSw; (try dsimp only at hSw); go_simp); (try with_reducible rfl)
  simp only [List.getElem_toArray, List.getElem_cons_zero, List.getElem_cons_succ, Act.put, List.setIfInBounds_toArray, List.set_cons_zero, List.set_cons_succ]
  refine wpAnyH_take (i := 45) (v := ?_) rfl (by as_aux_lemma => kernel_rfl) (by as_aux_lemma => kernel_rfl) (by as_aux_lemma => kernel_rfl) (fun _ _ _ h => h) (Or.inl ⟨by rfl, ?_⟩) (by assumption) ?_
  rotate_left
  · (intro w hSw; (try dsimp only at hSw); go_simp); (try with_reducible rfl)
  simp only [List.getElem_toArray, List.getElem_cons_zero, List.getElem_cons_succ, Act.put, List.setIfInBounds_toArray, List.set_cons_zero, List.set_cons_succ]
  refine wpAnyH_ready (rs := [46]) (by as_aux_lemma => kernel_rfl) (by simp) ?_
  refine AllReadyH.cons rfl (fun K hK => ?_) AllReadyH.nil
  go_simp
  refine (raddD_any _ _ _ f (eps N) 300 393 (nf.ext Fu8) (np.ext Fu8) rf rp (by omega)).mono ?_
  rintro _ u9 ⟨vu9, rfl, mu9, eu9⟩
  have Fu9 : Ext WP u9 := Fu8.trans eu9
  refine hK.out _ _ ⟨b2 (Bt0.ext Fu9), box3 (Bd.ext Fu9), box3 (Vf.ext Fu9), box3 (Vp.ext Fu9)⟩ (fun hHeld => ?_)
  clear hK K eu9 Fu8
  refine wpAnyH_ready (rs := [47]) (by as_aux_lemma => kernel_rfl) (by simp) ?_
  refine AllReadyH.cons rfl (fun K hK => ?_) AllReadyH.nil
  go_simp
  refine (rcmp_lit8 _ _ _ d (f + eps N) 300 394 x2 HX.out.2 (nd.ext Fu9) mu9 rd3 (rf.add rp) (by omega)).mono ?_
  rintro _ u10 ⟨rfl, eu10⟩
  have Fu10 : Ext WP u10 := Fu9.trans eu10
  replace mu9 := mu9.ext eu10
  refine hK.out _ _ ⟨b2 (Bt0.ext Fu10), box3 (Bd.ext Fu10), box3 (Vf.ext Fu10), box3 (Vp.ext Fu10)⟩ (fun hHeld => ?_)
  clear hK K eu10 Fu9
  refine wpAnyH_take (i := 48) (v := ?_) rfl (by as_aux_lemma => kernel_rfl) (by as_aux_lemma => kernel_rfl) (by as_aux_lemma => kernel_rfl) (fun _ _ _ h => h) (Or.inl ⟨by rfl, ?_⟩) (by assumption) ?_
  rotate_left
  · (intro w hSw; (try dsimp only at hSw); go_simp); (try with_reducible rfl)
  simp only [List.getElem_toArray, List.getElem_cons_zero, List.getElem_cons_succ, Act.put, List.setIfInBounds_toArray, List.set_cons_zero, List.set_cons_succ]
  refine wpAnyH_take (i := 49) (v := ?_) rfl (by as_aux_lemma => kernel_rfl) (by as_aux_lemma => kernel_rfl) (by as_aux_lemma => kernel_rfl) (fun _ _ _ h => h) (Or.inl ⟨by rfl, ?_⟩) (by assumption) ?_
  rotate_left
  · (intro w hSw; (try dsimp only at hSw); go_simp); (try with_reducible rfl)
  simp only [List.getElem_toArray, List.getElem_cons_zero, List.getElem_cons_succ, Act.put, List.setIfInBounds_toArray, List.set_cons_zero, List.set_cons_succ]
  refine wpAnyH_take (i := 50) (v := ?_) rfl (by as_aux_lemma => kernel_rfl) (by as_aux_lemma => kernel_rfl) (by as_aux_lemma => kernel_rfl) (fun _ _ _ h => h) (Or.inl ⟨by rfl, ?_⟩) (by assumption) ?_
  rotate_left
  · (intro w hSw; (try dsimp only at hSw); go_simp); (try with_reducible rfl)
  simp only [List.getElem_toArray, List.getElem_cons_zero, List.getElem_cons_succ, Act.put, List.setIfInBounds_toArray, List.set_cons_zero, List.set_cons_succ]
  refine wpAnyH_done (by as_aux_lemma => kernel_rfl) ?_ _
  go_wp2
  go_ret
  exact ⟨rfl, EP.trans Fu10⟩
theorem walk_CircMore (w : World) (T0 : Tu w) (K Q : Int) (bK : -9223372036854775808 ≤ K ∧ K ≤ 9223372036854775807) (bQ : -9223372036854775808 ≤ Q ∧ Q ≤ 9223372036854775807) (n : Int) (hn : 0 ≤ n ∧ n ≤ 255) (n2 : Int) (hn2 : 0 ≤ n2 ∧ n2 ≤ 255) (nb : Bool) (M : Value) (xs : List Int) (e : Int) (row : Row w M xs) (be : -9223372036854775808 ≤ e ∧ e ≤ 9223372036854775807) :
    Calls Tryz.prog 8 #[.agg #[.int .i64 K, .int .i64 Q], .int .u8 n, .int .u8 n2, .agg #[.bool nb, M, .int .i64 e]] w (RetE w (.bool true)) := by
  cases hr : goodT K Q with
  | false => exact more_no w T0 K Q n n2 nb M xs e row be bK bQ hn hr
  | true =>
    cases hg : goodAll 1 (pk nb nb nb) (pk xs xs xs) (pk e e e) with
    | false => exact more_bad w T0 K Q n n2 nb M xs e row be bK bQ hn hr hg
    | true =>
      have hr2 := hr
      obtain ⟨⟨q0, q14⟩, hK⟩ := goodT_iff.1 hr2
      obtain ⟨Q, rfl⟩ := Int.eq_ofNat_of_zero_le q0
      replace q14 : Q ≤ 14 := by omega
      obtain ⟨N, hN⟩ := Int.eq_ofNat_of_zero_le (show 0 ≤ n % 70 + 1 by omega)
      obtain ⟨N2, hN2⟩ := Int.eq_ofNat_of_zero_le (show 0 ≤ n % 70 + 1 + n2 % 20 by omega)
      have hNN : N ≤ N2 := by omega
      obtain ⟨z, nd, _, _, _, _, rd⟩ := good_num row (goodAll_true hg 0 (by omega))
      obtain ⟨r1, r2⟩ := cv_range (tv K Q)
      have a := tgt_at N r1.1 r1.2
      have b := tgt_at N r2.1 r2.2
      have a' := tgt_at N2 r1.1 r1.2
      have b' := tgt_at N2 r2.1 r2.2
      have ma := a.more a' hNN
      have mb := b.more b' hNN
      have a2 := a.rg r1.1 r1.2
      have b2 := b.rg r2.1 r2.2
      have a3 := a'.rg r1.1 r1.2
      have b3 := b'.rg r2.1 r2.2
      have HC := Lib.hid fun w' T' P' => ccos_good w' K Q N _ _ _ hN rfl rfl hK q14 (by omega) (by omega) T' P'
      have HS := Lib.hid fun w' T' P' => csin_good w' K Q N _ _ _ hN rfl rfl hK q14 (by omega) (by omega) T' P'
      have HA := Lib.hid fun w' T' P' => ccos_good w' K Q N2 _ _ _ hN2 rfl rfl hK q14 (by omega) (by omega) T' P'
      have HB := Lib.hid fun w' T' P' => csin_good w' K Q N2 _ _ _ hN2 rfl rfl hK q14 (by omega) (by omega) T' P'
      by_cases hz : flo N (dy z e) = 0
      · exact more_z w T0 K n n2 _ _ Q N N2 nb M xs e row be bK q14 hn hn2 hr hg rfl rfl hN (by omega) (by omega) (by omega) _ _ _ _ _ _ _ _ _ _ nd rd rfl hz HC HS HA HB (a2.1.mono hNN (by omega)) (a2.2.mono hNN (by omega)) (b2.1.mono hNN (by omega)) (b2.2.mono hNN (by omega)) a3.1 a3.2 b3.1 b3.2 ma.1 a'.en.le ma.2 mb.1 b'.en.le mb.2
      · exact more_y w T0 K n n2 _ _ Q N N2 nb M xs e row be bK q14 hn hn2 hr hg rfl rfl hN (by omega) (by omega) (by omega) _ _ _ _ _ _ _ _ _ _ nd rd rfl hz HC HS HA HB (a2.1.mono hNN (by omega)) (a2.2.mono hNN (by omega)) (b2.1.mono hNN (by omega)) (b2.2.mono hNN (by omega)) a3.1 a3.2 b3.1 b3.2 ma.1 a'.en.le ma.2 mb.1 b'.en.le mb.2
end Go.Proofs.YtomdbmjfehoodaaGreatDoor
