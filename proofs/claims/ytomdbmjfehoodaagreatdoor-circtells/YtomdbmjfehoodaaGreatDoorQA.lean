/- Walks of the document's answers on cosines: Floor, known. -/
import Derived.Test.YtomdbmjfehoodaaGreatDoorLG
import Derived.Test.YtomdbmjfehoodaaGreatDoorHn
import Derived.Deep.Cut
set_option maxRecDepth 8000
namespace Go.Proofs.YtomdbmjfehoodaaGreatDoor
open Go.RowKit
set_option linter.unusedVariables false
set_option linter.unusedSimpArgs false
theorem zd_cells {w : World} {g : Nat} (h : Zd w g) : ∀ j x, w.cell? ⟨g, j, none⟩ = some (.int .i64 x) → x ≤ 0 := fun j x hx => by
  match j with
  | 0 => rw [h.c0] at hx; cases hx
  | 1 => rw [h.c1] at hx; cases hx
  | 2 => rw [h.c2] at hx; injection hx with hx; injection hx with _ hx; omega
  | j + 3 => rw [h.c3 j] at hx; cases hx
theorem Zd.offD {w : World} {g : Nat} {v : Value} {d : Dyadic} (h : Zd w g) (t : Dn w v d) (a b c : Value) : Dn (set3 w g a b c) v d :=
  dn_offn (zd_cells h) t (fun p hp => set3_other hp) (by rw [set3_size]; omega)
theorem Zd.putD {w : World} {g : Nat} (h : Zd w g) (a b c : Value) : Box (set3 w g a b c) g a b c := ⟨(h.read a b c).1, (h.read a b c).2.1, (h.read a b c).2.2⟩
theorem Zi.offD {w : World} {g : Nat} {v : Value} {d : Dyadic} (h : Zi w g) (t : Dn w v d) (a b c a' b' c' : Value) : Dn (set6 w g a b c a' b' c') v d :=
  dn_offn h.vr.n t (fun p hp => set6_other hp) (by rw [set6_size]; omega)
set_option maxRecDepth 8000 in
set_option maxHeartbeats 1000000 in
theorem rfloor_same (w : World) (b : Bool) (A : Option Addr) (l c n : Nat) (e : Int) (d : Dyadic) (h : Dn w (.agg #[.bool b, .slice A l c, .int .i64 e]) d) (hn : n ≤ 1000) (he : -10000 ≤ e ∧ e ≤ 10000) (hle : -(n : Int) ≤ e) :
    Calls Tryz.prog 20 #[.agg #[.bool b, .slice A l c, .int .i64 e], .int .i64 n] w (RetD w d) := by
  have HD := Lib.hid (fun (w' : World) (E' : Ext w w') => h.ext E')
  obtain ⟨k, hk⟩ : ∃ k : Int, -e - (n : Int) = k := ⟨_, rfl⟩
  have hk0 : k ≤ 0 := by omega
  have hk1 : -20000 ≤ k := by omega
  clear h hle
  go_enter Tryz.func20, Tryz.ntmps20
  go_wp2
  refine bodyPost_ret (v := .agg #[.bool b, .slice A l c, .int .i64 e]) (by simp [results, Tryz.results20, go_sem]) rfl ?_
  exact ⟨_, rfl, HD.out _ (((Ext.refl w).alloc _).alloc _), ((Ext.refl w).alloc _).alloc _⟩
set_option maxRecDepth 8000 in
set_option maxHeartbeats 1000000 in
theorem rfloor_pos (w : World) (A : Option Addr) (l c n p K : Nat) (e : Int) (hN : N w (.slice A l c) p) (lm : Lt 200 p) (hn : n ≤ 1000) (he : -10000 ≤ e ∧ e ≤ 10000) (hK : -e - (n : Int) = (K : Int)) (K0 : 0 < K) :
    Calls Tryz.prog 20 #[.agg #[.bool false, .slice A l c, .int .i64 e], .int .i64 n] w (RetD w (dy (sg false (p / 2 ^ K)) (-(n : Int)))) := by
  have HS := Lib.hid (fun (w' : World) (hE : Ext w w') => rshr_K w' _ p K (by omega) (hN.ext hE) (lm.mono (by omega)))
  have HM := Lib.hid (fun (w' : World) (v : Value) (hv : N w' v (p / 2 ^ K)) => rmake_any w' false v (p / 2 ^ K) (-(n : Int)) hv (lt_down lm K) (by omega))
  have hk0 : ¬ (K : Int) ≤ 0 := by omega
  have hk1 : (K : Int) ≤ 20000 := by omega
  clear hN
  go_enter Tryz.func20, Tryz.ntmps20
  go_wp2_with fail
  refine (HS.out _ (((Ext.refl w).alloc _).alloc _)).mono ?_
  rintro _ w1 ⟨v1, rfl, m1, e1⟩
  have E1 : Ext w w1 := (((Ext.refl w).alloc _).alloc _).trans e1
  have B1 : Box w1 w.heap.size (.bool false) (.slice A l c) (.int .i64 e) := Box.at (((Ext.refl _).alloc _).trans e1) rfl
  have Z1 : Zd w1 (w.heap.size + 1) := Zd.at e1 (by simp)
  obtain ⟨b0, b1, b2⟩ := id B1
  have b0_l := World.block_lt_of_cell? _ _ b0
  clear e1 HS
  go_wp2_with fail
  refine (HM.out _ _ m1).mono ?_
  rintro _ w4 ⟨v4, rfl, m4, e4⟩
  obtain ⟨bb, A4, l4, c4, ee4, rfl⟩ := m4.form
  have Z4 := Z1.ext e4
  have g0 := Z4.c0; have g1 := Z4.c1; have g2 := Z4.c2; have f0 := Z4.f 0; have f1 := Z4.f 1; have f2 := Z4.f 2
  go_wp2
  obtain ⟨k0, k1, k2, hD⟩ := Z4.done m4 (E1.trans e4) (by omega)
  exact bodyPost_ret (by simp [results, Tryz.results20, go_sem, k0, k1, k2]) rfl hD
set_option maxRecDepth 8000 in
set_option maxHeartbeats 1000000 in
theorem rfloor_neg (w : World) (A : Option Addr) (l c n p K : Nat) (e : Int) (hN : N w (.slice A l c) p) (lm : Lt 200 p) (hn : n ≤ 1000) (he : -10000 ≤ e ∧ e ≤ 10000) (hK : -e - (n : Int) = (K : Int)) (K0 : 0 < K) :
    Calls Tryz.prog 20 #[.agg #[.bool true, .slice A l c, .int .i64 e], .int .i64 n] w (RetD w (dy (sg true (p / 2 ^ K + 1)) (-(n : Int)))) := by
  have HS := Lib.hid (fun (w' : World) (hE : Ext w w') => rshr_K w' _ p K (by omega) (hN.ext hE) (lm.mono (by omega)))
  have HM := Lib.hid (fun (w' : World) (v : Value) (hv : N w' v (p / 2 ^ K + 1)) => rmake_any w' true v (p / 2 ^ K + 1) (-(n : Int)) hv (lt_down1 lm K) (by omega))
  have hk0 : ¬ (K : Int) ≤ 0 := by omega
  have hk1 : (K : Int) ≤ 20000 := by omega
  clear hN
  go_enter Tryz.func20, Tryz.ntmps20
  go_wp2_with fail
  refine (HS.out _ (((Ext.refl w).alloc _).alloc _)).mono ?_
  rintro _ w1 ⟨v1, rfl, m1, e1⟩
  have E1 : Ext w w1 := (((Ext.refl w).alloc _).alloc _).trans e1
  have B1 : Box w1 w.heap.size (.bool true) (.slice A l c) (.int .i64 e) := Box.at (((Ext.refl _).alloc _).trans e1) rfl
  have Z1 : Zd w1 (w.heap.size + 1) := Zd.at e1 (by simp)
  obtain ⟨b0, b1, b2⟩ := id B1
  have b0_l := World.block_lt_of_cell? _ _ b0
  clear e1 HS
  go_wp2_with fail
  refine (radd_any _ _ _ _ 1 (m1.ext ((Ext.refl w1).alloc _)) (nat_one w1 1 _ 1 (by omega) (by omega) rfl) (lt_low lm K) lt_one).mono ?_
  rintro _ w3 ⟨v3, rfl, m3, e3⟩
  have e2 : Ext w1 w3 := ((Ext.refl w1).alloc _).trans e3
  replace E1 := E1.trans e2
  replace B1 := B1.ext e2
  replace Z1 := Z1.ext e2
  clear b0 b1 b2 b0_l e2 e3 m1
  obtain ⟨b0, b1, b2⟩ := id B1
  have b0_l := World.block_lt_of_cell? _ _ b0
  go_wp2_with fail
  refine (HM.out _ _ m3).mono ?_
  rintro _ w4 ⟨v4, rfl, m4, e4⟩
  obtain ⟨bb, A4, l4, c4, ee4, rfl⟩ := m4.form
  have Z4 := Z1.ext e4
  have g0 := Z4.c0; have g1 := Z4.c1; have g2 := Z4.c2; have f0 := Z4.f 0; have f1 := Z4.f 1; have f2 := Z4.f 2
  go_wp2
  obtain ⟨k0, k1, k2, hD⟩ := Z4.done m4 (E1.trans e4) (by omega)
  exact bodyPost_ret (by simp [results, Tryz.results20, go_sem, k0, k1, k2]) rfl hD
theorem rfloor_any (w : World) (v : Value) (d : Dyadic) (j : Int) (n P Q : Nat) (hj : j = (n : Int)) (h : Dn w v d) (r : Rg P Q d) (hb : P + Q ≤ 4800) (hn : n ≤ 1000) :
    Calls Tryz.prog 20 #[v, .int .i64 j] w (RetD w (flo n d)) := by
  subst hj
  have hD := h
  obtain ⟨A, l, c, z, e, rfl, hN, hc, rfl, _⟩ := h.parts
  obtain ⟨b1, b2, b3⟩ := r.canon hc
  have lm := r.lt hc hb
  rcases Int.lt_or_le e (-(n : Int)) with g | g
  · obtain ⟨K, hK⟩ := Int.eq_ofNat_of_zero_le (show 0 ≤ -e - (n : Int) by omega)
    rw [(flo_parts hc hK (by omega)).is]
    by_cases hz : z < 0
    · rw [if_pos hz, decide_eq_true hz]
      exact rfloor_neg w A l c n _ K e hN lm hn (by omega) hK (by omega)
    · rw [if_neg hz, decide_eq_false hz]
      exact rfloor_pos w A l c n _ K e hN lm hn (by omega) hK (by omega)
  · rw [(flo_same g).is]
    exact rfloor_same w _ A l c n e _ hD hn (by omega) g
theorem rsame_lit9 (w : World) (va vb : Value) (x y : Dyadic) (r : Bool) (hr : decide (x = y) = r) (ha : Dn w va x) (hb : Dn w vb y) : Calls Tryz.prog 18 #[va, vb] w (RetE w (.bool r)) := by
  subst hr; exact rsameD_any w va vb x y ha hb
theorem rcmp_lit9 (w : World) (va vb : Value) (x y : Dyadic) (P Q : Nat) (r : Int) (hr : cmpD x y = r) (ha : Dn w va x) (hb : Dn w vb y) (hx : Rg P Q x) (hy : Rg P Q y) (h1 : P + Q ≤ 7200) : Calls Tryz.prog 23 #[va, vb] w (RetE w (.int .i64 r)) := by
  subst hr; exact rcmpD_any w va vb x y P Q ha hb hx hy h1
theorem rlit1 (w : World) (n : Nat) : Dn (w.alloc (.cells #[.int .i64 1] 3)) (.agg #[.bool false, .slice (some ⟨w.heap.size, 0, none⟩) 1 1, .int .i64 (-(n : Int))]) (eps n) :=
  lit_dn w 1 (-(n : Int)) 1 false 3 (by omega) (by omega) (by omega) (by rfl)
set_option maxRecDepth 10000 in
set_option maxHeartbeats 2000000 in
theorem rknown_yes (w : World) (va : Value) (lo hi L H : Dyadic) (n P : Nat) (ha : In w va lo hi) (r1 : Rg P 1 lo) (r2 : Rg P 1 hi) (hP : P ≤ 4400) (hn : n ≤ 300) (hL : flo n lo = L) (hH : -flo n (-hi) = H) (gap : H + -L ≤ eps n) (hs : decide (lo = hi) = true) :
    Calls Tryz.prog 51 #[va, .int .i64 n] w (RetIB w L H true) := by
  obtain ⟨ba, Aa, na, ca, ea, ba', Aa', na', ca', ea', rfl, a1, a2⟩ := ha
  have rL : Rg (n + P) 2 L := by rw [← hL]; exact flo_rgx r1
  have rF : Rg (n + P) 2 (flo n (-hi)) := flo_rgx r2.neg
  have rH : Rg (n + P) 2 H := by rw [← hH]; exact rF.neg
  obtain ⟨c, hc⟩ : ∃ c, cmpD (H + -L) (eps n) = c := ⟨_, rfl⟩
  have hc0 : decide (c ≤ 0) = true := decide_eq_true (by rw [← hc]; exact (cmp_le _ _).2 gap)
  have rE : Rg (n + P) 3 (eps n) := (rg_eps n).mono (by omega) (by omega)
  have HF := Lib.hid (fun (w' : World) (v : Value) (h : Dn w' v lo) => hL ▸ rfloor_any w' v lo n n P 1 rfl h r1 (by omega) (by omega))
  have HG := Lib.hid (fun (w' : World) (v : Value) (h : Dn w' v (-hi)) => rfloor_any w' v (-hi) n n P 1 rfl h r2.neg (by omega) (by omega))
  have HH := Lib.hid (fun (w' : World) (v : Value) (h : Dn w' v (flo n (-hi))) => hH ▸ rflip_any w' v _ h)
  replace hc0 := Lib.hid hc0
  replace hc := Lib.hid hc
  replace hs := Lib.hid hs
  clear hL hH gap r1 r2 rF
  go_enter Tryz.func51, Tryz.ntmps51
  go_wp2_with fail
  refine (HF.out _ _ (a1.ext (((Ext.refl w).alloc _).alloc _))).mono ?_
  rintro _ w1 ⟨v1, rfl, n1, f1⟩
  have Bi : Bx w1 (w.heap.size) (.bool ba) (.slice Aa na ca) (.int .i64 ea) (.bool ba') (.slice Aa' na' ca') (.int .i64 ea') := Bx.at (((Ext.refl _).alloc _).trans f1) (by simp)
  have Z4 : Zi w1 (w.heap.size + 1) := Zi.at ((Ext.refl _).trans f1) (by simp)
  have e1 : Ext w w1 := (((Ext.refl w).alloc _).alloc _).trans f1
  replace a1 := a1.ext e1
  replace a2 := a2.ext e1
  have E1 : Ext w w1 := e1
  clear f1
  have y1 : w.heap.size + 1 < w1.heap.size := World.block_lt_of_cell? _ _ Z4.c0
  obtain ⟨bn1, An1, ln1, cn1, jn1, rfl⟩ := n1.form
  obtain ⟨Bi_0, Bi_1, Bi_2, Bi_3, Bi_4, Bi_5⟩ := _root_.id Bi
  have Bi_l := World.block_lt_of_cell? _ _ Bi_0
  go_wp2_with fail
  refine (rflip_any _ _ hi (a2.ext ((Ext.refl w1).alloc _))).mono ?_
  rintro _ w2 ⟨v2, rfl, n2, f2⟩
  clear Bi_0 Bi_1 Bi_2 Bi_3 Bi_4 Bi_5 Bi_l
  have Bl : Box w2 (w1.heap.size) (.bool bn1) (.slice An1 ln1 cn1) (.int .i64 jn1) := Box.at ((Ext.refl _).trans f2) (by simp)
  have e2 : Ext w1 w2 := ((Ext.refl w1).alloc _).trans f2
  replace a1 := a1.ext e2
  replace a2 := a2.ext e2
  replace n1 := n1.ext e2
  replace Bi := Bi.ext e2
  replace Z4 := Z4.ext e2
  have E2 : Ext w w2 := E1.trans e2
  clear e2 f2 E1
  go_wp2_with fail
  refine (HG.out _ _ n2).mono ?_
  rintro _ w3 ⟨v3, rfl, n3, f3⟩
  have e3 : Ext w2 w3 := (Ext.refl w2).trans f3
  replace a1 := a1.ext e3
  replace a2 := a2.ext e3
  replace n1 := n1.ext e3
  replace n2 := n2.ext e3
  replace Bi := Bi.ext e3
  replace Z4 := Z4.ext e3
  replace Bl := Bl.ext e3
  have E3 : Ext w w3 := E2.trans e3
  clear e3 f3 E2
  go_wp2_with fail
  refine (HH.out _ _ n3).mono ?_
  rintro _ w4 ⟨v4, rfl, n4, f4⟩
  have e4 : Ext w3 w4 := (Ext.refl w3).trans f4
  replace a1 := a1.ext e4
  replace a2 := a2.ext e4
  replace n1 := n1.ext e4
  replace n2 := n2.ext e4
  replace n3 := n3.ext e4
  replace Bi := Bi.ext e4
  replace Z4 := Z4.ext e4
  replace Bl := Bl.ext e4
  have E4 : Ext w w4 := E3.trans e4
  clear e4 f4 E3
  clear n2 n3
  have y4 : w.heap.size + 1 < w4.heap.size := World.block_lt_of_cell? _ _ Z4.c0
  obtain ⟨bn4, An4, ln4, cn4, jn4, rfl⟩ := n4.form
  obtain ⟨Bl_0, Bl_1, Bl_2⟩ := _root_.id Bl
  have Bl_l := World.block_lt_of_cell? _ _ Bl_0
  go_upto_region 3 with fail
  have eW3 : Ext w4 (w4.alloc (.cells #[.bool bn4, .slice An4 ln4 cn4, .int .i64 jn4] 26)) := ((Ext.refl w4).alloc _)
  have Bh : Box (w4.alloc (.cells #[.bool bn4, .slice An4 ln4 cn4, .int .i64 jn4] 26)) (w4.heap.size) (.bool bn4) (.slice An4 ln4 cn4) (.int .i64 jn4) := Box.at (Ext.refl _) (by simp)
  replace a1 := a1.ext eW3
  replace a2 := a2.ext eW3
  replace n1 := n1.ext eW3
  replace n4 := n4.ext eW3
  replace Bi := Bi.ext eW3
  replace Z4 := Z4.ext eW3
  replace Bl := Bl.ext eW3
  have EW3 := E4.trans eW3
  clear Bl_0 Bl_1 Bl_2 Bl_l
  clear eW3 E4
  generalize hgen : (w4.alloc (.cells #[.bool bn4, .slice An4 ln4 cn4, .int .i64 jn4] 26)) = W3 at *
  clear hgen
  have y3 : w.heap.size + 1 < W3.heap.size := World.block_lt_of_cell? _ _ Z4.c0
  obtain ⟨Bl_0, Bl_1, Bl_2⟩ := _root_.id Bl
  have Bl_l := World.block_lt_of_cell? _ _ Bl_0
  obtain ⟨Bh_0, Bh_1, Bh_2⟩ := _root_.id Bh
  have Bh_l := World.block_lt_of_cell? _ _ Bh_0
  go_cut [8] from 9 (fun p8 wx => ∃ (g : Nat) (bg : Bool) (Ag : Option Addr) (lg cg : Nat) (jg : Int), p8 = .pointer (some ⟨g, 0, none⟩) ∧ Box wx g (.bool bg) (.slice Ag lg cg) (.int .i64 jg) ∧ Dn wx (.agg #[.bool bg, .slice Ag lg cg, .int .i64 jg]) (H + -L) ∧ Ext W3 wx ∧ W3.heap.size ≤ g)
  case first =>
    refine wp_region_held_drew (S := (fun w' => (w'.cell? ⟨w1.heap.size, 0, none⟩ = some (.bool bn1) ∧ w'.cell? ⟨w1.heap.size, 1, none⟩ = some (.slice An1 ln1 cn1) ∧ w'.cell? ⟨w1.heap.size, 2, none⟩ = some (.int .i64 jn1)) ∧ (w'.cell? ⟨w4.heap.size, 0, none⟩ = some (.bool bn4) ∧ w'.cell? ⟨w4.heap.size, 1, none⟩ = some (.slice An4 ln4 cn4) ∧ w'.cell? ⟨w4.heap.size, 2, none⟩ = some (.int .i64 jn4)))) (by as_aux_lemma => kernel_rfl) ⟨box3 (Bl.ext (Ext.refl W3).drew), box3 (Bh.ext (Ext.refl W3).drew)⟩ (fun hHeld => ?_)
    have F0 : Ext W3 (World.drew W3) := (Ext.refl _).drew
    generalize hgen : World.drew W3 = V0 at *
    clear hgen
    refine wpAnyH_take (i := 0) (v := ?_) rfl (by as_aux_lemma => kernel_rfl) (by as_aux_lemma => kernel_rfl) (by as_aux_lemma => kernel_rfl) (fun _ _ _ h => h) (Or.inl ⟨by rfl, ?_⟩) (by assumption) ?_
    rotate_left
    · (intro w hSw; (try dsimp only at hSw); go_simp); (try with_reducible rfl)
    simp only [List.getElem_toArray, List.getElem_cons_zero, Act.put, List.setIfInBounds_toArray, List.set_cons_zero, List.set_cons_succ]
    refine wpAnyH_take (i := 1) (v := ?_) rfl (by as_aux_lemma => kernel_rfl) (by as_aux_lemma => kernel_rfl) (by as_aux_lemma => kernel_rfl) (fun _ _ _ h => h) (Or.inl ⟨by rfl, ?_⟩) (by assumption) ?_
    rotate_left
    · (intro w hSw; (try dsimp only at hSw); go_simp); (try with_reducible rfl)
    simp only [List.getElem_toArray, List.getElem_cons_zero, List.getElem_cons_succ, Act.put, List.setIfInBounds_toArray, List.set_cons_zero, List.set_cons_succ]
    refine wpAnyH_ready (rs := [2, 4]) (by as_aux_lemma => kernel_rfl) (by simp) ?_
    refine AllReadyH.cons rfl (fun K hK => ?_) (AllReadyH.cons rfl (fun K hK => ?_) AllReadyH.nil)
    · go_simp
      refine (rflip_any _ _ L (n1.ext F0)).mono ?_
      rintro _ V1 ⟨vmA, rfl, mA, emA⟩
      have F1 : Ext W3 V1 := F0.trans emA
      refine hK.out _ _ ⟨box3 (Bl.ext F1), box3 (Bh.ext F1)⟩ (fun hHeld => ?_)
      clear hK K emA
      refine wpAnyH_ready (rs := [3, 4]) (by as_aux_lemma => kernel_rfl) (by simp) ?_
      refine AllReadyH.cons rfl (fun K hK => ?_) (AllReadyH.cons rfl (fun K hK => ?_) AllReadyH.nil)
      · go_simp
        refine (raddD_any _ _ _ H (-L) (n + P) 2 (n4.ext F1) mA rH rL.neg (by omega)).mono ?_
        rintro _ V2 ⟨vmB, rfl, mB, emB⟩
        have F2 : Ext W3 V2 := F1.trans emB
        replace mA := mA.ext emB
        refine hK.out _ _ ⟨box3 (Bl.ext F2), box3 (Bh.ext F2)⟩ (fun hHeld => ?_)
        clear hK K emB F1
        obtain ⟨bmB, AmB, lmB, cmB, jmB, rfl⟩ := mB.form
        refine wpAnyH_ready (rs := [4]) (by as_aux_lemma => kernel_rfl) (by simp) ?_
        refine AllReadyH.cons rfl (fun K hK => ?_) AllReadyH.nil
        go_simp
        have eG : Ext V2 (V2.alloc (.cells #[.bool false, .slice none 0 0, .int .i64 0] 26)) := (Ext.refl _).alloc _
        have F3 : Ext W3 (V2.alloc (.cells #[.bool false, .slice none 0 0, .int .i64 0] 26)) := F2.trans eG
        refine hK.out _ _ ⟨box3 (Bl.ext F3), box3 (Bh.ext F3)⟩ (fun hHeld => ?_)
        clear hK K
        replace mA := mA.ext eG
        replace mB := mB.ext eG
        have G : Zd (V2.alloc (.cells #[.bool false, .slice none 0 0, .int .i64 0] 26)) V2.heap.size := Zd.new _ _
        have lG : W3.heap.size ≤ V2.heap.size := F2.size
        clear eG F2
        generalize hgen : V2.alloc (.cells #[.bool false, .slice none 0 0, .int .i64 0] 26) = V3 at *
        clear hgen
        generalize hgen : V2.heap.size = gG at *
        clear hgen
        refine wpAnyH_ready (rs := [5]) (by as_aux_lemma => kernel_rfl) (by simp) ?_
        refine AllReadyH.cons rfl (fun K hK => ?_) AllReadyH.nil
        have q0 := G.c0; have q1 := G.c1; have q2 := G.c2; have h0 := G.f 0; have h1 := G.f 1; have h2 := G.f 2
        go_simp
        have F4 : Ext W3 (set3 V3 (gG) (.bool bmB) (.slice AmB lmB cmB) (.int .i64 jmB)) := F3.set3 lG
        refine hK.out _ _ ⟨box3 (Bl.ext F4), box3 (Bh.ext F4)⟩ (fun hHeld => ?_)
        clear hK K q0 q1 q2 h0 h1 h2
        replace mA := G.offD mA (.bool bmB) (.slice AmB lmB cmB) (.int .i64 jmB)
        replace mB := G.offD mB (.bool bmB) (.slice AmB lmB cmB) (.int .i64 jmB)
        have BG := G.putD (.bool bmB) (.slice AmB lmB cmB) (.int .i64 jmB)
        clear G
        obtain ⟨V4, hgen⟩ : ∃ V, (set3 V3 (gG) (.bool bmB) (.slice AmB lmB cmB) (.int .i64 jmB)) = V := ⟨_, rfl⟩
        rw [hgen] at F4 mA mB BG
        have hgen2 : (((V3.setCell ⟨gG, 0, none⟩ (.bool bmB)).setCell ⟨gG, 1, none⟩ (.slice AmB lmB cmB)).setCell ⟨gG, 2, none⟩ (.int .i64 jmB)) = V4 := hgen
        rw [hgen2] at hHeld ⊢
        clear hgen hgen2
        refine wpAnyH_done (by as_aux_lemma => kernel_rfl) ?_ _
        go_wp2_with fail
        go_meet
        case rel => exact ⟨_, _, _, _, _, _, rfl, BG, mB, F4, lG⟩
      · go_simp
        have eG : Ext V1 (V1.alloc (.cells #[.bool false, .slice none 0 0, .int .i64 0] 26)) := (Ext.refl _).alloc _
        have F2 : Ext W3 (V1.alloc (.cells #[.bool false, .slice none 0 0, .int .i64 0] 26)) := F1.trans eG
        refine hK.out _ _ ⟨box3 (Bl.ext F2), box3 (Bh.ext F2)⟩ (fun hHeld => ?_)
        clear hK K
        replace mA := mA.ext eG
        have G : Zd (V1.alloc (.cells #[.bool false, .slice none 0 0, .int .i64 0] 26)) V1.heap.size := Zd.new _ _
        have lG : W3.heap.size ≤ V1.heap.size := F1.size
        clear eG F1
        generalize hgen : V1.alloc (.cells #[.bool false, .slice none 0 0, .int .i64 0] 26) = V2 at *
        clear hgen
        generalize hgen : V1.heap.size = gG at *
        clear hgen
        refine wpAnyH_ready (rs := [3]) (by as_aux_lemma => kernel_rfl) (by simp) ?_
        refine AllReadyH.cons rfl (fun K hK => ?_) AllReadyH.nil
        go_simp
        refine (raddD_any _ _ _ H (-L) (n + P) 2 (n4.ext F2) mA rH rL.neg (by omega)).mono ?_
        rintro _ V3 ⟨vmB, rfl, mB, emB⟩
        have F3 : Ext W3 V3 := F2.trans emB
        replace mA := mA.ext emB
        replace G := G.ext emB
        refine hK.out _ _ ⟨box3 (Bl.ext F3), box3 (Bh.ext F3)⟩ (fun hHeld => ?_)
        clear hK K emB F2
        obtain ⟨bmB, AmB, lmB, cmB, jmB, rfl⟩ := mB.form
        refine wpAnyH_ready (rs := [5]) (by as_aux_lemma => kernel_rfl) (by simp) ?_
        refine AllReadyH.cons rfl (fun K hK => ?_) AllReadyH.nil
        have q0 := G.c0; have q1 := G.c1; have q2 := G.c2; have h0 := G.f 0; have h1 := G.f 1; have h2 := G.f 2
        go_simp
        have F4 : Ext W3 (set3 V3 (gG) (.bool bmB) (.slice AmB lmB cmB) (.int .i64 jmB)) := F3.set3 lG
        refine hK.out _ _ ⟨box3 (Bl.ext F4), box3 (Bh.ext F4)⟩ (fun hHeld => ?_)
        clear hK K q0 q1 q2 h0 h1 h2
        replace mA := G.offD mA (.bool bmB) (.slice AmB lmB cmB) (.int .i64 jmB)
        replace mB := G.offD mB (.bool bmB) (.slice AmB lmB cmB) (.int .i64 jmB)
        have BG := G.putD (.bool bmB) (.slice AmB lmB cmB) (.int .i64 jmB)
        clear G
        obtain ⟨V4, hgen⟩ : ∃ V, (set3 V3 (gG) (.bool bmB) (.slice AmB lmB cmB) (.int .i64 jmB)) = V := ⟨_, rfl⟩
        rw [hgen] at F4 mA mB BG
        have hgen2 : (((V3.setCell ⟨gG, 0, none⟩ (.bool bmB)).setCell ⟨gG, 1, none⟩ (.slice AmB lmB cmB)).setCell ⟨gG, 2, none⟩ (.int .i64 jmB)) = V4 := hgen
        rw [hgen2] at hHeld ⊢
        clear hgen hgen2
        refine wpAnyH_done (by as_aux_lemma => kernel_rfl) ?_ _
        go_wp2_with fail
        go_meet
        case rel => exact ⟨_, _, _, _, _, _, rfl, BG, mB, F4, lG⟩
    · go_simp
      have eG : Ext V0 (V0.alloc (.cells #[.bool false, .slice none 0 0, .int .i64 0] 26)) := (Ext.refl _).alloc _
      have F1 : Ext W3 (V0.alloc (.cells #[.bool false, .slice none 0 0, .int .i64 0] 26)) := F0.trans eG
      refine hK.out _ _ ⟨box3 (Bl.ext F1), box3 (Bh.ext F1)⟩ (fun hHeld => ?_)
      clear hK K
      have G : Zd (V0.alloc (.cells #[.bool false, .slice none 0 0, .int .i64 0] 26)) V0.heap.size := Zd.new _ _
      have lG : W3.heap.size ≤ V0.heap.size := F0.size
      clear eG
      generalize hgen : V0.alloc (.cells #[.bool false, .slice none 0 0, .int .i64 0] 26) = V1 at *
      clear hgen
      generalize hgen : V0.heap.size = gG at *
      clear hgen
      refine wpAnyH_ready (rs := [2]) (by as_aux_lemma => kernel_rfl) (by simp) ?_
      refine AllReadyH.cons rfl (fun K hK => ?_) AllReadyH.nil
      go_simp
      refine (rflip_any _ _ L (n1.ext F1)).mono ?_
      rintro _ V2 ⟨vmA, rfl, mA, emA⟩
      have F2 : Ext W3 V2 := F1.trans emA
      replace G := G.ext emA
      refine hK.out _ _ ⟨box3 (Bl.ext F2), box3 (Bh.ext F2)⟩ (fun hHeld => ?_)
      clear hK K emA F1
      refine wpAnyH_ready (rs := [3]) (by as_aux_lemma => kernel_rfl) (by simp) ?_
      refine AllReadyH.cons rfl (fun K hK => ?_) AllReadyH.nil
      go_simp
      refine (raddD_any _ _ _ H (-L) (n + P) 2 (n4.ext F2) mA rH rL.neg (by omega)).mono ?_
      rintro _ V3 ⟨vmB, rfl, mB, emB⟩
      have F3 : Ext W3 V3 := F2.trans emB
      replace mA := mA.ext emB
      replace G := G.ext emB
      refine hK.out _ _ ⟨box3 (Bl.ext F3), box3 (Bh.ext F3)⟩ (fun hHeld => ?_)
      clear hK K emB F2
      obtain ⟨bmB, AmB, lmB, cmB, jmB, rfl⟩ := mB.form
      refine wpAnyH_ready (rs := [5]) (by as_aux_lemma => kernel_rfl) (by simp) ?_
      refine AllReadyH.cons rfl (fun K hK => ?_) AllReadyH.nil
      have q0 := G.c0; have q1 := G.c1; have q2 := G.c2; have h0 := G.f 0; have h1 := G.f 1; have h2 := G.f 2
      go_simp
      have F4 : Ext W3 (set3 V3 (gG) (.bool bmB) (.slice AmB lmB cmB) (.int .i64 jmB)) := F3.set3 lG
      refine hK.out _ _ ⟨box3 (Bl.ext F4), box3 (Bh.ext F4)⟩ (fun hHeld => ?_)
      clear hK K q0 q1 q2 h0 h1 h2
      replace mA := G.offD mA (.bool bmB) (.slice AmB lmB cmB) (.int .i64 jmB)
      replace mB := G.offD mB (.bool bmB) (.slice AmB lmB cmB) (.int .i64 jmB)
      have BG := G.putD (.bool bmB) (.slice AmB lmB cmB) (.int .i64 jmB)
      clear G
      obtain ⟨V4, hgen⟩ : ∃ V, (set3 V3 (gG) (.bool bmB) (.slice AmB lmB cmB) (.int .i64 jmB)) = V := ⟨_, rfl⟩
      rw [hgen] at F4 mA mB BG
      have hgen2 : (((V3.setCell ⟨gG, 0, none⟩ (.bool bmB)).setCell ⟨gG, 1, none⟩ (.slice AmB lmB cmB)).setCell ⟨gG, 2, none⟩ (.int .i64 jmB)) = V4 := hgen
      rw [hgen2] at hHeld ⊢
      clear hgen hgen2
      refine wpAnyH_done (by as_aux_lemma => kernel_rfl) ?_ _
      go_wp2_with fail
      go_meet
      case rel => exact ⟨_, _, _, _, _, _, rfl, BG, mB, F4, lG⟩
  case rest =>
    obtain ⟨g, bg, Ag, lg, cg, jg, rfl, Bg, ng, e3, y8⟩ := hcut
    replace a1 := a1.ext e3
    replace a2 := a2.ext e3
    replace n1 := n1.ext e3
    replace n4 := n4.ext e3
    replace Bi := Bi.ext e3
    replace Z4 := Z4.ext e3
    replace Bl := Bl.ext e3
    replace Bh := Bh.ext e3
    have E3 := EW3.trans e3
    clear e3 EW3 Bl_0 Bl_1 Bl_2 Bl_l Bh_0 Bh_1 Bh_2 Bh_l
    obtain ⟨Bi_0, Bi_1, Bi_2, Bi_3, Bi_4, Bi_5⟩ := _root_.id Bi
    have Bi_l := World.block_lt_of_cell? _ _ Bi_0
    go_wp2_with fail
    refine (rsame_lit9 _ _ _ lo hi true hs.out a1 a2).mono ?_
    rintro _ w21 ⟨rfl, f21⟩
    clear Bi_0 Bi_1 Bi_2 Bi_3 Bi_4 Bi_5 Bi_l
    have e21 : Ext wc w21 := (Ext.refl wc).trans f21
    replace a1 := a1.ext e21
    replace a2 := a2.ext e21
    replace n1 := n1.ext e21
    replace n4 := n4.ext e21
    replace ng := ng.ext e21
    replace Bi := Bi.ext e21
    replace Z4 := Z4.ext e21
    replace Bl := Bl.ext e21
    replace Bh := Bh.ext e21
    replace Bg := Bg.ext e21
    have E21 : Ext w w21 := E3.trans e21
    clear e21 f21 E3
    clear hs
    obtain ⟨Bl_0, Bl_1, Bl_2⟩ := _root_.id Bl
    have Bl_l := World.block_lt_of_cell? _ _ Bl_0
    obtain ⟨Bh_0, Bh_1, Bh_2⟩ := _root_.id Bh
    have Bh_l := World.block_lt_of_cell? _ _ Bh_0
    have Z4_0 := Z4.c0
    have Z4f0 := Z4.f 0
    have Z4_1 := Z4.c1
    have Z4f1 := Z4.f 1
    have Z4_2 := Z4.c2
    have Z4f2 := Z4.f 2
    have Z4_3 := Z4.c3
    have Z4f3 := Z4.f 3
    have Z4_4 := Z4.c4
    have Z4f4 := Z4.f 4
    have Z4_5 := Z4.c5
    have Z4f5 := Z4.f 5
    go_wp2
    obtain ⟨k0, k1, k2, k3, k4, k5, hD⟩ := Z4.done n1 n4 E21 (by omega)
    exact bodyPost_ret (by simp [results, Tryz.results51, go_sem, k0, k1, k2, k3, k4, k5]) rfl (RetIB.of hD)
set_option maxRecDepth 10000 in
set_option maxHeartbeats 2000000 in
theorem rknown_no (w : World) (va : Value) (lo hi L H : Dyadic) (n P : Nat) (ha : In w va lo hi) (r1 : Rg P 1 lo) (r2 : Rg P 1 hi) (hP : P ≤ 4400) (hn : n ≤ 300) (hL : flo n lo = L) (hH : -flo n (-hi) = H) (gap : H + -L ≤ eps n) (hs : decide (lo = hi) = false) :
    Calls Tryz.prog 51 #[va, .int .i64 n] w (RetIB w L H true) := by
  obtain ⟨ba, Aa, na, ca, ea, ba', Aa', na', ca', ea', rfl, a1, a2⟩ := ha
  have rL : Rg (n + P) 2 L := by rw [← hL]; exact flo_rgx r1
  have rF : Rg (n + P) 2 (flo n (-hi)) := flo_rgx r2.neg
  have rH : Rg (n + P) 2 H := by rw [← hH]; exact rF.neg
  obtain ⟨c, hc⟩ : ∃ c, cmpD (H + -L) (eps n) = c := ⟨_, rfl⟩
  have hc0 : decide (c ≤ 0) = true := decide_eq_true (by rw [← hc]; exact (cmp_le _ _).2 gap)
  have rE : Rg (n + P) 3 (eps n) := (rg_eps n).mono (by omega) (by omega)
  have HF := Lib.hid (fun (w' : World) (v : Value) (h : Dn w' v lo) => hL ▸ rfloor_any w' v lo n n P 1 rfl h r1 (by omega) (by omega))
  have HG := Lib.hid (fun (w' : World) (v : Value) (h : Dn w' v (-hi)) => rfloor_any w' v (-hi) n n P 1 rfl h r2.neg (by omega) (by omega))
  have HH := Lib.hid (fun (w' : World) (v : Value) (h : Dn w' v (flo n (-hi))) => hH ▸ rflip_any w' v _ h)
  replace hc0 := Lib.hid hc0
  replace hc := Lib.hid hc
  replace hs := Lib.hid hs
  clear hL hH gap r1 r2 rF
  go_enter Tryz.func51, Tryz.ntmps51
  go_wp2_with fail
  refine (HF.out _ _ (a1.ext (((Ext.refl w).alloc _).alloc _))).mono ?_
  rintro _ w1 ⟨v1, rfl, n1, f1⟩
  have Bi : Bx w1 (w.heap.size) (.bool ba) (.slice Aa na ca) (.int .i64 ea) (.bool ba') (.slice Aa' na' ca') (.int .i64 ea') := Bx.at (((Ext.refl _).alloc _).trans f1) (by simp)
  have Z4 : Zi w1 (w.heap.size + 1) := Zi.at ((Ext.refl _).trans f1) (by simp)
  have e1 : Ext w w1 := (((Ext.refl w).alloc _).alloc _).trans f1
  replace a1 := a1.ext e1
  replace a2 := a2.ext e1
  have E1 : Ext w w1 := e1
  clear f1
  have y1 : w.heap.size + 1 < w1.heap.size := World.block_lt_of_cell? _ _ Z4.c0
  obtain ⟨bn1, An1, ln1, cn1, jn1, rfl⟩ := n1.form
  obtain ⟨Bi_0, Bi_1, Bi_2, Bi_3, Bi_4, Bi_5⟩ := _root_.id Bi
  have Bi_l := World.block_lt_of_cell? _ _ Bi_0
  go_wp2_with fail
  refine (rflip_any _ _ hi (a2.ext ((Ext.refl w1).alloc _))).mono ?_
  rintro _ w2 ⟨v2, rfl, n2, f2⟩
  clear Bi_0 Bi_1 Bi_2 Bi_3 Bi_4 Bi_5 Bi_l
  have Bl : Box w2 (w1.heap.size) (.bool bn1) (.slice An1 ln1 cn1) (.int .i64 jn1) := Box.at ((Ext.refl _).trans f2) (by simp)
  have e2 : Ext w1 w2 := ((Ext.refl w1).alloc _).trans f2
  replace a1 := a1.ext e2
  replace a2 := a2.ext e2
  replace n1 := n1.ext e2
  replace Bi := Bi.ext e2
  replace Z4 := Z4.ext e2
  have E2 : Ext w w2 := E1.trans e2
  clear e2 f2 E1
  go_wp2_with fail
  refine (HG.out _ _ n2).mono ?_
  rintro _ w3 ⟨v3, rfl, n3, f3⟩
  have e3 : Ext w2 w3 := (Ext.refl w2).trans f3
  replace a1 := a1.ext e3
  replace a2 := a2.ext e3
  replace n1 := n1.ext e3
  replace n2 := n2.ext e3
  replace Bi := Bi.ext e3
  replace Z4 := Z4.ext e3
  replace Bl := Bl.ext e3
  have E3 : Ext w w3 := E2.trans e3
  clear e3 f3 E2
  go_wp2_with fail
  refine (HH.out _ _ n3).mono ?_
  rintro _ w4 ⟨v4, rfl, n4, f4⟩
  have e4 : Ext w3 w4 := (Ext.refl w3).trans f4
  replace a1 := a1.ext e4
  replace a2 := a2.ext e4
  replace n1 := n1.ext e4
  replace n2 := n2.ext e4
  replace n3 := n3.ext e4
  replace Bi := Bi.ext e4
  replace Z4 := Z4.ext e4
  replace Bl := Bl.ext e4
  have E4 : Ext w w4 := E3.trans e4
  clear e4 f4 E3
  clear n2 n3
  have y4 : w.heap.size + 1 < w4.heap.size := World.block_lt_of_cell? _ _ Z4.c0
  obtain ⟨bn4, An4, ln4, cn4, jn4, rfl⟩ := n4.form
  obtain ⟨Bl_0, Bl_1, Bl_2⟩ := _root_.id Bl
  have Bl_l := World.block_lt_of_cell? _ _ Bl_0
  go_upto_region 3 with fail
  have eW3 : Ext w4 (w4.alloc (.cells #[.bool bn4, .slice An4 ln4 cn4, .int .i64 jn4] 26)) := ((Ext.refl w4).alloc _)
  have Bh : Box (w4.alloc (.cells #[.bool bn4, .slice An4 ln4 cn4, .int .i64 jn4] 26)) (w4.heap.size) (.bool bn4) (.slice An4 ln4 cn4) (.int .i64 jn4) := Box.at (Ext.refl _) (by simp)
  replace a1 := a1.ext eW3
  replace a2 := a2.ext eW3
  replace n1 := n1.ext eW3
  replace n4 := n4.ext eW3
  replace Bi := Bi.ext eW3
  replace Z4 := Z4.ext eW3
  replace Bl := Bl.ext eW3
  have EW3 := E4.trans eW3
  clear Bl_0 Bl_1 Bl_2 Bl_l
  clear eW3 E4
  generalize hgen : (w4.alloc (.cells #[.bool bn4, .slice An4 ln4 cn4, .int .i64 jn4] 26)) = W3 at *
  clear hgen
  have y3 : w.heap.size + 1 < W3.heap.size := World.block_lt_of_cell? _ _ Z4.c0
  obtain ⟨Bl_0, Bl_1, Bl_2⟩ := _root_.id Bl
  have Bl_l := World.block_lt_of_cell? _ _ Bl_0
  obtain ⟨Bh_0, Bh_1, Bh_2⟩ := _root_.id Bh
  have Bh_l := World.block_lt_of_cell? _ _ Bh_0
  go_cut [8] from 9 (fun p8 wx => ∃ (g : Nat) (bg : Bool) (Ag : Option Addr) (lg cg : Nat) (jg : Int), p8 = .pointer (some ⟨g, 0, none⟩) ∧ Box wx g (.bool bg) (.slice Ag lg cg) (.int .i64 jg) ∧ Dn wx (.agg #[.bool bg, .slice Ag lg cg, .int .i64 jg]) (H + -L) ∧ Ext W3 wx ∧ W3.heap.size ≤ g)
  case first =>
    refine wp_region_held_drew (S := (fun w' => (w'.cell? ⟨w1.heap.size, 0, none⟩ = some (.bool bn1) ∧ w'.cell? ⟨w1.heap.size, 1, none⟩ = some (.slice An1 ln1 cn1) ∧ w'.cell? ⟨w1.heap.size, 2, none⟩ = some (.int .i64 jn1)) ∧ (w'.cell? ⟨w4.heap.size, 0, none⟩ = some (.bool bn4) ∧ w'.cell? ⟨w4.heap.size, 1, none⟩ = some (.slice An4 ln4 cn4) ∧ w'.cell? ⟨w4.heap.size, 2, none⟩ = some (.int .i64 jn4)))) (by as_aux_lemma => kernel_rfl) ⟨box3 (Bl.ext (Ext.refl W3).drew), box3 (Bh.ext (Ext.refl W3).drew)⟩ (fun hHeld => ?_)
    have F0 : Ext W3 (World.drew W3) := (Ext.refl _).drew
    generalize hgen : World.drew W3 = V0 at *
    clear hgen
    refine wpAnyH_take (i := 0) (v := ?_) rfl (by as_aux_lemma => kernel_rfl) (by as_aux_lemma => kernel_rfl) (by as_aux_lemma => kernel_rfl) (fun _ _ _ h => h) (Or.inl ⟨by rfl, ?_⟩) (by assumption) ?_
    rotate_left
    · (intro w hSw; (try dsimp only at hSw); go_simp); (try with_reducible rfl)
    simp only [List.getElem_toArray, List.getElem_cons_zero, Act.put, List.setIfInBounds_toArray, List.set_cons_zero, List.set_cons_succ]
    refine wpAnyH_take (i := 1) (v := ?_) rfl (by as_aux_lemma => kernel_rfl) (by as_aux_lemma => kernel_rfl) (by as_aux_lemma => kernel_rfl) (fun _ _ _ h => h) (Or.inl ⟨by rfl, ?_⟩) (by assumption) ?_
    rotate_left
    · (intro w hSw; (try dsimp only at hSw); go_simp); (try with_reducible rfl)
    simp only [List.getElem_toArray, List.getElem_cons_zero, List.getElem_cons_succ, Act.put, List.setIfInBounds_toArray, List.set_cons_zero, List.set_cons_succ]
    refine wpAnyH_ready (rs := [2, 4]) (by as_aux_lemma => kernel_rfl) (by simp) ?_
    refine AllReadyH.cons rfl (fun K hK => ?_) (AllReadyH.cons rfl (fun K hK => ?_) AllReadyH.nil)
    · go_simp
      refine (rflip_any _ _ L (n1.ext F0)).mono ?_
      rintro _ V1 ⟨vmA, rfl, mA, emA⟩
      have F1 : Ext W3 V1 := F0.trans emA
      refine hK.out _ _ ⟨box3 (Bl.ext F1), box3 (Bh.ext F1)⟩ (fun hHeld => ?_)
      clear hK K emA
      refine wpAnyH_ready (rs := [3, 4]) (by as_aux_lemma => kernel_rfl) (by simp) ?_
      refine AllReadyH.cons rfl (fun K hK => ?_) (AllReadyH.cons rfl (fun K hK => ?_) AllReadyH.nil)
      · go_simp
        refine (raddD_any _ _ _ H (-L) (n + P) 2 (n4.ext F1) mA rH rL.neg (by omega)).mono ?_
        rintro _ V2 ⟨vmB, rfl, mB, emB⟩
        have F2 : Ext W3 V2 := F1.trans emB
        replace mA := mA.ext emB
        refine hK.out _ _ ⟨box3 (Bl.ext F2), box3 (Bh.ext F2)⟩ (fun hHeld => ?_)
        clear hK K emB F1
        obtain ⟨bmB, AmB, lmB, cmB, jmB, rfl⟩ := mB.form
        refine wpAnyH_ready (rs := [4]) (by as_aux_lemma => kernel_rfl) (by simp) ?_
        refine AllReadyH.cons rfl (fun K hK => ?_) AllReadyH.nil
        go_simp
        have eG : Ext V2 (V2.alloc (.cells #[.bool false, .slice none 0 0, .int .i64 0] 26)) := (Ext.refl _).alloc _
        have F3 : Ext W3 (V2.alloc (.cells #[.bool false, .slice none 0 0, .int .i64 0] 26)) := F2.trans eG
        refine hK.out _ _ ⟨box3 (Bl.ext F3), box3 (Bh.ext F3)⟩ (fun hHeld => ?_)
        clear hK K
        replace mA := mA.ext eG
        replace mB := mB.ext eG
        have G : Zd (V2.alloc (.cells #[.bool false, .slice none 0 0, .int .i64 0] 26)) V2.heap.size := Zd.new _ _
        have lG : W3.heap.size ≤ V2.heap.size := F2.size
        clear eG F2
        generalize hgen : V2.alloc (.cells #[.bool false, .slice none 0 0, .int .i64 0] 26) = V3 at *
        clear hgen
        generalize hgen : V2.heap.size = gG at *
        clear hgen
        refine wpAnyH_ready (rs := [5]) (by as_aux_lemma => kernel_rfl) (by simp) ?_
        refine AllReadyH.cons rfl (fun K hK => ?_) AllReadyH.nil
        have q0 := G.c0; have q1 := G.c1; have q2 := G.c2; have h0 := G.f 0; have h1 := G.f 1; have h2 := G.f 2
        go_simp
        have F4 : Ext W3 (set3 V3 (gG) (.bool bmB) (.slice AmB lmB cmB) (.int .i64 jmB)) := F3.set3 lG
        refine hK.out _ _ ⟨box3 (Bl.ext F4), box3 (Bh.ext F4)⟩ (fun hHeld => ?_)
        clear hK K q0 q1 q2 h0 h1 h2
        replace mA := G.offD mA (.bool bmB) (.slice AmB lmB cmB) (.int .i64 jmB)
        replace mB := G.offD mB (.bool bmB) (.slice AmB lmB cmB) (.int .i64 jmB)
        have BG := G.putD (.bool bmB) (.slice AmB lmB cmB) (.int .i64 jmB)
        clear G
        obtain ⟨V4, hgen⟩ : ∃ V, (set3 V3 (gG) (.bool bmB) (.slice AmB lmB cmB) (.int .i64 jmB)) = V := ⟨_, rfl⟩
        rw [hgen] at F4 mA mB BG
        have hgen2 : (((V3.setCell ⟨gG, 0, none⟩ (.bool bmB)).setCell ⟨gG, 1, none⟩ (.slice AmB lmB cmB)).setCell ⟨gG, 2, none⟩ (.int .i64 jmB)) = V4 := hgen
        rw [hgen2] at hHeld ⊢
        clear hgen hgen2
        refine wpAnyH_done (by as_aux_lemma => kernel_rfl) ?_ _
        go_wp2_with fail
        go_meet
        case rel => exact ⟨_, _, _, _, _, _, rfl, BG, mB, F4, lG⟩
      · go_simp
        have eG : Ext V1 (V1.alloc (.cells #[.bool false, .slice none 0 0, .int .i64 0] 26)) := (Ext.refl _).alloc _
        have F2 : Ext W3 (V1.alloc (.cells #[.bool false, .slice none 0 0, .int .i64 0] 26)) := F1.trans eG
        refine hK.out _ _ ⟨box3 (Bl.ext F2), box3 (Bh.ext F2)⟩ (fun hHeld => ?_)
        clear hK K
        replace mA := mA.ext eG
        have G : Zd (V1.alloc (.cells #[.bool false, .slice none 0 0, .int .i64 0] 26)) V1.heap.size := Zd.new _ _
        have lG : W3.heap.size ≤ V1.heap.size := F1.size
        clear eG F1
        generalize hgen : V1.alloc (.cells #[.bool false, .slice none 0 0, .int .i64 0] 26) = V2 at *
        clear hgen
        generalize hgen : V1.heap.size = gG at *
        clear hgen
        refine wpAnyH_ready (rs := [3]) (by as_aux_lemma => kernel_rfl) (by simp) ?_
        refine AllReadyH.cons rfl (fun K hK => ?_) AllReadyH.nil
        go_simp
        refine (raddD_any _ _ _ H (-L) (n + P) 2 (n4.ext F2) mA rH rL.neg (by omega)).mono ?_
        rintro _ V3 ⟨vmB, rfl, mB, emB⟩
        have F3 : Ext W3 V3 := F2.trans emB
        replace mA := mA.ext emB
        replace G := G.ext emB
        refine hK.out _ _ ⟨box3 (Bl.ext F3), box3 (Bh.ext F3)⟩ (fun hHeld => ?_)
        clear hK K emB F2
        obtain ⟨bmB, AmB, lmB, cmB, jmB, rfl⟩ := mB.form
        refine wpAnyH_ready (rs := [5]) (by as_aux_lemma => kernel_rfl) (by simp) ?_
        refine AllReadyH.cons rfl (fun K hK => ?_) AllReadyH.nil
        have q0 := G.c0; have q1 := G.c1; have q2 := G.c2; have h0 := G.f 0; have h1 := G.f 1; have h2 := G.f 2
        go_simp
        have F4 : Ext W3 (set3 V3 (gG) (.bool bmB) (.slice AmB lmB cmB) (.int .i64 jmB)) := F3.set3 lG
        refine hK.out _ _ ⟨box3 (Bl.ext F4), box3 (Bh.ext F4)⟩ (fun hHeld => ?_)
        clear hK K q0 q1 q2 h0 h1 h2
        replace mA := G.offD mA (.bool bmB) (.slice AmB lmB cmB) (.int .i64 jmB)
        replace mB := G.offD mB (.bool bmB) (.slice AmB lmB cmB) (.int .i64 jmB)
        have BG := G.putD (.bool bmB) (.slice AmB lmB cmB) (.int .i64 jmB)
        clear G
        obtain ⟨V4, hgen⟩ : ∃ V, (set3 V3 (gG) (.bool bmB) (.slice AmB lmB cmB) (.int .i64 jmB)) = V := ⟨_, rfl⟩
        rw [hgen] at F4 mA mB BG
        have hgen2 : (((V3.setCell ⟨gG, 0, none⟩ (.bool bmB)).setCell ⟨gG, 1, none⟩ (.slice AmB lmB cmB)).setCell ⟨gG, 2, none⟩ (.int .i64 jmB)) = V4 := hgen
        rw [hgen2] at hHeld ⊢
        clear hgen hgen2
        refine wpAnyH_done (by as_aux_lemma => kernel_rfl) ?_ _
        go_wp2_with fail
        go_meet
        case rel => exact ⟨_, _, _, _, _, _, rfl, BG, mB, F4, lG⟩
    · go_simp
      have eG : Ext V0 (V0.alloc (.cells #[.bool false, .slice none 0 0, .int .i64 0] 26)) := (Ext.refl _).alloc _
      have F1 : Ext W3 (V0.alloc (.cells #[.bool false, .slice none 0 0, .int .i64 0] 26)) := F0.trans eG
      refine hK.out _ _ ⟨box3 (Bl.ext F1), box3 (Bh.ext F1)⟩ (fun hHeld => ?_)
      clear hK K
      have G : Zd (V0.alloc (.cells #[.bool false, .slice none 0 0, .int .i64 0] 26)) V0.heap.size := Zd.new _ _
      have lG : W3.heap.size ≤ V0.heap.size := F0.size
      clear eG
      generalize hgen : V0.alloc (.cells #[.bool false, .slice none 0 0, .int .i64 0] 26) = V1 at *
      clear hgen
      generalize hgen : V0.heap.size = gG at *
      clear hgen
      refine wpAnyH_ready (rs := [2]) (by as_aux_lemma => kernel_rfl) (by simp) ?_
      refine AllReadyH.cons rfl (fun K hK => ?_) AllReadyH.nil
      go_simp
      refine (rflip_any _ _ L (n1.ext F1)).mono ?_
      rintro _ V2 ⟨vmA, rfl, mA, emA⟩
      have F2 : Ext W3 V2 := F1.trans emA
      replace G := G.ext emA
      refine hK.out _ _ ⟨box3 (Bl.ext F2), box3 (Bh.ext F2)⟩ (fun hHeld => ?_)
      clear hK K emA F1
      refine wpAnyH_ready (rs := [3]) (by as_aux_lemma => kernel_rfl) (by simp) ?_
      refine AllReadyH.cons rfl (fun K hK => ?_) AllReadyH.nil
      go_simp
      refine (raddD_any _ _ _ H (-L) (n + P) 2 (n4.ext F2) mA rH rL.neg (by omega)).mono ?_
      rintro _ V3 ⟨vmB, rfl, mB, emB⟩
      have F3 : Ext W3 V3 := F2.trans emB
      replace mA := mA.ext emB
      replace G := G.ext emB
      refine hK.out _ _ ⟨box3 (Bl.ext F3), box3 (Bh.ext F3)⟩ (fun hHeld => ?_)
      clear hK K emB F2
      obtain ⟨bmB, AmB, lmB, cmB, jmB, rfl⟩ := mB.form
      refine wpAnyH_ready (rs := [5]) (by as_aux_lemma => kernel_rfl) (by simp) ?_
      refine AllReadyH.cons rfl (fun K hK => ?_) AllReadyH.nil
      have q0 := G.c0; have q1 := G.c1; have q2 := G.c2; have h0 := G.f 0; have h1 := G.f 1; have h2 := G.f 2
      go_simp
      have F4 : Ext W3 (set3 V3 (gG) (.bool bmB) (.slice AmB lmB cmB) (.int .i64 jmB)) := F3.set3 lG
      refine hK.out _ _ ⟨box3 (Bl.ext F4), box3 (Bh.ext F4)⟩ (fun hHeld => ?_)
      clear hK K q0 q1 q2 h0 h1 h2
      replace mA := G.offD mA (.bool bmB) (.slice AmB lmB cmB) (.int .i64 jmB)
      replace mB := G.offD mB (.bool bmB) (.slice AmB lmB cmB) (.int .i64 jmB)
      have BG := G.putD (.bool bmB) (.slice AmB lmB cmB) (.int .i64 jmB)
      clear G
      obtain ⟨V4, hgen⟩ : ∃ V, (set3 V3 (gG) (.bool bmB) (.slice AmB lmB cmB) (.int .i64 jmB)) = V := ⟨_, rfl⟩
      rw [hgen] at F4 mA mB BG
      have hgen2 : (((V3.setCell ⟨gG, 0, none⟩ (.bool bmB)).setCell ⟨gG, 1, none⟩ (.slice AmB lmB cmB)).setCell ⟨gG, 2, none⟩ (.int .i64 jmB)) = V4 := hgen
      rw [hgen2] at hHeld ⊢
      clear hgen hgen2
      refine wpAnyH_done (by as_aux_lemma => kernel_rfl) ?_ _
      go_wp2_with fail
      go_meet
      case rel => exact ⟨_, _, _, _, _, _, rfl, BG, mB, F4, lG⟩
  case rest =>
    obtain ⟨g, bg, Ag, lg, cg, jg, rfl, Bg, ng, e3, y8⟩ := hcut
    replace a1 := a1.ext e3
    replace a2 := a2.ext e3
    replace n1 := n1.ext e3
    replace n4 := n4.ext e3
    replace Bi := Bi.ext e3
    replace Z4 := Z4.ext e3
    replace Bl := Bl.ext e3
    replace Bh := Bh.ext e3
    have E3 := EW3.trans e3
    clear e3 EW3 Bl_0 Bl_1 Bl_2 Bl_l Bh_0 Bh_1 Bh_2 Bh_l
    obtain ⟨Bi_0, Bi_1, Bi_2, Bi_3, Bi_4, Bi_5⟩ := _root_.id Bi
    have Bi_l := World.block_lt_of_cell? _ _ Bi_0
    go_wp2_with fail
    refine (rsame_lit9 _ _ _ lo hi false hs.out a1 a2).mono ?_
    rintro _ w21 ⟨rfl, f21⟩
    clear Bi_0 Bi_1 Bi_2 Bi_3 Bi_4 Bi_5 Bi_l
    have e21 : Ext wc w21 := (Ext.refl wc).trans f21
    replace a1 := a1.ext e21
    replace a2 := a2.ext e21
    replace n1 := n1.ext e21
    replace n4 := n4.ext e21
    replace ng := ng.ext e21
    replace Bi := Bi.ext e21
    replace Z4 := Z4.ext e21
    replace Bl := Bl.ext e21
    replace Bh := Bh.ext e21
    replace Bg := Bg.ext e21
    have E21 : Ext w w21 := E3.trans e21
    clear e21 f21 E3
    clear hs
    obtain ⟨Bl_0, Bl_1, Bl_2⟩ := _root_.id Bl
    have Bl_l := World.block_lt_of_cell? _ _ Bl_0
    obtain ⟨Bh_0, Bh_1, Bh_2⟩ := _root_.id Bh
    have Bh_l := World.block_lt_of_cell? _ _ Bh_0
    obtain ⟨Bg_0, Bg_1, Bg_2⟩ := _root_.id Bg
    have Bg_l := World.block_lt_of_cell? _ _ Bg_0
    have hc1 := hc0.out
    have wn : IntKind.i64.wrap (-(n : Int)) = -(n : Int) := IntWalk.i64_in _ (by omega)
    go_upto_region 6 with fail
    have NBl : (w1.heap.size : Nat) ≠ w.heap.size + 1 := by omega
    have NBh : (w4.heap.size : Nat) ≠ w.heap.size + 1 := by omega
    have NBg : (g : Nat) ≠ w.heap.size + 1 := by omega
    go_region_held3 (fun w' => (w'.cell? ⟨w1.heap.size, 0, none⟩ = some (.bool bn1) ∧ w'.cell? ⟨w1.heap.size, 1, none⟩ = some (.slice An1 ln1 cn1) ∧ w'.cell? ⟨w1.heap.size, 2, none⟩ = some (.int .i64 jn1)) ∧ (w'.cell? ⟨w4.heap.size, 0, none⟩ = some (.bool bn4) ∧ w'.cell? ⟨w4.heap.size, 1, none⟩ = some (.slice An4 ln4 cn4) ∧ w'.cell? ⟨w4.heap.size, 2, none⟩ = some (.int .i64 jn4)) ∧ (w'.cell? ⟨g, 0, none⟩ = some (.bool bg) ∧ w'.cell? ⟨g, 1, none⟩ = some (.slice Ag lg cg) ∧ w'.cell? ⟨g, 2, none⟩ = some (.int .i64 jg)))
      (first | (with_reducible exact ⟨box3 (Bl.ext Fx1), box3 (Bh.ext Fx1), box3 (Bg.ext Fx1)⟩) | (with_reducible exact ⟨box3 (Bl.ext ((Ext.refl w21).drew.alloc _)), box3 (Bh.ext ((Ext.refl w21).drew.alloc _)), box3 (Bg.ext ((Ext.refl w21).drew.alloc _))⟩) | (with_reducible exact ⟨box3 (keep63 (Bl.ext Fx1) NBl), box3 (keep63 (Bh.ext Fx1) NBh), box3 (keep63 (Bg.ext Fx1) NBg)⟩) | go_keep)
      (first | ((go_at_call 23); (refine (rcmp_lit9 _ _ _ (H + -L) (eps n) (n + P) 3 c hc.out (ng.ext ((Ext.refl w21).drew.alloc _)) (rlit1 _ n) (rH.add rL.neg) rE (by omega)).mono ?_); (rintro _ x1 ⟨rfl, ex1⟩); (have Fx1 : Ext w21 x1 := ((Ext.refl w21).drew.alloc _).trans ex1); (clear ex1); (have Zx := Z4.ext Fx1); (have zg0 := Zx.c0); (have zf0 := Zx.f 0); (have zg1 := Zx.c1); (have zf1 := Zx.f 1); (have zg2 := Zx.c2); (have zf2 := Zx.f 2); (have zg3 := Zx.c3); (have zf3 := Zx.f 3); (have zg4 := Zx.c4); (have zf4 := Zx.f 4); (have zg5 := Zx.c5); (have zf5 := Zx.f 5)))
    clear Bl_0 Bl_1 Bl_2 Bl_l Bh_0 Bh_1 Bh_2 Bh_l Bg_0 Bg_1 Bg_2 Bg_l
    go_wp2
    obtain ⟨k0, k1, k2, k3, k4, k5, hD⟩ := Zx.done (n1.ext Fx1) (n4.ext Fx1) (E21.trans Fx1) (by omega)
    exact bodyPost_ret (by simp [results, Tryz.results51, go_sem, k0, k1, k2, k3, k4, k5]) rfl (RetIB.of hD)
theorem rknown_any (w : World) (va : Value) (lo hi L H : Dyadic) (j : Int) (n P : Nat) (hj : j = (n : Int)) (ha : In w va lo hi) (r1 : Rg P 1 lo) (r2 : Rg P 1 hi) (hP : P ≤ 4400) (hn : n ≤ 300) (hL : flo n lo = L) (hH : -flo n (-hi) = H) (gap : H + -L ≤ eps n) :
    Calls Tryz.prog 51 #[va, .int .i64 j] w (RetIB w L H true) := by
  subst hj
  by_cases h : lo = hi
  · exact rknown_yes w va lo hi L H n P ha r1 r2 hP hn hL hH gap (decide_eq_true h)
  · exact rknown_no w va lo hi L H n P ha r1 r2 hP hn hL hH gap (decide_eq_false h)
end Go.Proofs.YtomdbmjfehoodaaGreatDoor
