/- The head of the laws on enclosures. -/
import Derived.Test.YtimdglgianheiaaGreatDoorPC
namespace Go.Proofs.YtimdglgianheiaaGreatDoor
open Go.RowKit
theorem rof_lit (w : World) (n : Int) (d : Dyadic) (h : dy n 0 = d) (hn : -4611686018427387904 ≤ n ∧ n ≤ 4611686018427387904) : Calls Tryz.prog 31 #[.int .i64 n] w (RetD w d) := by
  subst h; exact rofD_any w n hn
theorem ret_i {w w' : World} {l h l' h' : Dyadic} {e : Ending} (k : RetI w l h e w') (e1 : l = l') (e2 : h = h') : RetI w l' h' e w' := by subst e1 e2; exact k
theorem ret_e {w w' : World} {b b' : Bool} {e : Ending} (k : RetE w (.bool b) e w') (h : b = b') : RetE w (.bool b') e w' := by subst h; exact k
theorem risame_eq (w : World) (va vb : Value) (l h l' h' : Dyadic) (ha : In w va l h) (hb : In w vb l' h') (e1 : l = l') (e2 : h = h') : Calls Tryz.prog 11 #[va, vb] w (RetE w (.bool true)) := by
  subst e1 e2
  exact (rsame_any w va vb l h l h ha hb).mono fun e w' k => ret_e k (by simp)
theorem has_lit (w : World) (va vb : Value) (l h x : Dyadic) (P Q P' Q' : Nat) (r : Bool) (hr : hasB l h x = r) (ha : In w va l h) (hb : Dn w vb x) (r1 : Rg P Q l) (r2 : Rg P Q h) (r3 : Rg P' Q' x) (hp : P + Q ≤ 4800) (hp' : P' + Q' ≤ 4800) :
    Calls Tryz.prog 14 #[va, vb] w (RetE w (.bool r)) := by
  subst hr; exact has_any w va vb l h x P Q P' Q' ha hb r1 r2 r3 hp hp'
theorem inside_lit (w : World) (va vb : Value) (l h l' h' : Dyadic) (P Q P' Q' : Nat) (r : Bool) (hr : (hasB l' h' l && hasB l' h' h) = r) (ha : In w va l h) (hb : In w vb l' h') (r1 : Rg P Q l) (r2 : Rg P Q h) (r3 : Rg P' Q' l') (r4 : Rg P' Q' h') (hp : P + Q ≤ 4800) (hp' : P' + Q' ≤ 4800) :
    Calls Tryz.prog 16 #[va, vb] w (RetE w (.bool r)) := by
  subst hr; exact inside_any w va vb l h l' h' P Q P' Q' ha hb r1 r2 r3 r4 hp hp'
theorem iright_lit (w : World) (va : Value) (l h : Dyadic) (P Q : Nat) (r : Bool) (hr : decide (l ≤ h) = r) (ha : In w va l h) (r1 : Rg P Q l) (r2 : Rg P Q h) (hp : P + Q ≤ 1440) : Calls Tryz.prog 5 #[va] w (RetE w (.bool r)) := by
  subst hr; exact iright_any w va l h P Q ha r1 r2 hp
theorem iadd_lit (w : World) (va vb : Value) (l h l' h' s t : Dyadic) (P Q : Nat) (e1 : l + l' = s) (e2 : h + h' = t) (ha : In w va l h) (hb : In w vb l' h') (r1 : Rg P Q l) (r2 : Rg P Q h) (r3 : Rg P Q l') (r4 : Rg P Q h') (hp : P + Q ≤ 2400) (T : Tb w) :
    Calls Tryz.prog 25 #[va, vb] w (RetI w s t) := by
  subst e1 e2; exact iadd_any w va vb l h l' h' P Q ha hb r1 r2 r3 r4 hp T
theorem imul_lit (w : World) (va vb : Value) (l h l' h' s t : Dyadic) (P Q P' Q' : Nat) (e1 : mlo l h l' h' = s) (e2 : mhi l h l' h' = t) (ha : In w va l h) (hb : In w vb l' h') (r1 : Rg P Q l) (r2 : Rg P Q h) (r3 : Rg P' Q' l') (r4 : Rg P' Q' h') (hp : P + Q + (P' + Q') ≤ 4800) (T : Tb w) :
    Calls Tryz.prog 27 #[va, vb] w (RetI w s t) := by
  subst e1 e2; exact imul_any w va vb l h l' h' P Q P' Q' ha hb r1 r2 r3 r4 hp T
theorem iflip_lit (w : World) (va : Value) (l h s t : Dyadic) (P Q : Nat) (e1 : -h = s) (e2 : -l = t) (ha : In w va l h) (r1 : Rg P Q l) (r2 : Rg P Q h) (hp : P + Q ≤ 9600) (T : Tb w) : Calls Tryz.prog 21 #[va] w (RetI w s t) := by
  subst e1 e2; exact iflip_any w va l h P Q ha r1 r2 hp T
theorem ishift_lit (w : World) (va : Value) (l h s t : Dyadic) (j : Int) (P Q : Nat) (e1 : l * dy 1 j = s) (e2 : h * dy 1 j = t) (ha : In w va l h) (r1 : Rg P Q l) (r2 : Rg P Q h) (hp : P + Q ≤ 9600) (hj : -400000 ≤ j ∧ j ≤ 400000) (T : Tb w) : Calls Tryz.prog 23 #[va, .int .i64 j] w (RetI w s t) := by
  subst e1 e2; exact ishift_any w va l h j P Q ha r1 r2 hp hj T
theorem icut_lit (w : World) (va : Value) (l h s t : Dyadic) (j : Int) (k P Q : Nat) (hj : j = (k : Int)) (e1 : clo k l = s) (e2 : chi k h = t) (ha : In w va l h) (r1 : Rg P Q l) (r2 : Rg P Q h) (hp : P + Q ≤ 4800) (hk : 1 ≤ k) (hk2 : k ≤ 100000) (T : Tb w) : Calls Tryz.prog 29 #[va, .int .i64 j] w (RetI w s t) := by
  subst e1 e2; exact icut_any w va l h j k P Q hj ha r1 r2 hp hk hk2 T
theorem iroot_lit (w : World) (va : Value) (l h s t : Dyadic) (j : Int) (k P Q : Nat) (hj : j = (k : Int)) (e1 : rlo k l = s) (e2 : rhi k h = t) (ha : In w va l h) (h0 : 0 ≤ l) (h1 : 0 ≤ h) (r1 : Rg P Q l) (r2 : Rg P Q h) (hb : P + Q ≤ 2000) (hk : 1 ≤ k) (hk2 : k ≤ 1000) (T : Tb w) :
    Calls Tryz.prog 9 #[va, .int .i64 j] w (RetIB w s t true) := by
  subst e1 e2; exact iroot_yes w va l h j k P Q hj ha h0 h1 r1 r2 hb hk hk2 T
theorem iwide_lit (w : World) (va : Value) (l h s : Dyadic) (P Q : Nat) (e1 : h + -l = s) (ha : In w va l h) (r1 : Rg P Q l) (r2 : Rg P Q h) (hp : P + Q ≤ 2400) (T : Tb w) : Calls Tryz.prog 19 #[va] w (RetD w s) := by
  subst e1; exact iwide_any w va l h P Q ha r1 r2 hp T
/-- What the head's numbers are to one another. -/
structure HeadI (A B C D O1 O3 X F E8 : Dyadic) : Prop where
  oA : dy (-1) 0 = A
  oB : dy 2 0 = B
  oC : dy (-2) 0 = C
  oD : dy 4 0 = D
  o1 : dy 1 0 = O1
  o3 : dy 3 0 = O3
  oX : dy 3 (-1) = X
  oF : dy 5 0 = F
  o8 : dy 8 0 = E8
  o0 : dy 0 0 = 0
  m1 : mlo A B A B = C
  m2 : mhi A B A B = D
  a1 : A + A = C
  a2 : B + B = D
  f1 : -B = C
  f2 : -A = O1
  pB : 0 ≤ B
  nA : A < 0
  q1 : rlo 2 B = O1
  q2 : rhi 2 B = X
  h1 : hasB A B B = true
  h2 : hasB A B O3 = false
  h3 : (hasB A B 0 && hasB A B 0) = true
  h4 : (hasB C O1 A && hasB C O1 B) = false
  w1 : B + -A = O3
  r1 : decide (A ≤ B) = true
  r2 : decide (O1 ≤ 0) = false
  s1 : A * dy 1 1 = C
  s2 : B * dy 1 1 = D
  c1 : clo 1 F = D
  c2 : chi 1 F = E8
theorem headI_math : HeadI (dy (-1) 0) (dy 2 0) (dy (-2) 0) (dy 4 0) (dy 1 0) (dy 3 0) (dy 3 (-1)) (dy 5 0) (dy 8 0) where
  oA := rfl
  oB := rfl
  oC := rfl
  oD := rfl
  o1 := rfl
  o3 := rfl
  oX := rfl
  oF := rfl
  o8 := rfl
  o0 := rfl
  m1 := by decide +kernel
  m2 := by decide +kernel
  a1 := by decide +kernel
  a2 := by decide +kernel
  f1 := by decide +kernel
  f2 := by decide +kernel
  pB := by decide +kernel
  nA := by decide +kernel
  q1 := by
    have h : Rlo 2 (dy 2 0) (dy ((2 : Nat) : Int) (-1)) := root_lo (by decide) (by decide) (by decide +kernel) (by decide +kernel)
    rw [h.is]; decide +kernel
  q2 := by
    have h : Rhi 2 (dy 2 0) (dy ((2 + 1 : Nat) : Int) (-1)) := root_hi1 (by decide) (by decide) (by decide +kernel) (by decide +kernel)
    rw [h.is]; rfl
  h1 := by decide +kernel
  h2 := by decide +kernel
  h3 := by decide +kernel
  h4 := by decide +kernel
  w1 := by decide +kernel
  r1 := by decide +kernel
  r2 := by decide +kernel
  s1 := by decide +kernel
  s2 := by decide +kernel
  c1 := by rw [clo_is ⟨.inr (by decide)⟩ (by decide)]; decide +kernel
  c2 := by rw [chi_is ⟨.inr (by decide)⟩ (by decide)]; decide +kernel
structure Later (G : Prop) : Prop where
  out : G
theorem cutG {G A : Prop} (h : Later G → A) (g : G) : A := h ⟨g⟩
set_option maxRecDepth 100000 in
set_option maxHeartbeats 4000000 in
theorem headI_main (w : World) (A B C D O1 O3 X F E8 : Dyadic) (h : HeadI A B C D O1 O3 X F E8) (rA : Rg 20 31 A) (rB : Rg 20 31 B) (rC : Rg 20 31 C) (r1 : Rg 20 31 O1) (r3 : Rg 20 31 O3) (rF : Rg 20 31 F) (r0 : Rg 20 31 0) (T : Tb w) :
    Calls Tryz.prog 4 #[] w (RetE w (.bool true)) := by
  have H := Lib.hid h
  clear h
  go_enter Tryz.func4, Tryz.ntmps4
  go_wp2_with fail
  refine (rof_lit _ (-1) _ H.out.oA (by omega)).mono ?_
  rintro _ w1 ⟨v1, rfl, n1, f1⟩
  have e1 : Ext w w1 := (Ext.refl w).trans f1
  replace T := T.ext e1
  have E1 : Ext w w1 := e1
  clear f1
  go_wp2_with fail
  refine (rof_lit _ (2) _ H.out.oB (by omega)).mono ?_
  rintro _ w2 ⟨v2, rfl, n2, f2⟩
  have e2 : Ext w1 w2 := (Ext.refl w1).trans f2
  replace T := T.ext e2
  replace n1 := n1.ext e2
  have E2 : Ext w w2 := E1.trans e2
  clear e2 f2 E1
  obtain ⟨bn1, An1, ln1, cn1, jn1, rfl⟩ := n1.form
  obtain ⟨bn2, An2, ln2, cn2, jn2, rfl⟩ := n2.form
  have ia := In.mk n1 n2
  clear n1 n2
  go_wp2_with fail
  refine (rof_lit _ 2 _ H.out.oB (by omega)).mono ?_
  rintro _ w3 ⟨v3, rfl, n3, f3⟩
  have Va : Bx w3 (w2.heap.size) (.bool bn1) (.slice An1 ln1 cn1) (.int .i64 jn1) (.bool bn2) (.slice An2 ln2 cn2) (.int .i64 jn2) := Bx.at ((Ext.refl _).trans f3) (by simp)
  have e3 : Ext w2 w3 := ((Ext.refl w2).alloc _).trans f3
  replace T := T.ext e3
  replace ia := ia.ext e3
  have E3 : Ext w w3 := E2.trans e3
  clear e3 f3 E2
  go_wp2_with fail
  refine (ipoint_any _ _ B 20 31 n3 rB (by omega) T).mono ?_
  rintro _ w4 ⟨v4, rfl, i4, f4⟩
  have e4 : Ext w3 w4 := (Ext.refl w3).trans f4
  replace T := T.ext e4
  replace ia := ia.ext e4
  replace n3 := n3.ext e4
  replace Va := Va.ext e4
  have E4 : Ext w w4 := E3.trans e4
  clear e4 f4 E3
  clear n3
  go_wp2_with fail
  refine (iroot_lit _ _ B B O1 X 2 2 20 31 (by rfl) H.out.q1 H.out.q2 i4 H.out.pB H.out.pB rB rB (by omega) (by omega) (by omega) T).mono ?_
  rintro _ w5 ⟨v5, rfl, ir, f5⟩
  have e5 : Ext w4 w5 := (Ext.refl w4).trans f5
  replace T := T.ext e5
  replace ia := ia.ext e5
  replace i4 := i4.ext e5
  replace Va := Va.ext e5
  have E5 : Ext w w5 := E4.trans e5
  clear e5 f5 E4
  clear i4
  obtain ⟨bir, Air, lir, cir, jir, bir', Air', lir', cir', jir', rfl, ir_l, ir_h⟩ := ir
  have ir := In.mk ir_l ir_h
  clear ir_l ir_h
  obtain ⟨Va_0, Va_1, Va_2, Va_3, Va_4, Va_5⟩ := id Va
  have Va_l := World.block_lt_of_cell? _ _ Va_0
  go_wp2_with fail
  refine (iroot_no _ _ A B 9 9 (by rfl) (ia.ext ((Ext.refl w5).alloc _)) H.out.nA).mono ?_
  rintro _ w6 ⟨v6, rfl, iz, f6⟩
  clear Va_0 Va_1 Va_2 Va_3 Va_4 Va_5 Va_l
  have Vr : Bx w6 (w5.heap.size) (.bool bir) (.slice Air lir cir) (.int .i64 jir) (.bool bir') (.slice Air' lir' cir') (.int .i64 jir') := Bx.at ((Ext.refl _).trans f6) (by simp)
  have e6 : Ext w5 w6 := ((Ext.refl w5).alloc _).trans f6
  replace T := T.ext e6
  replace ia := ia.ext e6
  replace ir := ir.ext e6
  replace Va := Va.ext e6
  have E6 : Ext w w6 := E5.trans e6
  clear e6 f6 E5
  obtain ⟨biz, Aiz, liz, ciz, jiz, biz', Aiz', liz', ciz', jiz', rfl, iz_l, iz_h⟩ := iz
  clear iz_l iz_h
  go_wp2
  simp only [List.append_eq, List.cons_append, List.nil_append]
  have Vz : Bx (w6.alloc (.cells #[.bool biz, .slice Aiz liz ciz, .int .i64 jiz, .bool biz', .slice Aiz' liz' ciz', .int .i64 jiz'] 26)) w6.heap.size (.bool biz) (.slice Aiz liz ciz) (.int .i64 jiz) (.bool biz') (.slice Aiz' liz' ciz') (.int .i64 jiz') := Bx.at (Ext.refl _) rfl
  have eW9 : Ext w6 (w6.alloc (.cells #[.bool biz, .slice Aiz liz ciz, .int .i64 jiz, .bool biz', .slice Aiz' liz' ciz', .int .i64 jiz'] 26)) := (Ext.refl _).alloc _
  replace T := T.ext eW9
  replace ia := ia.ext eW9
  replace ir := ir.ext eW9
  replace Va := Va.ext eW9
  replace Vr := Vr.ext eW9
  have EW9 := E6.trans eW9
  clear eW9 E6
  generalize hgen : (w6.alloc (.cells #[.bool biz, .slice Aiz liz ciz, .int .i64 jiz, .bool biz', .slice Aiz' liz' ciz', .int .i64 jiz'] 26)) = W9 at *
  clear hgen
  obtain ⟨Va_0, Va_1, Va_2, Va_3, Va_4, Va_5⟩ := id Va
  have Va_l := World.block_lt_of_cell? _ _ Va_0
  obtain ⟨Vr_0, Vr_1, Vr_2, Vr_3, Vr_4, Vr_5⟩ := id Vr
  have Vr_l := World.block_lt_of_cell? _ _ Vr_0
  refine wp_region_held_drew (S := (fun w' => (w'.cell? ⟨w2.heap.size, 0, none⟩ = some (.bool bn1) ∧ w'.cell? ⟨w2.heap.size, 1, none⟩ = some (.slice An1 ln1 cn1) ∧ w'.cell? ⟨w2.heap.size, 2, none⟩ = some (.int .i64 jn1) ∧ w'.cell? ⟨w2.heap.size, 3, none⟩ = some (.bool bn2) ∧ w'.cell? ⟨w2.heap.size, 4, none⟩ = some (.slice An2 ln2 cn2) ∧ w'.cell? ⟨w2.heap.size, 5, none⟩ = some (.int .i64 jn2)) ∧ (w'.cell? ⟨w5.heap.size, 0, none⟩ = some (.bool bir) ∧ w'.cell? ⟨w5.heap.size, 1, none⟩ = some (.slice Air lir cir) ∧ w'.cell? ⟨w5.heap.size, 2, none⟩ = some (.int .i64 jir) ∧ w'.cell? ⟨w5.heap.size, 3, none⟩ = some (.bool bir') ∧ w'.cell? ⟨w5.heap.size, 4, none⟩ = some (.slice Air' lir' cir') ∧ w'.cell? ⟨w5.heap.size, 5, none⟩ = some (.int .i64 jir')))) (by as_aux_lemma => kernel_rfl) ⟨bx6 (Va.ext (Ext.refl W9).drew), bx6 (Vr.ext (Ext.refl W9).drew)⟩ (fun hHeld => ?_)
  refine wpAnyH_take (i := 0) (v := ?_) rfl (by as_aux_lemma => kernel_rfl) (by as_aux_lemma => kernel_rfl) (by as_aux_lemma => kernel_rfl) (fun _ _ _ h => h) (Or.inl ⟨by rfl, ?_⟩) (by assumption) ?_
  rotate_left
  · (intro w hSw; (try dsimp only at hSw); go_simp); (try with_reducible rfl)
  simp only [List.getElem_toArray, List.getElem_cons_zero, Act.put, List.setIfInBounds_toArray, List.set_cons_zero, List.set_cons_succ]
  refine wpAnyH_take (i := 1) (v := ?_) rfl (by as_aux_lemma => kernel_rfl) (by as_aux_lemma => kernel_rfl) (by as_aux_lemma => kernel_rfl) (fun _ _ _ h => h) (Or.inl ⟨by rfl, ?_⟩) (by assumption) ?_
  rotate_left
  · (intro w hSw; (try dsimp only at hSw); go_simp); (try with_reducible rfl)
  simp only [List.getElem_toArray, List.getElem_cons_zero, List.getElem_cons_succ, Act.put, List.setIfInBounds_toArray, List.set_cons_zero, List.set_cons_succ]
  refine wpAnyH_ready (rs := [2]) (by as_aux_lemma => kernel_rfl) (by simp) ?_
  refine AllReadyH.cons rfl (fun K hK => ?_) AllReadyH.nil
  go_simp
  refine (imul_lit _ _ _ A B A B C D 20 31 20 31 H.out.m1 H.out.m2 (ia.ext (Ext.refl W9).drew) (ia.ext (Ext.refl W9).drew) rA rB rA rB (by omega) (T.ext (Ext.refl W9).drew)).mono ?_
  rintro _ u1 ⟨vu1, rfl, m1, eu1⟩
  have F1 : Ext W9 u1 := (Ext.refl W9).drew.trans eu1
  refine hK.out _ _ ⟨bx6 (Va.ext F1), bx6 (Vr.ext F1)⟩ (fun hHeld => ?_)
  clear hK K eu1
  refine wpAnyH_ready (rs := [3]) (by as_aux_lemma => kernel_rfl) (by simp) ?_
  refine AllReadyH.cons rfl (fun K hK => ?_) AllReadyH.nil
  go_simp
  refine (rof_lit _ (-2) _ H.out.oC (by omega)).mono ?_
  rintro _ u2 ⟨vu2, rfl, m2, eu2⟩
  have F2 : Ext W9 u2 := F1.trans eu2
  replace m1 := m1.ext eu2
  obtain ⟨yu2, Yu2, pu2, qu2, xu2, rfl⟩ := m2.form
  refine hK.out _ _ ⟨bx6 (Va.ext F2), bx6 (Vr.ext F2)⟩ (fun hHeld => ?_)
  clear hK K eu2 F1
  refine wpAnyH_ready (rs := [4]) (by as_aux_lemma => kernel_rfl) (by simp) ?_
  refine AllReadyH.cons rfl (fun K hK => ?_) AllReadyH.nil
  go_simp
  refine (rof_lit _ (4) _ H.out.oD (by omega)).mono ?_
  rintro _ u3 ⟨vu3, rfl, m3, eu3⟩
  have F3 : Ext W9 u3 := F2.trans eu3
  replace m1 := m1.ext eu3
  replace m2 := m2.ext eu3
  obtain ⟨yu3, Yu3, pu3, qu3, xu3, rfl⟩ := m3.form
  refine hK.out _ _ ⟨bx6 (Va.ext F3), bx6 (Vr.ext F3)⟩ (fun hHeld => ?_)
  clear hK K eu3 F2
  refine wpAnyH_take (i := 5) (v := ?_) rfl (by as_aux_lemma => kernel_rfl) (by as_aux_lemma => kernel_rfl) (by as_aux_lemma => kernel_rfl) (fun _ _ _ h => h) (Or.inl ⟨by rfl, ?_⟩) (by assumption) ?_
  rotate_left
  · (intro w hSw; (try dsimp only at hSw); go_simp); (try with_reducible rfl)
  simp only [List.getElem_toArray, List.getElem_cons_zero, List.getElem_cons_succ, Act.put, List.setIfInBounds_toArray, List.set_cons_zero, List.set_cons_succ]
  refine wpAnyH_ready (rs := [6]) (by as_aux_lemma => kernel_rfl) (by simp) ?_
  refine AllReadyH.cons rfl (fun K hK => ?_) AllReadyH.nil
  go_simp
  refine (risame_eq _ _ _ _ _ _ _ m1 (In.mk m2 m3) rfl rfl).mono ?_
  rintro _ u4 ⟨rfl, eu4⟩
  have F4 : Ext W9 u4 := F3.trans eu4
  replace m1 := m1.ext eu4
  replace m2 := m2.ext eu4
  replace m3 := m3.ext eu4
  refine hK.out _ _ ⟨bx6 (Va.ext F4), bx6 (Vr.ext F4)⟩ (fun hHeld => ?_)
  clear hK K eu4 F3
  refine wpAnyH_take (i := 7) (v := ?_) rfl (by as_aux_lemma => kernel_rfl) (by as_aux_lemma => kernel_rfl) (by as_aux_lemma => kernel_rfl) (fun _ _ _ h => h) (Or.inl ⟨by rfl, ?_⟩) (by assumption) ?_
  rotate_left
  · (intro w hSw; (try dsimp only at hSw); go_simp); (try with_reducible rfl)
  simp only [List.getElem_toArray, List.getElem_cons_zero, List.getElem_cons_succ, Act.put, List.setIfInBounds_toArray, List.set_cons_zero, List.set_cons_succ]
  refine wpAnyH_take (i := 8) (v := ?_) rfl (by as_aux_lemma => kernel_rfl) (by as_aux_lemma => kernel_rfl) (by as_aux_lemma => kernel_rfl) (fun _ _ _ h => h) (Or.inl ⟨by rfl, ?_⟩) (by assumption) ?_
  rotate_left
  · (intro w hSw; (try dsimp only at hSw); go_simp); (try with_reducible rfl)
  simp only [List.getElem_toArray, List.getElem_cons_zero, List.getElem_cons_succ, Act.put, List.setIfInBounds_toArray, List.set_cons_zero, List.set_cons_succ]
  refine wpAnyH_take (i := 9) (v := ?_) rfl (by as_aux_lemma => kernel_rfl) (by as_aux_lemma => kernel_rfl) (by as_aux_lemma => kernel_rfl) (fun _ _ _ h => h) (Or.inl ⟨by rfl, ?_⟩) (by assumption) ?_
  rotate_left
  · (intro w hSw; (try dsimp only at hSw); go_simp); (try with_reducible rfl)
  simp only [List.getElem_toArray, List.getElem_cons_zero, List.getElem_cons_succ, Act.put, List.setIfInBounds_toArray, List.set_cons_zero, List.set_cons_succ]
  refine wpAnyH_ready (rs := [10]) (by as_aux_lemma => kernel_rfl) (by simp) ?_
  refine AllReadyH.cons rfl (fun K hK => ?_) AllReadyH.nil
  go_simp
  refine (iadd_lit _ _ _ A B A B C D 20 31 H.out.a1 H.out.a2 (ia.ext F4) (ia.ext F4) rA rB rA rB (by omega) (T.ext F4)).mono ?_
  rintro _ u5 ⟨vu5, rfl, m5, eu5⟩
  have F5 : Ext W9 u5 := F4.trans eu5
  refine hK.out _ _ ⟨bx6 (Va.ext F5), bx6 (Vr.ext F5)⟩ (fun hHeld => ?_)
  clear hK K eu5 F4 m1 m2 m3
  refine wpAnyH_ready (rs := [11]) (by as_aux_lemma => kernel_rfl) (by simp) ?_
  refine AllReadyH.cons rfl (fun K hK => ?_) AllReadyH.nil
  go_simp
  refine (rof_lit _ (-2) _ H.out.oC (by omega)).mono ?_
  rintro _ u6 ⟨vu6, rfl, m6, eu6⟩
  have F6 : Ext W9 u6 := F5.trans eu6
  replace m5 := m5.ext eu6
  obtain ⟨yu6, Yu6, pu6, qu6, xu6, rfl⟩ := m6.form
  refine hK.out _ _ ⟨bx6 (Va.ext F6), bx6 (Vr.ext F6)⟩ (fun hHeld => ?_)
  clear hK K eu6 F5
  refine wpAnyH_ready (rs := [12]) (by as_aux_lemma => kernel_rfl) (by simp) ?_
  refine AllReadyH.cons rfl (fun K hK => ?_) AllReadyH.nil
  go_simp
  refine (rof_lit _ (4) _ H.out.oD (by omega)).mono ?_
  rintro _ u7 ⟨vu7, rfl, m7, eu7⟩
  have F7 : Ext W9 u7 := F6.trans eu7
  replace m5 := m5.ext eu7
  replace m6 := m6.ext eu7
  obtain ⟨yu7, Yu7, pu7, qu7, xu7, rfl⟩ := m7.form
  refine hK.out _ _ ⟨bx6 (Va.ext F7), bx6 (Vr.ext F7)⟩ (fun hHeld => ?_)
  clear hK K eu7 F6
  refine wpAnyH_take (i := 13) (v := ?_) rfl (by as_aux_lemma => kernel_rfl) (by as_aux_lemma => kernel_rfl) (by as_aux_lemma => kernel_rfl) (fun _ _ _ h => h) (Or.inl ⟨by rfl, ?_⟩) (by assumption) ?_
  rotate_left
  · (intro w hSw; (try dsimp only at hSw); go_simp); (try with_reducible rfl)
  simp only [List.getElem_toArray, List.getElem_cons_zero, List.getElem_cons_succ, Act.put, List.setIfInBounds_toArray, List.set_cons_zero, List.set_cons_succ]
  refine wpAnyH_ready (rs := [14]) (by as_aux_lemma => kernel_rfl) (by simp) ?_
  refine AllReadyH.cons rfl (fun K hK => ?_) AllReadyH.nil
  go_simp
  refine (risame_eq _ _ _ _ _ _ _ m5 (In.mk m6 m7) rfl rfl).mono ?_
  rintro _ u8 ⟨rfl, eu8⟩
  have F8 : Ext W9 u8 := F7.trans eu8
  replace m5 := m5.ext eu8
  replace m6 := m6.ext eu8
  replace m7 := m7.ext eu8
  refine hK.out _ _ ⟨bx6 (Va.ext F8), bx6 (Vr.ext F8)⟩ (fun hHeld => ?_)
  clear hK K eu8 F7
  refine wpAnyH_take (i := 15) (v := ?_) rfl (by as_aux_lemma => kernel_rfl) (by as_aux_lemma => kernel_rfl) (by as_aux_lemma => kernel_rfl) (fun _ _ _ h => h) (Or.inl ⟨by rfl, ?_⟩) (by assumption) ?_
  rotate_left
  · (intro w hSw; (try dsimp only at hSw); go_simp); (try with_reducible rfl)
  simp only [List.getElem_toArray, List.getElem_cons_zero, List.getElem_cons_succ, Act.put, List.setIfInBounds_toArray, List.set_cons_zero, List.set_cons_succ]
  refine wpAnyH_take (i := 16) (v := ?_) rfl (by as_aux_lemma => kernel_rfl) (by as_aux_lemma => kernel_rfl) (by as_aux_lemma => kernel_rfl) (fun _ _ _ h => h) (Or.inl ⟨by rfl, ?_⟩) (by assumption) ?_
  rotate_left
  · (intro w hSw; (try dsimp only at hSw); go_simp); (try with_reducible rfl)
  simp only [List.getElem_toArray, List.getElem_cons_zero, List.getElem_cons_succ, Act.put, List.setIfInBounds_toArray, List.set_cons_zero, List.set_cons_succ]
  refine wpAnyH_take (i := 17) (v := ?_) rfl (by as_aux_lemma => kernel_rfl) (by as_aux_lemma => kernel_rfl) (by as_aux_lemma => kernel_rfl) (fun _ _ _ h => h) (Or.inl ⟨by rfl, ?_⟩) (by assumption) ?_
  rotate_left
  · (intro w hSw; (try dsimp only at hSw); go_simp); (try with_reducible rfl)
  simp only [List.getElem_toArray, List.getElem_cons_zero, List.getElem_cons_succ, Act.put, List.setIfInBounds_toArray, List.set_cons_zero, List.set_cons_succ]
  refine wpAnyH_ready (rs := [18]) (by as_aux_lemma => kernel_rfl) (by simp) ?_
  refine AllReadyH.cons rfl (fun K hK => ?_) AllReadyH.nil
  go_simp
  refine (iflip_lit _ _ A B C O1 20 31 H.out.f1 H.out.f2 (ia.ext F8) rA rB (by omega) (T.ext F8)).mono ?_
  rintro _ u9 ⟨vu9, rfl, m9, eu9⟩
  have F9 : Ext W9 u9 := F8.trans eu9
  refine hK.out _ _ ⟨bx6 (Va.ext F9), bx6 (Vr.ext F9)⟩ (fun hHeld => ?_)
  clear hK K eu9 F8 m5 m6 m7
  refine wpAnyH_ready (rs := [19]) (by as_aux_lemma => kernel_rfl) (by simp) ?_
  refine AllReadyH.cons rfl (fun K hK => ?_) AllReadyH.nil
  go_simp
  refine (rof_lit _ (-2) _ H.out.oC (by omega)).mono ?_
  rintro _ u10 ⟨vu10, rfl, m10, eu10⟩
  have F10 : Ext W9 u10 := F9.trans eu10
  replace m9 := m9.ext eu10
  obtain ⟨yu10, Yu10, pu10, qu10, xu10, rfl⟩ := m10.form
  refine hK.out _ _ ⟨bx6 (Va.ext F10), bx6 (Vr.ext F10)⟩ (fun hHeld => ?_)
  clear hK K eu10 F9
  refine wpAnyH_ready (rs := [20]) (by as_aux_lemma => kernel_rfl) (by simp) ?_
  refine AllReadyH.cons rfl (fun K hK => ?_) AllReadyH.nil
  go_simp
  refine (rof_lit _ (1) _ H.out.o1 (by omega)).mono ?_
  rintro _ u11 ⟨vu11, rfl, m11, eu11⟩
  have F11 : Ext W9 u11 := F10.trans eu11
  replace m9 := m9.ext eu11
  replace m10 := m10.ext eu11
  obtain ⟨yu11, Yu11, pu11, qu11, xu11, rfl⟩ := m11.form
  refine hK.out _ _ ⟨bx6 (Va.ext F11), bx6 (Vr.ext F11)⟩ (fun hHeld => ?_)
  clear hK K eu11 F10
  refine wpAnyH_take (i := 21) (v := ?_) rfl (by as_aux_lemma => kernel_rfl) (by as_aux_lemma => kernel_rfl) (by as_aux_lemma => kernel_rfl) (fun _ _ _ h => h) (Or.inl ⟨by rfl, ?_⟩) (by assumption) ?_
  rotate_left
  · (intro w hSw; (try dsimp only at hSw); go_simp); (try with_reducible rfl)
  simp only [List.getElem_toArray, List.getElem_cons_zero, List.getElem_cons_succ, Act.put, List.setIfInBounds_toArray, List.set_cons_zero, List.set_cons_succ]
  refine wpAnyH_ready (rs := [22]) (by as_aux_lemma => kernel_rfl) (by simp) ?_
  refine AllReadyH.cons rfl (fun K hK => ?_) AllReadyH.nil
  go_simp
  refine (risame_eq _ _ _ _ _ _ _ m9 (In.mk m10 m11) rfl rfl).mono ?_
  rintro _ u12 ⟨rfl, eu12⟩
  have F12 : Ext W9 u12 := F11.trans eu12
  replace m9 := m9.ext eu12
  replace m10 := m10.ext eu12
  replace m11 := m11.ext eu12
  refine hK.out _ _ ⟨bx6 (Va.ext F12), bx6 (Vr.ext F12)⟩ (fun hHeld => ?_)
  clear hK K eu12 F11
  refine wpAnyH_take (i := 23) (v := ?_) rfl (by as_aux_lemma => kernel_rfl) (by as_aux_lemma => kernel_rfl) (by as_aux_lemma => kernel_rfl) (fun _ _ _ h => h) (Or.inl ⟨by rfl, ?_⟩) (by assumption) ?_
  rotate_left
  · (intro w hSw; (try dsimp only at hSw); go_simp); (try with_reducible rfl)
  simp only [List.getElem_toArray, List.getElem_cons_zero, List.getElem_cons_succ, Act.put, List.setIfInBounds_toArray, List.set_cons_zero, List.set_cons_succ]
  refine wpAnyH_take (i := 24) (v := ?_) rfl (by as_aux_lemma => kernel_rfl) (by as_aux_lemma => kernel_rfl) (by as_aux_lemma => kernel_rfl) (fun _ _ _ h => h) (Or.inl ⟨by rfl, ?_⟩) (by assumption) ?_
  rotate_left
  · (intro w hSw; (try dsimp only at hSw); go_simp); (try with_reducible rfl)
  simp only [List.getElem_toArray, List.getElem_cons_zero, List.getElem_cons_succ, Act.put, List.setIfInBounds_toArray, List.set_cons_zero, List.set_cons_succ]
  refine wpAnyH_take (i := 25) (v := ?_) rfl (by as_aux_lemma => kernel_rfl) (by as_aux_lemma => kernel_rfl) (by as_aux_lemma => kernel_rfl) (fun _ _ _ h => h) (Or.inl ⟨by rfl, ?_⟩) (by assumption) ?_
  rotate_left
  · (intro w hSw; (try dsimp only at hSw); go_simp); (try with_reducible rfl)
  simp only [List.getElem_toArray, List.getElem_cons_zero, List.getElem_cons_succ, Act.put, List.setIfInBounds_toArray, List.set_cons_zero, List.set_cons_succ]
  clear m9 m10 m11
  apply cutG
  · intro REST
    refine wpAnyH_ready (rs := [26, 27]) (by as_aux_lemma => kernel_rfl) (by simp) ?_
    refine AllReadyH.cons rfl (fun K hK => ?_) (AllReadyH.cons rfl (fun K hK => ?_) AllReadyH.nil)
    · go_simp
      refine (rof_lit _ 1 _ H.out.o1 (by omega)).mono ?_
      rintro _ ua ⟨va, rfl, ma, ea⟩
      have Fa : Ext W9 ua := F12.trans ea
      obtain ⟨y1, Y1, p1, q1, x1, rfl⟩ := ma.form
      refine hK.out _ _ ⟨bx6 (Va.ext Fa), bx6 (Vr.ext Fa)⟩ (fun hHeld => ?_)
      clear hK K ea
      refine wpAnyH_ready (rs := [27]) (by as_aux_lemma => kernel_rfl) (by simp) ?_
      refine AllReadyH.cons rfl (fun K hK => ?_) AllReadyH.nil
      go_simp
      refine hK.out _ _ ⟨bx6 (Va.ext (Fa.alloc _)), bx6 (Vr.ext (Fa.alloc _))⟩ (fun hHeld => ?_)
      clear hK K
      refine wpAnyH_take (i := 28) (v := ?_) rfl (by as_aux_lemma => kernel_rfl) (by as_aux_lemma => kernel_rfl) (by as_aux_lemma => kernel_rfl) (fun _ _ _ h => h) (Or.inl ⟨by rfl, ?_⟩) (by assumption) ?_
      rotate_left
      · (intro w hSw; (try dsimp only at hSw); go_simp); (try with_reducible rfl)
      simp only [List.getElem_toArray, List.getElem_cons_zero, List.getElem_cons_succ, Act.put, List.setIfInBounds_toArray, List.set_cons_zero, List.set_cons_succ]
      refine wpAnyH_take (i := 29) (v := ?_) rfl (by as_aux_lemma => kernel_rfl) (by as_aux_lemma => kernel_rfl) (by as_aux_lemma => kernel_rfl) (fun _ _ _ h => h) (Or.inl ⟨by rfl, ?_⟩) (by assumption) ?_
      rotate_left
      · (intro w hSw; (try dsimp only at hSw); go_simp); (try with_reducible rfl)
      simp only [List.getElem_toArray, List.getElem_cons_zero, List.getElem_cons_succ, Act.put, List.setIfInBounds_toArray, List.set_cons_zero, List.set_cons_succ]
      refine wpAnyH_ready (rs := [30]) (by as_aux_lemma => kernel_rfl) (by simp) ?_
      refine AllReadyH.cons rfl (fun K hK => ?_) AllReadyH.nil
      go_simp
      refine (risame_eq _ _ _ _ _ _ _ (ir.ext (Fa.alloc _)) (In.mk (ma.ext ((Ext.refl _).alloc _)) (lit_dn _ 3 (-1) 3 false _ (by omega) (by omega) (by omega) (by rfl))) rfl H.out.oX.symm).mono ?_
      rintro _ uz ⟨rfl, ez⟩
      have Fz : Ext W9 uz := (Fa.alloc _).trans ez
      refine hK.out _ _ ⟨bx6 (Va.ext Fz), bx6 (Vr.ext Fz)⟩ (fun hHeld => ?_)
      clear hK K ez
      generalize Value.agg #[.bool y1, .slice Y1 p1 q1, .int .i64 x1, .bool false, .slice (some ⟨ua.heap.size, 0, none⟩) 1 1, .int .i64 (-1)] = z4
      generalize Value.agg #[.bool false, .slice (some ⟨ua.heap.size, 0, none⟩) 1 1, .int .i64 (-1)] = z3
      generalize Value.slice (some ⟨ua.heap.size, 0, none⟩) 1 1 = z2
      generalize Value.agg #[.bool y1, .slice Y1 p1 q1, .int .i64 x1] = z1
      revert z1 z2 z3 z4 hHeld Fz uz
      exact REST.out
    · go_simp
      refine hK.out _ _ ⟨bx6 (Va.ext (F12.alloc _)), bx6 (Vr.ext (F12.alloc _))⟩ (fun hHeld => ?_)
      clear hK K
      refine wpAnyH_take (i := 28) (v := ?_) rfl (by as_aux_lemma => kernel_rfl) (by as_aux_lemma => kernel_rfl) (by as_aux_lemma => kernel_rfl) (fun _ _ _ h => h) (Or.inl ⟨by rfl, ?_⟩) (by assumption) ?_
      rotate_left
      · (intro w hSw; (try dsimp only at hSw); go_simp); (try with_reducible rfl)
      simp only [List.getElem_toArray, List.getElem_cons_zero, List.getElem_cons_succ, Act.put, List.setIfInBounds_toArray, List.set_cons_zero, List.set_cons_succ]
      refine wpAnyH_ready (rs := [26]) (by as_aux_lemma => kernel_rfl) (by simp) ?_
      refine AllReadyH.cons rfl (fun K hK => ?_) AllReadyH.nil
      go_simp
      refine (rof_lit _ 1 _ H.out.o1 (by omega)).mono ?_
      rintro _ ua ⟨va, rfl, ma, ea⟩
      have Fa : Ext W9 ua := (F12.alloc _).trans ea
      have dx := (lit_dn _ 3 (-1) 3 false _ (by omega) (by omega) (by omega) (by rfl)).ext ea
      obtain ⟨y1, Y1, p1, q1, x1, rfl⟩ := ma.form
      refine hK.out _ _ ⟨bx6 (Va.ext Fa), bx6 (Vr.ext Fa)⟩ (fun hHeld => ?_)
      clear hK K ea
      refine wpAnyH_take (i := 29) (v := ?_) rfl (by as_aux_lemma => kernel_rfl) (by as_aux_lemma => kernel_rfl) (by as_aux_lemma => kernel_rfl) (fun _ _ _ h => h) (Or.inl ⟨by rfl, ?_⟩) (by assumption) ?_
      rotate_left
      · (intro w hSw; (try dsimp only at hSw); go_simp); (try with_reducible rfl)
      simp only [List.getElem_toArray, List.getElem_cons_zero, List.getElem_cons_succ, Act.put, List.setIfInBounds_toArray, List.set_cons_zero, List.set_cons_succ]
      refine wpAnyH_ready (rs := [30]) (by as_aux_lemma => kernel_rfl) (by simp) ?_
      refine AllReadyH.cons rfl (fun K hK => ?_) AllReadyH.nil
      go_simp
      refine (risame_eq _ _ _ _ _ _ _ (ir.ext Fa) (In.mk ma dx) rfl H.out.oX.symm).mono ?_
      rintro _ uz ⟨rfl, ez⟩
      have Fz : Ext W9 uz := Fa.trans ez
      refine hK.out _ _ ⟨bx6 (Va.ext Fz), bx6 (Vr.ext Fz)⟩ (fun hHeld => ?_)
      clear hK K ez
      generalize Value.agg #[.bool y1, .slice Y1 p1 q1, .int .i64 x1, .bool false, .slice (some ⟨u12.heap.size, 0, none⟩) 1 1, .int .i64 (-1)] = z4
      generalize Value.agg #[.bool false, .slice (some ⟨u12.heap.size, 0, none⟩) 1 1, .int .i64 (-1)] = z3
      generalize Value.slice (some ⟨u12.heap.size, 0, none⟩) 1 1 = z2
      generalize Value.agg #[.bool y1, .slice Y1 p1 q1, .int .i64 x1] = z1
      revert z1 z2 z3 z4 hHeld Fz uz
      exact REST.out
  clear F12 hHeld
  intro u14 F14 hHeld z4 z3 z2 z1
  refine wpAnyH_take (i := 31) (v := ?_) rfl (by as_aux_lemma => kernel_rfl) (by as_aux_lemma => kernel_rfl) (by as_aux_lemma => kernel_rfl) (fun _ _ _ h => h) (Or.inl ⟨by rfl, ?_⟩) (by assumption) ?_
  rotate_left
  · (intro w hSw; (try dsimp only at hSw); go_simp); (try with_reducible rfl)
  simp only [List.getElem_toArray, List.getElem_cons_zero, List.getElem_cons_succ, Act.put, List.setIfInBounds_toArray, List.set_cons_zero, List.set_cons_succ]
  refine wpAnyH_take (i := 32) (v := ?_) rfl (by as_aux_lemma => kernel_rfl) (by as_aux_lemma => kernel_rfl) (by as_aux_lemma => kernel_rfl) (fun _ _ _ h => h) (Or.inl ⟨by rfl, ?_⟩) (by assumption) ?_
  rotate_left
  · (intro w hSw; (try dsimp only at hSw); go_simp); (try with_reducible rfl)
  simp only [List.getElem_toArray, List.getElem_cons_zero, List.getElem_cons_succ, Act.put, List.setIfInBounds_toArray, List.set_cons_zero, List.set_cons_succ]
  refine wpAnyH_take (i := 33) (v := ?_) rfl (by as_aux_lemma => kernel_rfl) (by as_aux_lemma => kernel_rfl) (by as_aux_lemma => kernel_rfl) (fun _ _ _ h => h) (Or.inl ⟨by rfl, ?_⟩) (by assumption) ?_
  rotate_left
  · (intro w hSw; (try dsimp only at hSw); go_simp); (try with_reducible rfl)
  simp only [List.getElem_toArray, List.getElem_cons_zero, List.getElem_cons_succ, Act.put, List.setIfInBounds_toArray, List.set_cons_zero, List.set_cons_succ]
  refine wpAnyH_take (i := 34) (v := ?_) rfl (by as_aux_lemma => kernel_rfl) (by as_aux_lemma => kernel_rfl) (by as_aux_lemma => kernel_rfl) (fun _ _ _ h => h) (Or.inl ⟨by rfl, ?_⟩) (by assumption) ?_
  rotate_left
  · (intro w hSw; (try dsimp only at hSw); go_simp); (try with_reducible rfl)
  simp only [List.getElem_toArray, List.getElem_cons_zero, List.getElem_cons_succ, Act.put, List.setIfInBounds_toArray, List.set_cons_zero, List.set_cons_succ]
  refine wpAnyH_take (i := 35) (v := ?_) rfl (by as_aux_lemma => kernel_rfl) (by as_aux_lemma => kernel_rfl) (by as_aux_lemma => kernel_rfl) (fun _ _ _ h => h) (Or.inl ⟨by rfl, ?_⟩) (by assumption) ?_
  rotate_left
  · (intro w hSw; (try dsimp only at hSw); go_simp); (try with_reducible rfl)
  simp only [List.getElem_toArray, List.getElem_cons_zero, List.getElem_cons_succ, Act.put, List.setIfInBounds_toArray, List.set_cons_zero, List.set_cons_succ]
  refine wpAnyH_take (i := 36) (v := ?_) rfl (by as_aux_lemma => kernel_rfl) (by as_aux_lemma => kernel_rfl) (by as_aux_lemma => kernel_rfl) (fun _ _ _ h => h) (Or.inl ⟨by rfl, ?_⟩) (by assumption) ?_
  rotate_left
  · (intro w hSw; (try dsimp only at hSw); go_simp); (try with_reducible rfl)
  simp only [List.getElem_toArray, List.getElem_cons_zero, List.getElem_cons_succ, Act.put, List.setIfInBounds_toArray, List.set_cons_zero, List.set_cons_succ]
  refine wpAnyH_take (i := 37) (v := ?_) rfl (by as_aux_lemma => kernel_rfl) (by as_aux_lemma => kernel_rfl) (by as_aux_lemma => kernel_rfl) (fun _ _ _ h => h) (Or.inl ⟨by rfl, ?_⟩) (by assumption) ?_
  rotate_left
  · (intro w hSw; (try dsimp only at hSw); go_simp); (try with_reducible rfl)
  simp only [List.getElem_toArray, List.getElem_cons_zero, List.getElem_cons_succ, Act.put, List.setIfInBounds_toArray, List.set_cons_zero, List.set_cons_succ]
  refine wpAnyH_take (i := 38) (v := ?_) rfl (by as_aux_lemma => kernel_rfl) (by as_aux_lemma => kernel_rfl) (by as_aux_lemma => kernel_rfl) (fun _ _ _ h => h) (Or.inl ⟨by rfl, ?_⟩) (by assumption) ?_
  rotate_left
  · (intro w hSw; (try dsimp only at hSw); go_simp); (try with_reducible rfl)
  simp only [List.getElem_toArray, List.getElem_cons_zero, List.getElem_cons_succ, Act.put, List.setIfInBounds_toArray, List.set_cons_zero, List.set_cons_succ]
  refine wpAnyH_take (i := 39) (v := ?_) rfl (by as_aux_lemma => kernel_rfl) (by as_aux_lemma => kernel_rfl) (by as_aux_lemma => kernel_rfl) (fun _ _ _ h => h) (Or.inl ⟨by rfl, ?_⟩) (by assumption) ?_
  rotate_left
  · (intro w hSw; (try dsimp only at hSw); go_simp); (try with_reducible rfl)
  simp only [List.getElem_toArray, List.getElem_cons_zero, List.getElem_cons_succ, Act.put, List.setIfInBounds_toArray, List.set_cons_zero, List.set_cons_succ]
  refine wpAnyH_take (i := 40) (v := ?_) rfl (by as_aux_lemma => kernel_rfl) (by as_aux_lemma => kernel_rfl) (by as_aux_lemma => kernel_rfl) (fun _ _ _ h => h) (Or.inl ⟨by rfl, ?_⟩) (by assumption) ?_
  rotate_left
  · (intro w hSw; (try dsimp only at hSw); go_simp); (try with_reducible rfl)
  simp only [List.getElem_toArray, List.getElem_cons_zero, List.getElem_cons_succ, Act.put, List.setIfInBounds_toArray, List.set_cons_zero, List.set_cons_succ]
  refine wpAnyH_ready (rs := [41]) (by as_aux_lemma => kernel_rfl) (by simp) ?_
  refine AllReadyH.cons rfl (fun K hK => ?_) AllReadyH.nil
  go_simp
  refine (rof_lit _ (2) _ H.out.oB (by omega)).mono ?_
  rintro _ u15 ⟨vu15, rfl, m15, eu15⟩
  have F15 : Ext W9 u15 := F14.trans eu15
  refine hK.out _ _ ⟨bx6 (Va.ext F15), bx6 (Vr.ext F15)⟩ (fun hHeld => ?_)
  clear hK K eu15 F14
  refine wpAnyH_ready (rs := [42]) (by as_aux_lemma => kernel_rfl) (by simp) ?_
  refine AllReadyH.cons rfl (fun K hK => ?_) AllReadyH.nil
  go_simp
  refine (has_lit _ _ _ A B B 20 31 20 31 true H.out.h1 (ia.ext F15) m15 rA rB rB (by omega) (by omega)).mono ?_
  rintro _ u16 ⟨rfl, eu16⟩
  have F16 : Ext W9 u16 := F15.trans eu16
  replace m15 := m15.ext eu16
  refine hK.out _ _ ⟨bx6 (Va.ext F16), bx6 (Vr.ext F16)⟩ (fun hHeld => ?_)
  clear hK K eu16 F15
  refine wpAnyH_take (i := 43) (v := ?_) rfl (by as_aux_lemma => kernel_rfl) (by as_aux_lemma => kernel_rfl) (by as_aux_lemma => kernel_rfl) (fun _ _ _ h => h) (Or.inl ⟨by rfl, ?_⟩) (by assumption) ?_
  rotate_left
  · (intro w hSw; (try dsimp only at hSw); go_simp); (try with_reducible rfl)
  simp only [List.getElem_toArray, List.getElem_cons_zero, List.getElem_cons_succ, Act.put, List.setIfInBounds_toArray, List.set_cons_zero, List.set_cons_succ]
  refine wpAnyH_take (i := 44) (v := ?_) rfl (by as_aux_lemma => kernel_rfl) (by as_aux_lemma => kernel_rfl) (by as_aux_lemma => kernel_rfl) (fun _ _ _ h => h) (Or.inl ⟨by rfl, ?_⟩) (by assumption) ?_
  rotate_left
  · (intro w hSw; (try dsimp only at hSw); go_simp); (try with_reducible rfl)
  simp only [List.getElem_toArray, List.getElem_cons_zero, List.getElem_cons_succ, Act.put, List.setIfInBounds_toArray, List.set_cons_zero, List.set_cons_succ]
  refine wpAnyH_take (i := 45) (v := ?_) rfl (by as_aux_lemma => kernel_rfl) (by as_aux_lemma => kernel_rfl) (by as_aux_lemma => kernel_rfl) (fun _ _ _ h => h) (Or.inl ⟨by rfl, ?_⟩) (by assumption) ?_
  rotate_left
  · (intro w hSw; (try dsimp only at hSw); go_simp); (try with_reducible rfl)
  simp only [List.getElem_toArray, List.getElem_cons_zero, List.getElem_cons_succ, Act.put, List.setIfInBounds_toArray, List.set_cons_zero, List.set_cons_succ]
  refine wpAnyH_ready (rs := [46]) (by as_aux_lemma => kernel_rfl) (by simp) ?_
  refine AllReadyH.cons rfl (fun K hK => ?_) AllReadyH.nil
  go_simp
  refine (rof_lit _ (3) _ H.out.o3 (by omega)).mono ?_
  rintro _ u17 ⟨vu17, rfl, m17, eu17⟩
  have F17 : Ext W9 u17 := F16.trans eu17
  refine hK.out _ _ ⟨bx6 (Va.ext F17), bx6 (Vr.ext F17)⟩ (fun hHeld => ?_)
  clear hK K eu17 F16 m15
  refine wpAnyH_ready (rs := [47]) (by as_aux_lemma => kernel_rfl) (by simp) ?_
  refine AllReadyH.cons rfl (fun K hK => ?_) AllReadyH.nil
  go_simp
  refine (has_lit _ _ _ A B O3 20 31 20 31 false H.out.h2 (ia.ext F17) m17 rA rB r3 (by omega) (by omega)).mono ?_
  rintro _ u18 ⟨rfl, eu18⟩
  have F18 : Ext W9 u18 := F17.trans eu18
  replace m17 := m17.ext eu18
  refine hK.out _ _ ⟨bx6 (Va.ext F18), bx6 (Vr.ext F18)⟩ (fun hHeld => ?_)
  clear hK K eu18 F17
  refine wpAnyH_take (i := 48) (v := ?_) rfl (by as_aux_lemma => kernel_rfl) (by as_aux_lemma => kernel_rfl) (by as_aux_lemma => kernel_rfl) (fun _ _ _ h => h) (Or.inl ⟨by rfl, ?_⟩) (by assumption) ?_
  rotate_left
  · (intro w hSw; (try dsimp only at hSw); go_simp); (try with_reducible rfl)
  simp only [List.getElem_toArray, List.getElem_cons_zero, List.getElem_cons_succ, Act.put, List.setIfInBounds_toArray, List.set_cons_zero, List.set_cons_succ]
  refine wpAnyH_take (i := 49) (v := ?_) rfl (by as_aux_lemma => kernel_rfl) (by as_aux_lemma => kernel_rfl) (by as_aux_lemma => kernel_rfl) (fun _ _ _ h => h) (Or.inl ⟨by rfl, ?_⟩) (by assumption) ?_
  rotate_left
  · (intro w hSw; (try dsimp only at hSw); go_simp); (try with_reducible rfl)
  simp only [List.getElem_toArray, List.getElem_cons_zero, List.getElem_cons_succ, Act.put, List.setIfInBounds_toArray, List.set_cons_zero, List.set_cons_succ]
  refine wpAnyH_take (i := 50) (v := ?_) rfl (by as_aux_lemma => kernel_rfl) (by as_aux_lemma => kernel_rfl) (by as_aux_lemma => kernel_rfl) (fun _ _ _ h => h) (Or.inl ⟨by rfl, ?_⟩) (by assumption) ?_
  rotate_left
  · (intro w hSw; (try dsimp only at hSw); go_simp); (try with_reducible rfl)
  simp only [List.getElem_toArray, List.getElem_cons_zero, List.getElem_cons_succ, Act.put, List.setIfInBounds_toArray, List.set_cons_zero, List.set_cons_succ]
  refine wpAnyH_take (i := 53) (v := ?_) rfl (by as_aux_lemma => kernel_rfl) (by as_aux_lemma => kernel_rfl) (by as_aux_lemma => kernel_rfl) (fun _ _ _ h => h) (Or.inl ⟨by rfl, ?_⟩) (by assumption) ?_
  rotate_left
  · (intro w hSw; (try dsimp only at hSw); go_simp); (try with_reducible rfl)
  simp only [List.getElem_toArray, List.getElem_cons_zero, List.getElem_cons_succ, Act.put, List.setIfInBounds_toArray, List.set_cons_zero, List.set_cons_succ]
  refine wpAnyH_ready (rs := [51]) (by as_aux_lemma => kernel_rfl) (by simp) ?_
  refine AllReadyH.cons rfl (fun K hK => ?_) AllReadyH.nil
  go_simp
  refine (rof_lit _ (0) _ H.out.o0 (by omega)).mono ?_
  rintro _ u19 ⟨vu19, rfl, m19, eu19⟩
  have F19 : Ext W9 u19 := F18.trans eu19
  refine hK.out _ _ ⟨bx6 (Va.ext F19), bx6 (Vr.ext F19)⟩ (fun hHeld => ?_)
  clear hK K eu19 F18 m17
  refine wpAnyH_ready (rs := [52]) (by as_aux_lemma => kernel_rfl) (by simp) ?_
  refine AllReadyH.cons rfl (fun K hK => ?_) AllReadyH.nil
  go_simp
  refine (ipoint_any _ _ 0 20 31 m19 r0 (by omega) (T.ext F19)).mono ?_
  rintro _ u20 ⟨vu20, rfl, m20, eu20⟩
  have F20 : Ext W9 u20 := F19.trans eu20
  replace m19 := m19.ext eu20
  refine hK.out _ _ ⟨bx6 (Va.ext F20), bx6 (Vr.ext F20)⟩ (fun hHeld => ?_)
  clear hK K eu20 F19
  refine wpAnyH_ready (rs := [54]) (by as_aux_lemma => kernel_rfl) (by simp) ?_
  refine AllReadyH.cons rfl (fun K hK => ?_) AllReadyH.nil
  go_simp
  refine (inside_lit _ _ _ 0 0 A B 20 31 20 31 true H.out.h3 m20 (ia.ext F20) r0 r0 rA rB (by omega) (by omega)).mono ?_
  rintro _ u21 ⟨rfl, eu21⟩
  have F21 : Ext W9 u21 := F20.trans eu21
  replace m20 := m20.ext eu21
  refine hK.out _ _ ⟨bx6 (Va.ext F21), bx6 (Vr.ext F21)⟩ (fun hHeld => ?_)
  clear hK K eu21 F20 m19
  refine wpAnyH_take (i := 55) (v := ?_) rfl (by as_aux_lemma => kernel_rfl) (by as_aux_lemma => kernel_rfl) (by as_aux_lemma => kernel_rfl) (fun _ _ _ h => h) (Or.inl ⟨by rfl, ?_⟩) (by assumption) ?_
  rotate_left
  · (intro w hSw; (try dsimp only at hSw); go_simp); (try with_reducible rfl)
  simp only [List.getElem_toArray, List.getElem_cons_zero, List.getElem_cons_succ, Act.put, List.setIfInBounds_toArray, List.set_cons_zero, List.set_cons_succ]
  refine wpAnyH_take (i := 56) (v := ?_) rfl (by as_aux_lemma => kernel_rfl) (by as_aux_lemma => kernel_rfl) (by as_aux_lemma => kernel_rfl) (fun _ _ _ h => h) (Or.inl ⟨by rfl, ?_⟩) (by assumption) ?_
  rotate_left
  · (intro w hSw; (try dsimp only at hSw); go_simp); (try with_reducible rfl)
  simp only [List.getElem_toArray, List.getElem_cons_zero, List.getElem_cons_succ, Act.put, List.setIfInBounds_toArray, List.set_cons_zero, List.set_cons_succ]
  refine wpAnyH_take (i := 57) (v := ?_) rfl (by as_aux_lemma => kernel_rfl) (by as_aux_lemma => kernel_rfl) (by as_aux_lemma => kernel_rfl) (fun _ _ _ h => h) (Or.inl ⟨by rfl, ?_⟩) (by assumption) ?_
  rotate_left
  · (intro w hSw; (try dsimp only at hSw); go_simp); (try with_reducible rfl)
  simp only [List.getElem_toArray, List.getElem_cons_zero, List.getElem_cons_succ, Act.put, List.setIfInBounds_toArray, List.set_cons_zero, List.set_cons_succ]
  refine wpAnyH_take (i := 58) (v := ?_) rfl (by as_aux_lemma => kernel_rfl) (by as_aux_lemma => kernel_rfl) (by as_aux_lemma => kernel_rfl) (fun _ _ _ h => h) (Or.inl ⟨by rfl, ?_⟩) (by assumption) ?_
  rotate_left
  · (intro w hSw; (try dsimp only at hSw); go_simp); (try with_reducible rfl)
  simp only [List.getElem_toArray, List.getElem_cons_zero, List.getElem_cons_succ, Act.put, List.setIfInBounds_toArray, List.set_cons_zero, List.set_cons_succ]
  refine wpAnyH_ready (rs := [59]) (by as_aux_lemma => kernel_rfl) (by simp) ?_
  refine AllReadyH.cons rfl (fun K hK => ?_) AllReadyH.nil
  go_simp
  refine (iflip_lit _ _ A B C O1 20 31 H.out.f1 H.out.f2 (ia.ext F21) rA rB (by omega) (T.ext F21)).mono ?_
  rintro _ u22 ⟨vu22, rfl, m22, eu22⟩
  have F22 : Ext W9 u22 := F21.trans eu22
  refine hK.out _ _ ⟨bx6 (Va.ext F22), bx6 (Vr.ext F22)⟩ (fun hHeld => ?_)
  clear hK K eu22 F21 m20
  refine wpAnyH_ready (rs := [60]) (by as_aux_lemma => kernel_rfl) (by simp) ?_
  refine AllReadyH.cons rfl (fun K hK => ?_) AllReadyH.nil
  go_simp
  refine (inside_lit _ _ _ A B C O1 20 31 20 31 false H.out.h4 (ia.ext F22) m22 rA rB rC r1 (by omega) (by omega)).mono ?_
  rintro _ u23 ⟨rfl, eu23⟩
  have F23 : Ext W9 u23 := F22.trans eu23
  replace m22 := m22.ext eu23
  refine hK.out _ _ ⟨bx6 (Va.ext F23), bx6 (Vr.ext F23)⟩ (fun hHeld => ?_)
  clear hK K eu23 F22
  refine wpAnyH_take (i := 61) (v := ?_) rfl (by as_aux_lemma => kernel_rfl) (by as_aux_lemma => kernel_rfl) (by as_aux_lemma => kernel_rfl) (fun _ _ _ h => h) (Or.inl ⟨by rfl, ?_⟩) (by assumption) ?_
  rotate_left
  · (intro w hSw; (try dsimp only at hSw); go_simp); (try with_reducible rfl)
  simp only [List.getElem_toArray, List.getElem_cons_zero, List.getElem_cons_succ, Act.put, List.setIfInBounds_toArray, List.set_cons_zero, List.set_cons_succ]
  refine wpAnyH_take (i := 62) (v := ?_) rfl (by as_aux_lemma => kernel_rfl) (by as_aux_lemma => kernel_rfl) (by as_aux_lemma => kernel_rfl) (fun _ _ _ h => h) (Or.inl ⟨by rfl, ?_⟩) (by assumption) ?_
  rotate_left
  · (intro w hSw; (try dsimp only at hSw); go_simp); (try with_reducible rfl)
  simp only [List.getElem_toArray, List.getElem_cons_zero, List.getElem_cons_succ, Act.put, List.setIfInBounds_toArray, List.set_cons_zero, List.set_cons_succ]
  refine wpAnyH_take (i := 63) (v := ?_) rfl (by as_aux_lemma => kernel_rfl) (by as_aux_lemma => kernel_rfl) (by as_aux_lemma => kernel_rfl) (fun _ _ _ h => h) (Or.inl ⟨by rfl, ?_⟩) (by assumption) ?_
  rotate_left
  · (intro w hSw; (try dsimp only at hSw); go_simp); (try with_reducible rfl)
  simp only [List.getElem_toArray, List.getElem_cons_zero, List.getElem_cons_succ, Act.put, List.setIfInBounds_toArray, List.set_cons_zero, List.set_cons_succ]
  refine wpAnyH_take (i := 64) (v := ?_) rfl (by as_aux_lemma => kernel_rfl) (by as_aux_lemma => kernel_rfl) (by as_aux_lemma => kernel_rfl) (fun _ _ _ h => h) (Or.inl ⟨by rfl, ?_⟩) (by assumption) ?_
  rotate_left
  · (intro w hSw; (try dsimp only at hSw); go_simp); (try with_reducible rfl)
  simp only [List.getElem_toArray, List.getElem_cons_zero, List.getElem_cons_succ, Act.put, List.setIfInBounds_toArray, List.set_cons_zero, List.set_cons_succ]
  refine wpAnyH_ready (rs := [65]) (by as_aux_lemma => kernel_rfl) (by simp) ?_
  refine AllReadyH.cons rfl (fun K hK => ?_) AllReadyH.nil
  go_simp
  refine (iwide_lit _ _ A B O3 20 31 H.out.w1 (ia.ext F23) rA rB (by omega) (T.ext F23)).mono ?_
  rintro _ u24 ⟨vu24, rfl, m24, eu24⟩
  have F24 : Ext W9 u24 := F23.trans eu24
  refine hK.out _ _ ⟨bx6 (Va.ext F24), bx6 (Vr.ext F24)⟩ (fun hHeld => ?_)
  clear hK K eu24 F23 m22
  refine wpAnyH_ready (rs := [66]) (by as_aux_lemma => kernel_rfl) (by simp) ?_
  refine AllReadyH.cons rfl (fun K hK => ?_) AllReadyH.nil
  go_simp
  refine (rof_lit _ (3) _ H.out.o3 (by omega)).mono ?_
  rintro _ u25 ⟨vu25, rfl, m25, eu25⟩
  have F25 : Ext W9 u25 := F24.trans eu25
  replace m24 := m24.ext eu25
  refine hK.out _ _ ⟨bx6 (Va.ext F25), bx6 (Vr.ext F25)⟩ (fun hHeld => ?_)
  clear hK K eu25 F24
  refine wpAnyH_ready (rs := [67]) (by as_aux_lemma => kernel_rfl) (by simp) ?_
  refine AllReadyH.cons rfl (fun K hK => ?_) AllReadyH.nil
  go_simp
  refine (rsameD_eq _ _ _ O3 m24 m25).mono ?_
  rintro _ u26 ⟨rfl, eu26⟩
  have F26 : Ext W9 u26 := F25.trans eu26
  replace m24 := m24.ext eu26
  replace m25 := m25.ext eu26
  refine hK.out _ _ ⟨bx6 (Va.ext F26), bx6 (Vr.ext F26)⟩ (fun hHeld => ?_)
  clear hK K eu26 F25
  refine wpAnyH_take (i := 68) (v := ?_) rfl (by as_aux_lemma => kernel_rfl) (by as_aux_lemma => kernel_rfl) (by as_aux_lemma => kernel_rfl) (fun _ _ _ h => h) (Or.inl ⟨by rfl, ?_⟩) (by assumption) ?_
  rotate_left
  · (intro w hSw; (try dsimp only at hSw); go_simp); (try with_reducible rfl)
  simp only [List.getElem_toArray, List.getElem_cons_zero, List.getElem_cons_succ, Act.put, List.setIfInBounds_toArray, List.set_cons_zero, List.set_cons_succ]
  refine wpAnyH_take (i := 69) (v := ?_) rfl (by as_aux_lemma => kernel_rfl) (by as_aux_lemma => kernel_rfl) (by as_aux_lemma => kernel_rfl) (fun _ _ _ h => h) (Or.inl ⟨by rfl, ?_⟩) (by assumption) ?_
  rotate_left
  · (intro w hSw; (try dsimp only at hSw); go_simp); (try with_reducible rfl)
  simp only [List.getElem_toArray, List.getElem_cons_zero, List.getElem_cons_succ, Act.put, List.setIfInBounds_toArray, List.set_cons_zero, List.set_cons_succ]
  refine wpAnyH_take (i := 70) (v := ?_) rfl (by as_aux_lemma => kernel_rfl) (by as_aux_lemma => kernel_rfl) (by as_aux_lemma => kernel_rfl) (fun _ _ _ h => h) (Or.inl ⟨by rfl, ?_⟩) (by assumption) ?_
  rotate_left
  · (intro w hSw; (try dsimp only at hSw); go_simp); (try with_reducible rfl)
  simp only [List.getElem_toArray, List.getElem_cons_zero, List.getElem_cons_succ, Act.put, List.setIfInBounds_toArray, List.set_cons_zero, List.set_cons_succ]
  refine wpAnyH_ready (rs := [71]) (by as_aux_lemma => kernel_rfl) (by simp) ?_
  refine AllReadyH.cons rfl (fun K hK => ?_) AllReadyH.nil
  go_simp
  refine (iright_lit _ _ A B 20 31 true H.out.r1 (ia.ext F26) rA rB (by omega)).mono ?_
  rintro _ u27 ⟨rfl, eu27⟩
  have F27 : Ext W9 u27 := F26.trans eu27
  refine hK.out _ _ ⟨bx6 (Va.ext F27), bx6 (Vr.ext F27)⟩ (fun hHeld => ?_)
  clear hK K eu27 F26 m24 m25
  refine wpAnyH_take (i := 72) (v := ?_) rfl (by as_aux_lemma => kernel_rfl) (by as_aux_lemma => kernel_rfl) (by as_aux_lemma => kernel_rfl) (fun _ _ _ h => h) (Or.inl ⟨by rfl, ?_⟩) (by assumption) ?_
  rotate_left
  · (intro w hSw; (try dsimp only at hSw); go_simp); (try with_reducible rfl)
  simp only [List.getElem_toArray, List.getElem_cons_zero, List.getElem_cons_succ, Act.put, List.setIfInBounds_toArray, List.set_cons_zero, List.set_cons_succ]
  refine wpAnyH_take (i := 73) (v := ?_) rfl (by as_aux_lemma => kernel_rfl) (by as_aux_lemma => kernel_rfl) (by as_aux_lemma => kernel_rfl) (fun _ _ _ h => h) (Or.inl ⟨by rfl, ?_⟩) (by assumption) ?_
  rotate_left
  · (intro w hSw; (try dsimp only at hSw); go_simp); (try with_reducible rfl)
  simp only [List.getElem_toArray, List.getElem_cons_zero, List.getElem_cons_succ, Act.put, List.setIfInBounds_toArray, List.set_cons_zero, List.set_cons_succ]
  refine wpAnyH_ready (rs := [74]) (by as_aux_lemma => kernel_rfl) (by simp) ?_
  refine AllReadyH.cons rfl (fun K hK => ?_) AllReadyH.nil
  go_simp
  refine (rof_lit _ (1) _ H.out.o1 (by omega)).mono ?_
  rintro _ u28 ⟨vu28, rfl, m28, eu28⟩
  have F28 : Ext W9 u28 := F27.trans eu28
  obtain ⟨yu28, Yu28, pu28, qu28, xu28, rfl⟩ := m28.form
  refine hK.out _ _ ⟨bx6 (Va.ext F28), bx6 (Vr.ext F28)⟩ (fun hHeld => ?_)
  clear hK K eu28 F27
  refine wpAnyH_take (i := 75) (v := ?_) rfl (by as_aux_lemma => kernel_rfl) (by as_aux_lemma => kernel_rfl) (by as_aux_lemma => kernel_rfl) (fun _ _ _ h => h) (Or.inl ⟨by rfl, ?_⟩) (by assumption) ?_
  rotate_left
  · (intro w hSw; (try dsimp only at hSw); go_simp); (try with_reducible rfl)
  simp only [List.getElem_toArray, List.getElem_cons_zero, List.getElem_cons_succ, Act.put, List.setIfInBounds_toArray, List.set_cons_zero, List.set_cons_succ]
  refine wpAnyH_ready (rs := [76]) (by as_aux_lemma => kernel_rfl) (by simp) ?_
  refine AllReadyH.cons rfl (fun K hK => ?_) AllReadyH.nil
  go_simp
  refine (iright_lit _ _ O1 0 20 31 false H.out.r2 (In.mk m28 (Dn.zero _)) r1 r0 (by omega)).mono ?_
  rintro _ u29 ⟨rfl, eu29⟩
  have F29 : Ext W9 u29 := F28.trans eu29
  replace m28 := m28.ext eu29
  refine hK.out _ _ ⟨bx6 (Va.ext F29), bx6 (Vr.ext F29)⟩ (fun hHeld => ?_)
  clear hK K eu29 F28
  refine wpAnyH_take (i := 77) (v := ?_) rfl (by as_aux_lemma => kernel_rfl) (by as_aux_lemma => kernel_rfl) (by as_aux_lemma => kernel_rfl) (fun _ _ _ h => h) (Or.inl ⟨by rfl, ?_⟩) (by assumption) ?_
  rotate_left
  · (intro w hSw; (try dsimp only at hSw); go_simp); (try with_reducible rfl)
  simp only [List.getElem_toArray, List.getElem_cons_zero, List.getElem_cons_succ, Act.put, List.setIfInBounds_toArray, List.set_cons_zero, List.set_cons_succ]
  refine wpAnyH_take (i := 78) (v := ?_) rfl (by as_aux_lemma => kernel_rfl) (by as_aux_lemma => kernel_rfl) (by as_aux_lemma => kernel_rfl) (fun _ _ _ h => h) (Or.inl ⟨by rfl, ?_⟩) (by assumption) ?_
  rotate_left
  · (intro w hSw; (try dsimp only at hSw); go_simp); (try with_reducible rfl)
  simp only [List.getElem_toArray, List.getElem_cons_zero, List.getElem_cons_succ, Act.put, List.setIfInBounds_toArray, List.set_cons_zero, List.set_cons_succ]
  refine wpAnyH_take (i := 79) (v := ?_) rfl (by as_aux_lemma => kernel_rfl) (by as_aux_lemma => kernel_rfl) (by as_aux_lemma => kernel_rfl) (fun _ _ _ h => h) (Or.inl ⟨by rfl, ?_⟩) (by assumption) ?_
  rotate_left
  · (intro w hSw; (try dsimp only at hSw); go_simp); (try with_reducible rfl)
  simp only [List.getElem_toArray, List.getElem_cons_zero, List.getElem_cons_succ, Act.put, List.setIfInBounds_toArray, List.set_cons_zero, List.set_cons_succ]
  refine wpAnyH_take (i := 80) (v := ?_) rfl (by as_aux_lemma => kernel_rfl) (by as_aux_lemma => kernel_rfl) (by as_aux_lemma => kernel_rfl) (fun _ _ _ h => h) (Or.inl ⟨by rfl, ?_⟩) (by assumption) ?_
  rotate_left
  · (intro w hSw; (try dsimp only at hSw); go_simp); (try with_reducible rfl)
  simp only [List.getElem_toArray, List.getElem_cons_zero, List.getElem_cons_succ, Act.put, List.setIfInBounds_toArray, List.set_cons_zero, List.set_cons_succ]
  refine wpAnyH_take (i := 82) (v := ?_) rfl (by as_aux_lemma => kernel_rfl) (by as_aux_lemma => kernel_rfl) (by as_aux_lemma => kernel_rfl) (fun _ _ _ h => h) (Or.inl ⟨by rfl, ?_⟩) (by assumption) ?_
  rotate_left
  · (intro w hSw; (try dsimp only at hSw); go_simp); (try with_reducible rfl)
  simp only [List.getElem_toArray, List.getElem_cons_zero, List.getElem_cons_succ, Act.put, List.setIfInBounds_toArray, List.set_cons_zero, List.set_cons_succ]
  refine wpAnyH_take (i := 83) (v := ?_) rfl (by as_aux_lemma => kernel_rfl) (by as_aux_lemma => kernel_rfl) (by as_aux_lemma => kernel_rfl) (fun _ _ _ h => h) (Or.inl ⟨by rfl, ?_⟩) (by assumption) ?_
  rotate_left
  · (intro w hSw; (try dsimp only at hSw); go_simp); (try with_reducible rfl)
  simp only [List.getElem_toArray, List.getElem_cons_zero, List.getElem_cons_succ, Act.put, List.setIfInBounds_toArray, List.set_cons_zero, List.set_cons_succ]
  refine wpAnyH_ready (rs := [81]) (by as_aux_lemma => kernel_rfl) (by simp) ?_
  refine AllReadyH.cons rfl (fun K hK => ?_) AllReadyH.nil
  go_simp
  refine (ishift_lit _ _ A B C D 1 20 31 H.out.s1 H.out.s2 (ia.ext F29) rA rB (by omega) (by omega) (T.ext F29)).mono ?_
  rintro _ u30 ⟨vu30, rfl, m30, eu30⟩
  have F30 : Ext W9 u30 := F29.trans eu30
  refine hK.out _ _ ⟨bx6 (Va.ext F30), bx6 (Vr.ext F30)⟩ (fun hHeld => ?_)
  clear hK K eu30 F29 m28
  refine wpAnyH_ready (rs := [84]) (by as_aux_lemma => kernel_rfl) (by simp) ?_
  refine AllReadyH.cons rfl (fun K hK => ?_) AllReadyH.nil
  go_simp
  refine (iadd_lit _ _ _ A B A B C D 20 31 H.out.a1 H.out.a2 (ia.ext F30) (ia.ext F30) rA rB rA rB (by omega) (T.ext F30)).mono ?_
  rintro _ u31 ⟨vu31, rfl, m31, eu31⟩
  have F31 : Ext W9 u31 := F30.trans eu31
  replace m30 := m30.ext eu31
  refine hK.out _ _ ⟨bx6 (Va.ext F31), bx6 (Vr.ext F31)⟩ (fun hHeld => ?_)
  clear hK K eu31 F30
  refine wpAnyH_ready (rs := [85]) (by as_aux_lemma => kernel_rfl) (by simp) ?_
  refine AllReadyH.cons rfl (fun K hK => ?_) AllReadyH.nil
  go_simp
  refine (risame_eq _ _ _ _ _ _ _ m30 m31 rfl rfl).mono ?_
  rintro _ u32 ⟨rfl, eu32⟩
  have F32 : Ext W9 u32 := F31.trans eu32
  replace m30 := m30.ext eu32
  replace m31 := m31.ext eu32
  refine hK.out _ _ ⟨bx6 (Va.ext F32), bx6 (Vr.ext F32)⟩ (fun hHeld => ?_)
  clear hK K eu32 F31
  refine wpAnyH_take (i := 86) (v := ?_) rfl (by as_aux_lemma => kernel_rfl) (by as_aux_lemma => kernel_rfl) (by as_aux_lemma => kernel_rfl) (fun _ _ _ h => h) (Or.inl ⟨by rfl, ?_⟩) (by assumption) ?_
  rotate_left
  · (intro w hSw; (try dsimp only at hSw); go_simp); (try with_reducible rfl)
  simp only [List.getElem_toArray, List.getElem_cons_zero, List.getElem_cons_succ, Act.put, List.setIfInBounds_toArray, List.set_cons_zero, List.set_cons_succ]
  refine wpAnyH_take (i := 87) (v := ?_) rfl (by as_aux_lemma => kernel_rfl) (by as_aux_lemma => kernel_rfl) (by as_aux_lemma => kernel_rfl) (fun _ _ _ h => h) (Or.inl ⟨by rfl, ?_⟩) (by assumption) ?_
  rotate_left
  · (intro w hSw; (try dsimp only at hSw); go_simp); (try with_reducible rfl)
  simp only [List.getElem_toArray, List.getElem_cons_zero, List.getElem_cons_succ, Act.put, List.setIfInBounds_toArray, List.set_cons_zero, List.set_cons_succ]
  refine wpAnyH_ready (rs := [88]) (by as_aux_lemma => kernel_rfl) (by simp) ?_
  refine AllReadyH.cons rfl (fun K hK => ?_) AllReadyH.nil
  go_simp
  refine (rof_lit _ (5) _ H.out.oF (by omega)).mono ?_
  rintro _ u33 ⟨vu33, rfl, m33, eu33⟩
  have F33 : Ext W9 u33 := F32.trans eu33
  refine hK.out _ _ ⟨bx6 (Va.ext F33), bx6 (Vr.ext F33)⟩ (fun hHeld => ?_)
  clear hK K eu33 F32 m30 m31
  refine wpAnyH_ready (rs := [89]) (by as_aux_lemma => kernel_rfl) (by simp) ?_
  refine AllReadyH.cons rfl (fun K hK => ?_) AllReadyH.nil
  go_simp
  refine (ipoint_any _ _ F 20 31 m33 rF (by omega) (T.ext F33)).mono ?_
  rintro _ u34 ⟨vu34, rfl, m34, eu34⟩
  have F34 : Ext W9 u34 := F33.trans eu34
  replace m33 := m33.ext eu34
  refine hK.out _ _ ⟨bx6 (Va.ext F34), bx6 (Vr.ext F34)⟩ (fun hHeld => ?_)
  clear hK K eu34 F33
  refine wpAnyH_ready (rs := [90]) (by as_aux_lemma => kernel_rfl) (by simp) ?_
  refine AllReadyH.cons rfl (fun K hK => ?_) AllReadyH.nil
  go_simp
  refine (icut_lit _ _ F F D E8 1 1 20 31 (by rfl) H.out.c1 H.out.c2 m34 rF rF (by omega) (by omega) (by omega) (T.ext F34)).mono ?_
  rintro _ u35 ⟨vu35, rfl, m35, eu35⟩
  have F35 : Ext W9 u35 := F34.trans eu35
  replace m34 := m34.ext eu35
  refine hK.out _ _ ⟨bx6 (Va.ext F35), bx6 (Vr.ext F35)⟩ (fun hHeld => ?_)
  clear hK K eu35 F34 m33
  refine wpAnyH_ready (rs := [91]) (by as_aux_lemma => kernel_rfl) (by simp) ?_
  refine AllReadyH.cons rfl (fun K hK => ?_) AllReadyH.nil
  go_simp
  refine (rof_lit _ (4) _ H.out.oD (by omega)).mono ?_
  rintro _ u36 ⟨vu36, rfl, m36, eu36⟩
  have F36 : Ext W9 u36 := F35.trans eu36
  replace m35 := m35.ext eu36
  obtain ⟨yu36, Yu36, pu36, qu36, xu36, rfl⟩ := m36.form
  refine hK.out _ _ ⟨bx6 (Va.ext F36), bx6 (Vr.ext F36)⟩ (fun hHeld => ?_)
  clear hK K eu36 F35 m34
  refine wpAnyH_ready (rs := [92]) (by as_aux_lemma => kernel_rfl) (by simp) ?_
  refine AllReadyH.cons rfl (fun K hK => ?_) AllReadyH.nil
  go_simp
  refine (rof_lit _ (8) _ H.out.o8 (by omega)).mono ?_
  rintro _ u37 ⟨vu37, rfl, m37, eu37⟩
  have F37 : Ext W9 u37 := F36.trans eu37
  replace m35 := m35.ext eu37
  replace m36 := m36.ext eu37
  obtain ⟨yu37, Yu37, pu37, qu37, xu37, rfl⟩ := m37.form
  refine hK.out _ _ ⟨bx6 (Va.ext F37), bx6 (Vr.ext F37)⟩ (fun hHeld => ?_)
  clear hK K eu37 F36
  refine wpAnyH_take (i := 93) (v := ?_) rfl (by as_aux_lemma => kernel_rfl) (by as_aux_lemma => kernel_rfl) (by as_aux_lemma => kernel_rfl) (fun _ _ _ h => h) (Or.inl ⟨by rfl, ?_⟩) (by assumption) ?_
  rotate_left
  · (intro w hSw; (try dsimp only at hSw); go_simp); (try with_reducible rfl)
  simp only [List.getElem_toArray, List.getElem_cons_zero, List.getElem_cons_succ, Act.put, List.setIfInBounds_toArray, List.set_cons_zero, List.set_cons_succ]
  refine wpAnyH_ready (rs := [94]) (by as_aux_lemma => kernel_rfl) (by simp) ?_
  refine AllReadyH.cons rfl (fun K hK => ?_) AllReadyH.nil
  go_simp
  refine (risame_eq _ _ _ _ _ _ _ m35 (In.mk m36 m37) rfl rfl).mono ?_
  rintro _ u38 ⟨rfl, eu38⟩
  have F38 : Ext W9 u38 := F37.trans eu38
  replace m35 := m35.ext eu38
  replace m36 := m36.ext eu38
  replace m37 := m37.ext eu38
  refine hK.out _ _ ⟨bx6 (Va.ext F38), bx6 (Vr.ext F38)⟩ (fun hHeld => ?_)
  clear hK K eu38 F37
  refine wpAnyH_take (i := 95) (v := ?_) rfl (by as_aux_lemma => kernel_rfl) (by as_aux_lemma => kernel_rfl) (by as_aux_lemma => kernel_rfl) (fun _ _ _ h => h) (Or.inl ⟨by rfl, ?_⟩) (by assumption) ?_
  rotate_left
  · (intro w hSw; (try dsimp only at hSw); go_simp); (try with_reducible rfl)
  simp only [List.getElem_toArray, List.getElem_cons_zero, List.getElem_cons_succ, Act.put, List.setIfInBounds_toArray, List.set_cons_zero, List.set_cons_succ]
  refine wpAnyH_take (i := 96) (v := ?_) rfl (by as_aux_lemma => kernel_rfl) (by as_aux_lemma => kernel_rfl) (by as_aux_lemma => kernel_rfl) (fun _ _ _ h => h) (Or.inl ⟨by rfl, ?_⟩) (by assumption) ?_
  rotate_left
  · (intro w hSw; (try dsimp only at hSw); go_simp); (try with_reducible rfl)
  simp only [List.getElem_toArray, List.getElem_cons_zero, List.getElem_cons_succ, Act.put, List.setIfInBounds_toArray, List.set_cons_zero]
  refine wpAnyH_done (by as_aux_lemma => kernel_rfl) ?_ _
  go_wp2
  go_ret
  exact ⟨rfl, (EW9.trans F38)⟩
theorem headI_any (w : World) (T : Tb w) : Calls Tryz.prog 4 #[] w (RetE w (.bool true)) :=
  headI_main w _ _ _ _ _ _ _ _ _ headI_math (rg_lit (-1) 0 (by omega) (by omega)) (rg_lit 2 0 (by omega) (by omega)) (rg_lit (-2) 0 (by omega) (by omega)) (rg_lit 1 0 (by omega) (by omega)) (rg_lit 3 0 (by omega) (by omega)) (rg_lit 5 0 (by omega) (by omega)) (by have := rg_lit 0 0 (by omega) (by omega); rwa [dy_zero] at this) T
end Go.Proofs.YtimdglgianheiaaGreatDoor
