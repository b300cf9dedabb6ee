/- Walks of the document's answers on cosines: Halves. -/
import Derived.Test.YtomdbmjfehoodaaGreatDoorQB
set_option maxRecDepth 8000
namespace Go.Proofs.YtomdbmjfehoodaaGreatDoor
open Go.RowKit
set_option linter.unusedVariables false
set_option linter.unusedSimpArgs false
/-- It returned a list of n halves, in new memory. -/
def RetL (w : World) (n : Nat) (h : Nat → Hf) (e : Ending) (w' : World) : Prop := ∃ v, e = .returned v ∧ Lh w' w.heap.size v n h ∧ Ext w w'
/-- A variable that holds an enclosure between -1 and 1. -/
structure Vu (w : World) (g : Nat) (l u : Dyadic) : Prop where
  out : ∃ (bu : Bool) (Au : Option Addr) (nu cu : Nat) (eu : Int) (bu' : Bool) (Au' : Option Addr) (nu' cu' : Nat) (eu' : Int), Vr w g (.bool bu) (.slice Au nu cu) (.int .i64 eu) (.bool bu') (.slice Au' nu' cu') (.int .i64 eu') ∧ eu ≤ 0 ∧ eu' ≤ 0 ∧ In w (.agg #[.bool bu, .slice Au nu cu, .int .i64 eu, .bool bu', .slice Au' nu' cu', .int .i64 eu']) l u
theorem Vu.ext {w w' : World} {g : Nat} {l u : Dyadic} (h : Vu w g l u) (E : Ext w w') : Vu w' g l u := by
  obtain ⟨bu, Au, nu, cu, eu, bu', Au', nu', cu', eu', V, a, b, i⟩ := h.out
  exact ⟨_, _, _, _, _, _, _, _, _, _, V.ext E, a, b, i.ext E⟩
theorem Vu.sv {base g : Nat} {w w' : World} {l u : Dyadic} (h : Vu w g l u) (s : Sv base w w') (hg : g < base) : Vu w' g l u := by
  obtain ⟨bu, Au, nu, cu, eu, bu', Au', nu', cu', eu', V, a, b, i⟩ := h.out
  exact ⟨_, _, _, _, _, _, _, _, _, _, V.go (s.blk g hg), a, b, s.in i⟩
theorem Vu.other {w : World} {g g' : Nat} {l u : Dyadic} {x y z x' y' z' : Value} (h : Vu w g l u) (V : Vr w g' x y z x' y' z') (hg : g ≠ g') (a b c a' b' c' : Value) : Vu (set6 w g' a b c a' b' c') g l u := by
  obtain ⟨bu, Au, nu, cu, eu, bu', Au', nu', cu', eu', V2, h1, h2, i⟩ := h.out
  exact ⟨_, _, _, _, _, _, _, _, _, _, V2.other hg, h1, h2, V.off i _ _ _ _ _ _⟩
theorem Vu.put {w : World} {g : Nat} {l u : Dyadic} {x y z x' y' z' : Value} (V : Vr w g x y z x' y' z') (bu : Bool) (Au : Option Addr) (nu cu : Nat) (eu : Int) (bu' : Bool) (Au' : Option Addr) (nu' cu' : Nat) (eu' : Int) (h1 : eu ≤ 0) (h2 : eu' ≤ 0) (i : In w (.agg #[.bool bu, .slice Au nu cu, .int .i64 eu, .bool bu', .slice Au' nu' cu', .int .i64 eu']) l u) : Vu (set6 w g (.bool bu) (.slice Au nu cu) (.int .i64 eu) (.bool bu') (.slice Au' nu' cu') (.int .i64 eu')) g l u :=
  ⟨_, _, _, _, _, _, _, _, _, _, V.set _ _ _ _ _ _ _ _ _ _ h1 h2, h1, h2, V.off i _ _ _ _ _ _⟩
/-- What holds at the head of the loop. -/
structure Hx (w : World) (base g1 gc gs k : Nat) (W : World) (o : Value) (j : Nat) : Prop where
  one : ∃ x y z x' y' z', Bx W g1 x y z x' y' z' ∧ In W (.agg #[x, y, z, x', y', z']) 1 1
  c : Vu W gc (hs k j).c1 (hs k j).c2
  s : Vu W gs (hs k j).s1 (hs k j).s2
  l : Lh W base o j (hs k)
  ext : Ext w W
  n1 : w.heap.size ≤ g1
  n2 : g1 < gc
  n3 : gc < gs
  n4 : gs < base
  n5 : base ≤ W.heap.size
theorem vr6 {w : World} {g : Nat} {x y z x' y' z' : Value} (h : Vr w g x y z x' y' z') : w.cell? ⟨g, 0, none⟩ = some x ∧ w.cell? ⟨g, 1, none⟩ = some y ∧ w.cell? ⟨g, 2, none⟩ = some z ∧ w.cell? ⟨g, 3, none⟩ = some x' ∧ w.cell? ⟨g, 4, none⟩ = some y' ∧ w.cell? ⟨g, 5, none⟩ = some z' := bx6 h.bx
theorem Lh.base {w : World} {a b n : Nat} {v : Value} {h : Nat → Hf} (L : Lh w b v n h) (hab : a ≤ b) : Lh w a v n h := by
  rcases L.out with k | ⟨g, cap, cur, rfl, hb, hg, hn, hm, hs, hl, he⟩
  · exact ⟨.inl k⟩
  · exact ⟨.inr ⟨g, cap, cur, rfl, by omega, hg, hn, hm, hs, hl, he⟩⟩
theorem Lh.size {w : World} {b n : Nat} {v : Value} {h : Nat → Hf} (L : Lh w b v n h) (hn : n ≠ 0) : b ≤ w.heap.size := by
  rcases L.out with ⟨k, _⟩ | ⟨g, cap, cur, rfl, hb, hg, _⟩
  · exact absurd k hn
  · have := (Array.getElem?_eq_some_iff.1 hg).1
    omega
theorem rpt_one (w : World) (v : Value) (d : Dyadic) (h : Dn w v d) : Calls Tryz.prog 38 #[v] w (RetI w d d) := by
  obtain ⟨b, A, n, c, e, rfl⟩ := h.form
  exact (rpoint_form w b A n c e).mono fun _ w' ⟨he, E⟩ => ⟨_, he, In.mk (h.ext E) (h.ext E), E⟩
set_option maxRecDepth 20000 in
set_option maxHeartbeats 4000000 in
theorem rhalves_any (w : World) (q k : Nat) (qi ki : Int) (hqi : qi = (q : Int)) (hki : ki = (k : Int)) (q3 : 3 ≤ q) (q14 : q ≤ 14) (hk : 2 ≤ k) (hk2 : k ≤ 300) :
    Calls Tryz.prog 84 #[.int .i64 qi, .int .i64 ki] w (RetL w (q - 2) (hs k)) := by
  have hall := hs_all hk
  have p1 : (0 : Dyadic) ≤ dy 1 (-1) := by have := eps_pos 1; rw [half_eps1]; grind
  have p2 : dy 1 (-1) ≤ (1 : Dyadic) := by have := eps_mono (show 0 ≤ 1 by omega); rw [eps_zero] at this; rw [half_eps1]; exact this
  have rg : Rg 1 1 (dy 1 (-1)) := rg_unit (n := 1) (z := 1) (by show -1 ≤ dy 1 (-1); grind) p2
  have HR := Lib.hid (fun (w' : World) (v : Value) (h : In w' v (dy 1 (-1)) (dy 1 (-1))) => (show Calls Tryz.prog 112 #[v, .int .i64 ki] w' (RetIB w' (hs k 0).c1 (hs k 0).c2 true) from riroot_yes w' v _ _ ki k 1 1 hki h p1 p1 rg rg (by omega) (by omega) hk2))
  have HC := Lib.hid (fun (j : Nat) (w' : World) (v : Value) (h : In w' v ((1 + (hs k j).c1) * dy 1 (-1)) ((1 + (hs k j).c2) * dy 1 (-1))) => (show Calls Tryz.prog 112 #[v, .int .i64 ki] w' (RetIB w' (hs k (j + 1)).c1 (hs k (j + 1)).c2 true) from riroot_yes w' v _ _ ki k (k + k + 4 + 1) 1 hki h (half_nn (by have := (hall j).c0; grind)) (half_nn (by have := (hall j).c0; have := (hall j).ec.le; grind)) (half_rg (hall j).r1) (half_rg (hall j).r2) (by omega) (by omega) hk2))
  have HS := Lib.hid (fun (j : Nat) (w' : World) (v : Value) (h : In w' v ((1 + -(hs k j).c2) * dy 1 (-1)) ((1 + -(hs k j).c1) * dy 1 (-1))) => (show Calls Tryz.prog 112 #[v, .int .i64 ki] w' (RetIB w' (hs k (j + 1)).s1 (hs k (j + 1)).s2 true) from riroot_yes w' v _ _ ki k (k + k + 4 + 1) 1 hki h (half_nn (by have := (hall j).cu; grind)) (half_nn (by have := (hall j).cu; have := (hall j).ec.le; grind)) (half_rg (hall j).r2.neg) (half_rg (hall j).r1.neg) (by omega) (by omega) hk2))
  have HU := Lib.hid (fun j => And.intro (And.intro (show -1 ≤ (hs k j).c1 by have := (hall j).c0; grind) (And.intro (hall j).ec.le (hall j).cu)) (And.intro (show -1 ≤ (hs k j).s1 by have := (hall j).s0; grind) (And.intro (hall j).es.le (hall j).su)))
  have HG := Lib.hid (fun j => And.intro (hall j).r1 (hall j).r2)
  clear hall p1 p2 hki hk
  subst hqi
  go_enter Tryz.func84, Tryz.ntmps84
  go_wp2_with fail
  refine (rof_lit _ 1 1 rfl (by omega)).mono ?_
  rintro _ w1 ⟨v1, rfl, n1, f1⟩
  have e1 : Ext w w1 := (Ext.refl w).trans f1
  have E1 : Ext w w1 := e1
  clear f1
  go_wp2_with fail
  refine (rpt_one _ _ 1 n1).mono ?_
  rintro _ w2 ⟨v2, rfl, i1, f2⟩
  have e2 : Ext w1 w2 := (Ext.refl w1).trans f2
  replace n1 := n1.ext e2
  have E2 : Ext w w2 := E1.trans e2
  clear e2 f2 E1
  have hx0 : w.heap.size ≤ w2.heap.size := E2.size
  obtain ⟨bo, Ao, no, co, eo, bo', Ao', no', co', eo', rfl⟩ := i1.form
  clear n1
  go_upto_region 2 with fail
  have eW2 : Ext w2 (w2.alloc (.cells #[.bool bo, .slice Ao no co, .int .i64 eo, .bool bo', .slice Ao' no' co', .int .i64 eo'] 33)) := ((Ext.refl w2).alloc _)
  have B1 : Bx (w2.alloc (.cells #[.bool bo, .slice Ao no co, .int .i64 eo, .bool bo', .slice Ao' no' co', .int .i64 eo'] 33)) (w2.heap.size) (.bool bo) (.slice Ao no co) (.int .i64 eo) (.bool bo') (.slice Ao' no' co') (.int .i64 eo') := Bx.at (Ext.refl _) (by simp)
  replace i1 := i1.ext eW2
  have EW2 := E2.trans eW2
  clear eW2 E2
  generalize hgen : (w2.alloc (.cells #[.bool bo, .slice Ao no co, .int .i64 eo, .bool bo', .slice Ao' no' co', .int .i64 eo'] 33)) = W2 at *
  clear hgen
  go_wp2_with fail
  have nl : Dn (W2.alloc (.cells #[.int .i64 1] 3)) (.agg #[.bool false, .slice (some ⟨W2.heap.size, 0, none⟩) 1 1, .int .i64 (-1)]) (dy 1 (-1)) := lit_dn W2 1 (-1) 1 false 3 (by omega) (by omega) (by omega) (by rfl)
  refine (rpt_one _ _ (dy 1 (-1)) nl).mono ?_
  rintro _ w5 ⟨v5, rfl, i5, e5⟩
  clear nl
  have e6 : Ext W2 w5 := ((Ext.refl _).alloc _).trans e5
  clear e5
  replace i1 := i1.ext e6
  replace B1 := B1.ext e6
  have E5 := EW2.trans e6
  clear e6 EW2
  go_wp2_with fail
  refine (HR.out _ _ i5).mono ?_
  rintro _ w7 ⟨v7, rfl, i7, e7⟩
  clear i5
  replace i1 := i1.ext e7
  replace B1 := B1.ext e7
  have E7 := E5.trans e7
  clear e7 E5
  obtain ⟨⟨u1, u2, u3⟩, _⟩ := HU.out 0
  obtain ⟨bc, Ac, nc, cc, ec, bc', Ac', nc', cc', ec', rfl, y1, y2⟩ := i7.unit u1 u2 u3
  clear u1 u2 u3
  have hx2 : w2.heap.size < w7.heap.size := World.block_lt_of_cell? _ _ B1.c0
  go_upto_region 4 with fail
  have Vc : Vr ((w7.alloc (.cells #[.bool bc, .slice Ac nc cc, .int .i64 ec, .bool bc', .slice Ac' nc' cc', .int .i64 ec'] 33)).alloc (.cells #[.bool bc, .slice Ac nc cc, .int .i64 ec, .bool bc', .slice Ac' nc' cc', .int .i64 ec'] 33)) w7.heap.size (.bool bc) (.slice Ac nc cc) (.int .i64 ec) (.bool bc') (.slice Ac' nc' cc') (.int .i64 ec') := (Vr.new w7 _ _ _ _ _ _ _ _ _ _ y1 y2 _).ext ((Ext.refl _).alloc _)
  have Vs : Vr ((w7.alloc (.cells #[.bool bc, .slice Ac nc cc, .int .i64 ec, .bool bc', .slice Ac' nc' cc', .int .i64 ec'] 33)).alloc (.cells #[.bool bc, .slice Ac nc cc, .int .i64 ec, .bool bc', .slice Ac' nc' cc', .int .i64 ec'] 33)) (w7.heap.size + 1) (.bool bc) (.slice Ac nc cc) (.int .i64 ec) (.bool bc') (.slice Ac' nc' cc') (.int .i64 ec') := Vr.at y1 y2 (Ext.refl _) (by simp)
  have e8 : Ext w7 ((w7.alloc (.cells #[.bool bc, .slice Ac nc cc, .int .i64 ec, .bool bc', .slice Ac' nc' cc', .int .i64 ec'] 33)).alloc (.cells #[.bool bc, .slice Ac nc cc, .int .i64 ec, .bool bc', .slice Ac' nc' cc', .int .i64 ec'] 33)) := ((Ext.refl _).alloc _).alloc _
  replace i1 := i1.ext e8
  replace B1 := B1.ext e8
  replace i7 := i7.ext e8
  have E8 := E7.trans e8
  have hsz : ((w7.alloc (.cells #[.bool bc, .slice Ac nc cc, .int .i64 ec, .bool bc', .slice Ac' nc' cc', .int .i64 ec'] 33)).alloc (.cells #[.bool bc, .slice Ac nc cc, .int .i64 ec, .bool bc', .slice Ac' nc' cc', .int .i64 ec'] 33)).heap.size = w7.heap.size + 1 + 1 := by simp
  clear e8 E7
  generalize hgen : ((w7.alloc (.cells #[.bool bc, .slice Ac nc cc, .int .i64 ec, .bool bc', .slice Ac' nc' cc', .int .i64 ec'] 33)).alloc (.cells #[.bool bc, .slice Ac nc cc, .int .i64 ec, .bool bc', .slice Ac' nc' cc', .int .i64 ec'] 33)) = W8 at *
  clear hgen
  have H0 : Hx w (w7.heap.size + 1 + 1) (w2.heap.size) w7.heap.size (w7.heap.size + 1) k W8 (.slice none 0 0) 0 := ⟨⟨_, _, _, _, _, _, B1, i1⟩, ⟨_, _, _, _, _, _, _, _, _, _, Vc, y1, y2, i7⟩, ⟨_, _, _, _, _, _, _, _, _, _, Vs, y1, y2, i7⟩, Lh.nil _ _ _, E8, hx0, hx2, by omega, by omega, by omega⟩
  clear B1 i1 Vc Vs i7 E8 y1 y2
  generalize hgb : w7.heap.size + 1 + 1 = base at *
  generalize hgs : w7.heap.size + 1 = gs at *
  generalize hgc : w7.heap.size = gc at *
  generalize hg1 : w2.heap.size = g1 at *
  go_wp2
  go_loopw [9, 10] (fun o i wr => ∃ j kk : Nat, kk = j + 3 ∧ kk ≤ q ∧ i = .int .i64 (kk : Int) ∧ Hx w base g1 gc gs k wr o j) (fun o i _ => (q + 1 - (intOf i)).toNat)
  case atStart => exact ⟨0, 3, rfl, q3, by go_num, H0⟩
  case round =>
    clear H0
    obtain ⟨j, kk, hkk, hle, rfl, H⟩ := hrel
    have HQ := Lib.hid hkk
    obtain ⟨o0, o1, o2, o3, o4, o5, B1, i1⟩ := H.one
    obtain ⟨bc, Ac, nc, cc, ec, bc', Ac', nc', cc', ec', Vc, y1, y2, ic⟩ := H.c.out
    obtain ⟨bs, As, ns, cs, es, bs', As', ns', cs', es', Vs, z1, z2, is⟩ := H.s.out
    have Ls := H.l
    have n1 := H.n1
    have n2 := H.n2
    have n3 := H.n3
    have n4 := H.n4
    have n5 := H.n5
    have hle1 : (kk : Int) ≤ (q : Int) := by omega
    have hvc := H.c
    have hvs := H.s
    have hj20 : j ≤ 20 := by omega
    clear hkk
    have Ee := H.ext
    clear H
    have lc := World.block_lt_of_cell? _ _ Vc.c0
    have ls := World.block_lt_of_cell? _ _ Vs.c0
    have q0 := Vc.c0; have q1 := Vc.c1; have q2 := Vc.c2; have q3_ := Vc.c3; have q4 := Vc.c4; have q5 := Vc.c5
    have r0 := Vs.c0; have r1 := Vs.c1; have r2 := Vs.c2; have r3 := Vs.c3; have r4 := Vs.c4; have r5 := Vs.c5
    go_upto_region 8 with fail
    go_upto_region 9 with (at_builtin; refine wpList_app_half _ rfl _ _ rfl base j wr.heap.size _ (hs k) rfl rfl (Ls.ext ((Ext.refl wr).alloc _)) (by omega) (by simp; omega) _ _ _ _ _ _ _ _ _ _ _ _ (at_new wr 113 (.bool bc) (.slice Ac nc cc) (.int .i64 ec) (.bool bc') (.slice Ac' nc' cc') (.int .i64 ec') (.bool bs) (.slice As ns cs) (.int .i64 es) (.bool bs') (.slice As' ns' cs') (.int .i64 es')) (low12 y1 y2 z1 z2) one12 (ic.ext ((Ext.refl wr).alloc _)) (is.ext ((Ext.refl wr).alloc _)) ?_; intro vo WA LA SA)
    have hA : Ext wr (wr.alloc (.cells #[.bool bc, .slice Ac nc cc, .int .i64 ec, .bool bc', .slice Ac' nc' cc', .int .i64 ec', .bool bs, .slice As ns cs, .int .i64 es, .bool bs', .slice As' ns' cs', .int .i64 es'] 113)) := (Ext.refl _).alloc _
    have B1A : Bx WA g1 o0 o1 o2 o3 o4 o5 := (B1.ext hA).go (SA.blk g1 (by omega))
    have i1A := SA.in (i1.ext hA)
    have hcA := (hvc.ext hA).sv SA (by omega)
    have hsA := (hvs.ext hA).sv SA (by omega)
    have EA : Ext w WA := SA.old w (Ee.trans hA) (by omega)
    have n5A : base ≤ WA.heap.size := by have h1 := SA.size; have h2 := hA.size; omega
    clear q0 q1 q2 q3_ q4 q5 r0 r1 r2 r3 r4 r5 lc ls Vc Vs ic is y1 y2 z1 z2 B1 i1 hvc hvs Ee Ls hA SA n5
    obtain ⟨bc, Ac, nc, cc, ec, bc', Ac', nc', cc', ec', Vc, y1, y2, ic⟩ := hcA.out
    obtain ⟨bs, As, ns, cs, es, bs', As', ns', cs', es', Vs, z1, z2, is⟩ := hsA.out
    clear hcA hsA
    by_cases hkq : kk = q
    · have d : ((kk : Int) == (q : Int)) = true := by subst hkq; exact beq_self_eq_true _
      have hj : j + 1 = q - 2 := by have := HQ.out; omega
      rw [hj] at LA
      have LR := LA.base (a := w.heap.size) (by omega)
      go_wp2
      go_ret
      exact ⟨vo, rfl, LR, EA⟩
    · have d : ((kk : Int) == (q : Int)) = false := beq_eq_false_iff_ne.2 (by omega)
      obtain ⟨B1A_0, B1A_1, B1A_2, B1A_3, B1A_4, B1A_5⟩ := _root_.id B1A
      have B1A_l := World.block_lt_of_cell? _ _ B1A_0
      obtain ⟨Vc_0, Vc_1, Vc_2, Vc_3, Vc_4, Vc_5⟩ := _root_.id Vc
      have Vc_l := World.block_lt_of_cell? _ _ Vc_0
      go_wp2_with fail
      refine (riadd_any _ _ _ 1 1 (hs k j).c1 (hs k j).c2 (k + k + 4) 1 i1A ic (rg_one _) (rg_one _) (HG.out j).1 (HG.out j).2 (by omega)).mono ?_
      rintro _ w31 ⟨v31, rfl, ia, f31⟩
      clear B1A_0 B1A_1 B1A_2 B1A_3 B1A_4 B1A_5 B1A_l Vc_0 Vc_1 Vc_2 Vc_3 Vc_4 Vc_5 Vc_l
      have e31 : Ext WA w31 := (Ext.refl WA).trans f31
      replace i1A := i1A.ext e31
      replace ic := ic.ext e31
      replace is := is.ext e31
      replace LA := LA.ext e31
      replace B1A := B1A.ext e31
      replace Vc := Vc.ext e31
      replace Vs := Vs.ext e31
      have E31 : Ext w w31 := EA.trans e31
      clear e31 f31 EA
      go_wp2_with fail
      refine (rishift_any _ _ (1 + (hs k j).c1) (1 + (hs k j).c2) (-1) (k + k + 4) (1 + 1) ia ((rg_one _).add (HG.out j).1) ((rg_one _).add (HG.out j).2) (by omega) (by omega)).mono ?_
      rintro _ w32 ⟨v32, rfl, ih, f32⟩
      have e32 : Ext w31 w32 := (Ext.refl w31).trans f32
      replace i1A := i1A.ext e32
      replace ic := ic.ext e32
      replace is := is.ext e32
      replace LA := LA.ext e32
      replace ia := ia.ext e32
      replace B1A := B1A.ext e32
      replace Vc := Vc.ext e32
      replace Vs := Vs.ext e32
      have E32 : Ext w w32 := E31.trans e32
      clear e32 f32 E31
      obtain ⟨bh, Ah, nh, ch, eh, bh', Ah', nh', ch', eh', rfl⟩ := ih.form
      clear ia
      go_upto_region 12 with fail
      have eWB : Ext w32 (w32.alloc (.cells #[.bool bh, .slice Ah nh ch, .int .i64 eh, .bool bh', .slice Ah' nh' ch', .int .i64 eh'] 33)) := ((Ext.refl w32).alloc _)
      have Bh : Bx (w32.alloc (.cells #[.bool bh, .slice Ah nh ch, .int .i64 eh, .bool bh', .slice Ah' nh' ch', .int .i64 eh'] 33)) (w32.heap.size) (.bool bh) (.slice Ah nh ch) (.int .i64 eh) (.bool bh') (.slice Ah' nh' ch') (.int .i64 eh') := Bx.at (Ext.refl _) (by simp)
      replace i1A := i1A.ext eWB
      replace ic := ic.ext eWB
      replace is := is.ext eWB
      replace LA := LA.ext eWB
      replace ih := ih.ext eWB
      replace B1A := B1A.ext eWB
      replace Vc := Vc.ext eWB
      replace Vs := Vs.ext eWB
      have EWB := E32.trans eWB
      clear eWB E32
      generalize hgen : (w32.alloc (.cells #[.bool bh, .slice Ah nh ch, .int .i64 eh, .bool bh', .slice Ah' nh' ch', .int .i64 eh'] 33)) = WB at *
      clear hgen
      have lcB := World.block_lt_of_cell? _ _ Vc.c0
      obtain ⟨B1A_0, B1A_1, B1A_2, B1A_3, B1A_4, B1A_5⟩ := _root_.id B1A
      have B1A_l := World.block_lt_of_cell? _ _ B1A_0
      obtain ⟨Vc_0, Vc_1, Vc_2, Vc_3, Vc_4, Vc_5⟩ := _root_.id Vc
      have Vc_l := World.block_lt_of_cell? _ _ Vc_0
      go_cut [12] from 24 to 59 (fun p12 wx => ∃ (g : Nat) (bl : Bool) (Al : Option Addr) (nl cl : Nat) (el : Int) (bl' : Bool) (Al' : Option Addr) (nl' cl' : Nat) (el' : Int), p12 = .pointer (some ⟨g, 0, none⟩) ∧ Bx wx g (.bool bl) (.slice Al nl cl) (.int .i64 el) (.bool bl') (.slice Al' nl' cl') (.int .i64 el') ∧ In wx (.agg #[.bool bl, .slice Al nl cl, .int .i64 el, .bool bl', .slice Al' nl' cl', .int .i64 el']) ((1 + -(hs k j).c2) * dy 1 (-1)) ((1 + -(hs k j).c1) * dy 1 (-1)) ∧ Ext WB wx ∧ WB.heap.size ≤ g)
      case first =>
        refine wp_region_held_drew (S := (fun w' => (w'.cell? ⟨g1, 0, none⟩ = some (o0) ∧ w'.cell? ⟨g1, 1, none⟩ = some (o1) ∧ w'.cell? ⟨g1, 2, none⟩ = some (o2) ∧ w'.cell? ⟨g1, 3, none⟩ = some (o3) ∧ w'.cell? ⟨g1, 4, none⟩ = some (o4) ∧ w'.cell? ⟨g1, 5, none⟩ = some (o5)) ∧ (w'.cell? ⟨gc, 0, none⟩ = some (.bool bc) ∧ w'.cell? ⟨gc, 1, none⟩ = some (.slice Ac nc cc) ∧ w'.cell? ⟨gc, 2, none⟩ = some (.int .i64 ec) ∧ w'.cell? ⟨gc, 3, none⟩ = some (.bool bc') ∧ w'.cell? ⟨gc, 4, none⟩ = some (.slice Ac' nc' cc') ∧ w'.cell? ⟨gc, 5, none⟩ = some (.int .i64 ec')))) (by as_aux_lemma => kernel_rfl) ⟨bx6 (B1A.ext (Ext.refl WB).drew), vr6 (Vc.ext (Ext.refl WB).drew)⟩ (fun hHeld => ?_)
        have F0 : Ext WB (World.drew WB) := (Ext.refl _).drew
        generalize hgen : World.drew WB = V0 at *
        clear hgen
        refine wpAnyH_take (i := 0) (v := ?_) rfl (by as_aux_lemma => kernel_rfl) (by as_aux_lemma => kernel_rfl) (by as_aux_lemma => kernel_rfl) (fun _ _ _ h => h) (Or.inl ⟨by rfl, ?_⟩) (by assumption) ?_
        rotate_left
        · (intro w hSw; (try dsimp only at hSw); go_simp); (try with_reducible rfl)
        simp only [List.getElem_toArray, List.getElem_cons_zero, Act.put, List.setIfInBounds_toArray, List.set_cons_zero, List.set_cons_succ]
        refine wpAnyH_take (i := 1) (v := ?_) rfl (by as_aux_lemma => kernel_rfl) (by as_aux_lemma => kernel_rfl) (by as_aux_lemma => kernel_rfl) (fun _ _ _ h => h) (Or.inl ⟨by rfl, ?_⟩) (by assumption) ?_
        rotate_left
        · (intro w hSw; (try dsimp only at hSw); go_simp); (try with_reducible rfl)
        simp only [List.getElem_toArray, List.getElem_cons_zero, List.getElem_cons_succ, Act.put, List.setIfInBounds_toArray, List.set_cons_zero, List.set_cons_succ]
        refine wpAnyH_ready (rs := [2, 5]) (by as_aux_lemma => kernel_rfl) (by simp) ?_
        refine AllReadyH.cons rfl (fun K hK => ?_) (AllReadyH.cons rfl (fun K hK => ?_) AllReadyH.nil)
        · go_simp
          refine (riflip_any _ _ (hs k j).c1 (hs k j).c2 (ic.ext F0)).mono ?_
          rintro _ V1 ⟨vmA, rfl, mA, emA⟩
          have F1 : Ext WB V1 := F0.trans emA
          refine hK.out _ _ ⟨bx6 (B1A.ext F1), vr6 (Vc.ext F1)⟩ (fun hHeld => ?_)
          clear hK K emA
          refine wpAnyH_ready (rs := [3, 5]) (by as_aux_lemma => kernel_rfl) (by simp) ?_
          refine AllReadyH.cons rfl (fun K hK => ?_) (AllReadyH.cons rfl (fun K hK => ?_) AllReadyH.nil)
          · go_simp
            refine (riadd_any _ _ _ 1 1 (-(hs k j).c2) (-(hs k j).c1) (k + k + 4) 1 (i1A.ext F1) mA (rg_one _) (rg_one _) (HG.out j).2.neg (HG.out j).1.neg (by omega)).mono ?_
            rintro _ V2 ⟨vmB, rfl, mB, emB⟩
            have F2 : Ext WB V2 := F1.trans emB
            replace mA := mA.ext emB
            refine hK.out _ _ ⟨bx6 (B1A.ext F2), vr6 (Vc.ext F2)⟩ (fun hHeld => ?_)
            clear hK K emB F1
            refine wpAnyH_ready (rs := [4, 5]) (by as_aux_lemma => kernel_rfl) (by simp) ?_
            refine AllReadyH.cons rfl (fun K hK => ?_) (AllReadyH.cons rfl (fun K hK => ?_) AllReadyH.nil)
            · go_simp
              refine (rishift_any _ _ (1 + -(hs k j).c2) (1 + -(hs k j).c1) (-1) (k + k + 4) (1 + 1) mB ((rg_one _).add (HG.out j).2.neg) ((rg_one _).add (HG.out j).1.neg) (by omega) (by omega)).mono ?_
              rintro _ V3 ⟨vmC, rfl, mC, emC⟩
              have F3 : Ext WB V3 := F2.trans emC
              replace mA := mA.ext emC
              replace mB := mB.ext emC
              obtain ⟨bmC, AmC, lmC, cmC, jmC, bmC', AmC', lmC', cmC', jmC', rfl⟩ := mC.form
              refine hK.out _ _ ⟨bx6 (B1A.ext F3), vr6 (Vc.ext F3)⟩ (fun hHeld => ?_)
              clear hK K emC F2
              refine wpAnyH_ready (rs := [5]) (by as_aux_lemma => kernel_rfl) (by simp) ?_
              refine AllReadyH.cons rfl (fun K hK => ?_) AllReadyH.nil
              go_simp
              have eX : Ext V3 (V3.alloc (.cells #[.bool false, .slice none 0 0, .int .i64 0, .bool false, .slice none 0 0, .int .i64 0] 33)) := (Ext.refl _).alloc _
              have F4 : Ext WB (V3.alloc (.cells #[.bool false, .slice none 0 0, .int .i64 0, .bool false, .slice none 0 0, .int .i64 0] 33)) := F3.trans eX
              refine hK.out _ _ ⟨bx6 (B1A.ext F4), vr6 (Vc.ext F4)⟩ (fun hHeld => ?_)
              clear hK K
              replace mA := mA.ext eX
              replace mB := mB.ext eX
              replace mC := mC.ext eX
              have X : Zi (V3.alloc (.cells #[.bool false, .slice none 0 0, .int .i64 0, .bool false, .slice none 0 0, .int .i64 0] 33)) V3.heap.size := Zi.new _ _
              have lX : WB.heap.size ≤ V3.heap.size := F3.size
              clear eX F3
              generalize hgen : V3.alloc (.cells #[.bool false, .slice none 0 0, .int .i64 0, .bool false, .slice none 0 0, .int .i64 0] 33) = V4 at *
              clear hgen
              generalize hgen : V3.heap.size = gX at *
              clear hgen
              refine wpAnyH_ready (rs := [6]) (by as_aux_lemma => kernel_rfl) (by simp) ?_
              refine AllReadyH.cons rfl (fun K hK => ?_) AllReadyH.nil
              have q0 := X.c0; have q1 := X.c1; have q2 := X.c2; have q3 := X.c3; have q4 := X.c4; have q5 := X.c5; have h0 := X.f 0; have h1 := X.f 1; have h2 := X.f 2; have h3 := X.f 3; have h4 := X.f 4; have h5 := X.f 5
              go_simp
              have F5 : Ext WB (set6 V4 gX (.bool bmC) (.slice AmC lmC cmC) (.int .i64 jmC) (.bool bmC') (.slice AmC' lmC' cmC') (.int .i64 jmC')) := F4.set6 lX
              refine hK.out _ _ ⟨bx6 (B1A.ext F5), vr6 (Vc.ext F5)⟩ (fun hHeld => ?_)
              clear hK K q0 q1 q2 q3 q4 q5 h0 h1 h2 h3 h4 h5
              replace mA := X.off mA (.bool bmC) (.slice AmC lmC cmC) (.int .i64 jmC) (.bool bmC') (.slice AmC' lmC' cmC') (.int .i64 jmC')
              replace mB := X.off mB (.bool bmC) (.slice AmC lmC cmC) (.int .i64 jmC) (.bool bmC') (.slice AmC' lmC' cmC') (.int .i64 jmC')
              replace mC := X.off mC (.bool bmC) (.slice AmC lmC cmC) (.int .i64 jmC) (.bool bmC') (.slice AmC' lmC' cmC') (.int .i64 jmC')
              have BX := X.put (.bool bmC) (.slice AmC lmC cmC) (.int .i64 jmC) (.bool bmC') (.slice AmC' lmC' cmC') (.int .i64 jmC')
              clear X
              obtain ⟨V5, hgen⟩ : ∃ V, (set6 V4 gX (.bool bmC) (.slice AmC lmC cmC) (.int .i64 jmC) (.bool bmC') (.slice AmC' lmC' cmC') (.int .i64 jmC')) = V := ⟨_, rfl⟩
              rw [hgen] at F5 mA mB mC BX
              have hgen2 : ((((((V4.setCell ⟨gX, 0, none⟩ (.bool bmC)).setCell ⟨gX, 1, none⟩ (.slice AmC lmC cmC)).setCell ⟨gX, 2, none⟩ (.int .i64 jmC)).setCell ⟨gX, 3, none⟩ (.bool bmC')).setCell ⟨gX, 4, none⟩ (.slice AmC' lmC' cmC')).setCell ⟨gX, 5, none⟩ (.int .i64 jmC')) = V5 := hgen
              rw [hgen2] at hHeld ⊢
              clear hgen hgen2
              refine wpAnyH_done (by as_aux_lemma => kernel_rfl) ?_ _
              go_wp2_with fail
              go_meet
              case rel => exact ⟨_, _, _, _, _, _, _, _, _, _, _, rfl, BX, mC, F5, lX⟩
            · go_simp
              have eX : Ext V2 (V2.alloc (.cells #[.bool false, .slice none 0 0, .int .i64 0, .bool false, .slice none 0 0, .int .i64 0] 33)) := (Ext.refl _).alloc _
              have F3 : Ext WB (V2.alloc (.cells #[.bool false, .slice none 0 0, .int .i64 0, .bool false, .slice none 0 0, .int .i64 0] 33)) := F2.trans eX
              refine hK.out _ _ ⟨bx6 (B1A.ext F3), vr6 (Vc.ext F3)⟩ (fun hHeld => ?_)
              clear hK K
              replace mA := mA.ext eX
              replace mB := mB.ext eX
              have X : Zi (V2.alloc (.cells #[.bool false, .slice none 0 0, .int .i64 0, .bool false, .slice none 0 0, .int .i64 0] 33)) V2.heap.size := Zi.new _ _
              have lX : WB.heap.size ≤ V2.heap.size := F2.size
              clear eX F2
              generalize hgen : V2.alloc (.cells #[.bool false, .slice none 0 0, .int .i64 0, .bool false, .slice none 0 0, .int .i64 0] 33) = V3 at *
              clear hgen
              generalize hgen : V2.heap.size = gX at *
              clear hgen
              refine wpAnyH_ready (rs := [4]) (by as_aux_lemma => kernel_rfl) (by simp) ?_
              refine AllReadyH.cons rfl (fun K hK => ?_) AllReadyH.nil
              go_simp
              refine (rishift_any _ _ (1 + -(hs k j).c2) (1 + -(hs k j).c1) (-1) (k + k + 4) (1 + 1) mB ((rg_one _).add (HG.out j).2.neg) ((rg_one _).add (HG.out j).1.neg) (by omega) (by omega)).mono ?_
              rintro _ V4 ⟨vmC, rfl, mC, emC⟩
              have F4 : Ext WB V4 := F3.trans emC
              replace mA := mA.ext emC
              replace mB := mB.ext emC
              replace X := X.ext emC
              obtain ⟨bmC, AmC, lmC, cmC, jmC, bmC', AmC', lmC', cmC', jmC', rfl⟩ := mC.form
              refine hK.out _ _ ⟨bx6 (B1A.ext F4), vr6 (Vc.ext F4)⟩ (fun hHeld => ?_)
              clear hK K emC F3
              refine wpAnyH_ready (rs := [6]) (by as_aux_lemma => kernel_rfl) (by simp) ?_
              refine AllReadyH.cons rfl (fun K hK => ?_) AllReadyH.nil
              have q0 := X.c0; have q1 := X.c1; have q2 := X.c2; have q3 := X.c3; have q4 := X.c4; have q5 := X.c5; have h0 := X.f 0; have h1 := X.f 1; have h2 := X.f 2; have h3 := X.f 3; have h4 := X.f 4; have h5 := X.f 5
              go_simp
              have F5 : Ext WB (set6 V4 gX (.bool bmC) (.slice AmC lmC cmC) (.int .i64 jmC) (.bool bmC') (.slice AmC' lmC' cmC') (.int .i64 jmC')) := F4.set6 lX
              refine hK.out _ _ ⟨bx6 (B1A.ext F5), vr6 (Vc.ext F5)⟩ (fun hHeld => ?_)
              clear hK K q0 q1 q2 q3 q4 q5 h0 h1 h2 h3 h4 h5
              replace mA := X.off mA (.bool bmC) (.slice AmC lmC cmC) (.int .i64 jmC) (.bool bmC') (.slice AmC' lmC' cmC') (.int .i64 jmC')
              replace mB := X.off mB (.bool bmC) (.slice AmC lmC cmC) (.int .i64 jmC) (.bool bmC') (.slice AmC' lmC' cmC') (.int .i64 jmC')
              replace mC := X.off mC (.bool bmC) (.slice AmC lmC cmC) (.int .i64 jmC) (.bool bmC') (.slice AmC' lmC' cmC') (.int .i64 jmC')
              have BX := X.put (.bool bmC) (.slice AmC lmC cmC) (.int .i64 jmC) (.bool bmC') (.slice AmC' lmC' cmC') (.int .i64 jmC')
              clear X
              obtain ⟨V5, hgen⟩ : ∃ V, (set6 V4 gX (.bool bmC) (.slice AmC lmC cmC) (.int .i64 jmC) (.bool bmC') (.slice AmC' lmC' cmC') (.int .i64 jmC')) = V := ⟨_, rfl⟩
              rw [hgen] at F5 mA mB mC BX
              have hgen2 : ((((((V4.setCell ⟨gX, 0, none⟩ (.bool bmC)).setCell ⟨gX, 1, none⟩ (.slice AmC lmC cmC)).setCell ⟨gX, 2, none⟩ (.int .i64 jmC)).setCell ⟨gX, 3, none⟩ (.bool bmC')).setCell ⟨gX, 4, none⟩ (.slice AmC' lmC' cmC')).setCell ⟨gX, 5, none⟩ (.int .i64 jmC')) = V5 := hgen
              rw [hgen2] at hHeld ⊢
              clear hgen hgen2
              refine wpAnyH_done (by as_aux_lemma => kernel_rfl) ?_ _
              go_wp2_with fail
              go_meet
              case rel => exact ⟨_, _, _, _, _, _, _, _, _, _, _, rfl, BX, mC, F5, lX⟩
          · go_simp
            have eX : Ext V1 (V1.alloc (.cells #[.bool false, .slice none 0 0, .int .i64 0, .bool false, .slice none 0 0, .int .i64 0] 33)) := (Ext.refl _).alloc _
            have F2 : Ext WB (V1.alloc (.cells #[.bool false, .slice none 0 0, .int .i64 0, .bool false, .slice none 0 0, .int .i64 0] 33)) := F1.trans eX
            refine hK.out _ _ ⟨bx6 (B1A.ext F2), vr6 (Vc.ext F2)⟩ (fun hHeld => ?_)
            clear hK K
            replace mA := mA.ext eX
            have X : Zi (V1.alloc (.cells #[.bool false, .slice none 0 0, .int .i64 0, .bool false, .slice none 0 0, .int .i64 0] 33)) V1.heap.size := Zi.new _ _
            have lX : WB.heap.size ≤ V1.heap.size := F1.size
            clear eX F1
            generalize hgen : V1.alloc (.cells #[.bool false, .slice none 0 0, .int .i64 0, .bool false, .slice none 0 0, .int .i64 0] 33) = V2 at *
            clear hgen
            generalize hgen : V1.heap.size = gX at *
            clear hgen
            refine wpAnyH_ready (rs := [3]) (by as_aux_lemma => kernel_rfl) (by simp) ?_
            refine AllReadyH.cons rfl (fun K hK => ?_) AllReadyH.nil
            go_simp
            refine (riadd_any _ _ _ 1 1 (-(hs k j).c2) (-(hs k j).c1) (k + k + 4) 1 (i1A.ext F2) mA (rg_one _) (rg_one _) (HG.out j).2.neg (HG.out j).1.neg (by omega)).mono ?_
            rintro _ V3 ⟨vmB, rfl, mB, emB⟩
            have F3 : Ext WB V3 := F2.trans emB
            replace mA := mA.ext emB
            replace X := X.ext emB
            refine hK.out _ _ ⟨bx6 (B1A.ext F3), vr6 (Vc.ext F3)⟩ (fun hHeld => ?_)
            clear hK K emB F2
            refine wpAnyH_ready (rs := [4]) (by as_aux_lemma => kernel_rfl) (by simp) ?_
            refine AllReadyH.cons rfl (fun K hK => ?_) AllReadyH.nil
            go_simp
            refine (rishift_any _ _ (1 + -(hs k j).c2) (1 + -(hs k j).c1) (-1) (k + k + 4) (1 + 1) mB ((rg_one _).add (HG.out j).2.neg) ((rg_one _).add (HG.out j).1.neg) (by omega) (by omega)).mono ?_
            rintro _ V4 ⟨vmC, rfl, mC, emC⟩
            have F4 : Ext WB V4 := F3.trans emC
            replace mA := mA.ext emC
            replace mB := mB.ext emC
            replace X := X.ext emC
            obtain ⟨bmC, AmC, lmC, cmC, jmC, bmC', AmC', lmC', cmC', jmC', rfl⟩ := mC.form
            refine hK.out _ _ ⟨bx6 (B1A.ext F4), vr6 (Vc.ext F4)⟩ (fun hHeld => ?_)
            clear hK K emC F3
            refine wpAnyH_ready (rs := [6]) (by as_aux_lemma => kernel_rfl) (by simp) ?_
            refine AllReadyH.cons rfl (fun K hK => ?_) AllReadyH.nil
            have q0 := X.c0; have q1 := X.c1; have q2 := X.c2; have q3 := X.c3; have q4 := X.c4; have q5 := X.c5; have h0 := X.f 0; have h1 := X.f 1; have h2 := X.f 2; have h3 := X.f 3; have h4 := X.f 4; have h5 := X.f 5
            go_simp
            have F5 : Ext WB (set6 V4 gX (.bool bmC) (.slice AmC lmC cmC) (.int .i64 jmC) (.bool bmC') (.slice AmC' lmC' cmC') (.int .i64 jmC')) := F4.set6 lX
            refine hK.out _ _ ⟨bx6 (B1A.ext F5), vr6 (Vc.ext F5)⟩ (fun hHeld => ?_)
            clear hK K q0 q1 q2 q3 q4 q5 h0 h1 h2 h3 h4 h5
            replace mA := X.off mA (.bool bmC) (.slice AmC lmC cmC) (.int .i64 jmC) (.bool bmC') (.slice AmC' lmC' cmC') (.int .i64 jmC')
            replace mB := X.off mB (.bool bmC) (.slice AmC lmC cmC) (.int .i64 jmC) (.bool bmC') (.slice AmC' lmC' cmC') (.int .i64 jmC')
            replace mC := X.off mC (.bool bmC) (.slice AmC lmC cmC) (.int .i64 jmC) (.bool bmC') (.slice AmC' lmC' cmC') (.int .i64 jmC')
            have BX := X.put (.bool bmC) (.slice AmC lmC cmC) (.int .i64 jmC) (.bool bmC') (.slice AmC' lmC' cmC') (.int .i64 jmC')
            clear X
            obtain ⟨V5, hgen⟩ : ∃ V, (set6 V4 gX (.bool bmC) (.slice AmC lmC cmC) (.int .i64 jmC) (.bool bmC') (.slice AmC' lmC' cmC') (.int .i64 jmC')) = V := ⟨_, rfl⟩
            rw [hgen] at F5 mA mB mC BX
            have hgen2 : ((((((V4.setCell ⟨gX, 0, none⟩ (.bool bmC)).setCell ⟨gX, 1, none⟩ (.slice AmC lmC cmC)).setCell ⟨gX, 2, none⟩ (.int .i64 jmC)).setCell ⟨gX, 3, none⟩ (.bool bmC')).setCell ⟨gX, 4, none⟩ (.slice AmC' lmC' cmC')).setCell ⟨gX, 5, none⟩ (.int .i64 jmC')) = V5 := hgen
            rw [hgen2] at hHeld ⊢
            clear hgen hgen2
            refine wpAnyH_done (by as_aux_lemma => kernel_rfl) ?_ _
            go_wp2_with fail
            go_meet
            case rel => exact ⟨_, _, _, _, _, _, _, _, _, _, _, rfl, BX, mC, F5, lX⟩
        · go_simp
          have eX : Ext V0 (V0.alloc (.cells #[.bool false, .slice none 0 0, .int .i64 0, .bool false, .slice none 0 0, .int .i64 0] 33)) := (Ext.refl _).alloc _
          have F1 : Ext WB (V0.alloc (.cells #[.bool false, .slice none 0 0, .int .i64 0, .bool false, .slice none 0 0, .int .i64 0] 33)) := F0.trans eX
          refine hK.out _ _ ⟨bx6 (B1A.ext F1), vr6 (Vc.ext F1)⟩ (fun hHeld => ?_)
          clear hK K
          have X : Zi (V0.alloc (.cells #[.bool false, .slice none 0 0, .int .i64 0, .bool false, .slice none 0 0, .int .i64 0] 33)) V0.heap.size := Zi.new _ _
          have lX : WB.heap.size ≤ V0.heap.size := F0.size
          clear eX
          generalize hgen : V0.alloc (.cells #[.bool false, .slice none 0 0, .int .i64 0, .bool false, .slice none 0 0, .int .i64 0] 33) = V1 at *
          clear hgen
          generalize hgen : V0.heap.size = gX at *
          clear hgen
          refine wpAnyH_ready (rs := [2]) (by as_aux_lemma => kernel_rfl) (by simp) ?_
          refine AllReadyH.cons rfl (fun K hK => ?_) AllReadyH.nil
          go_simp
          refine (riflip_any _ _ (hs k j).c1 (hs k j).c2 (ic.ext F1)).mono ?_
          rintro _ V2 ⟨vmA, rfl, mA, emA⟩
          have F2 : Ext WB V2 := F1.trans emA
          replace X := X.ext emA
          refine hK.out _ _ ⟨bx6 (B1A.ext F2), vr6 (Vc.ext F2)⟩ (fun hHeld => ?_)
          clear hK K emA F1
          refine wpAnyH_ready (rs := [3]) (by as_aux_lemma => kernel_rfl) (by simp) ?_
          refine AllReadyH.cons rfl (fun K hK => ?_) AllReadyH.nil
          go_simp
          refine (riadd_any _ _ _ 1 1 (-(hs k j).c2) (-(hs k j).c1) (k + k + 4) 1 (i1A.ext F2) mA (rg_one _) (rg_one _) (HG.out j).2.neg (HG.out j).1.neg (by omega)).mono ?_
          rintro _ V3 ⟨vmB, rfl, mB, emB⟩
          have F3 : Ext WB V3 := F2.trans emB
          replace mA := mA.ext emB
          replace X := X.ext emB
          refine hK.out _ _ ⟨bx6 (B1A.ext F3), vr6 (Vc.ext F3)⟩ (fun hHeld => ?_)
          clear hK K emB F2
          refine wpAnyH_ready (rs := [4]) (by as_aux_lemma => kernel_rfl) (by simp) ?_
          refine AllReadyH.cons rfl (fun K hK => ?_) AllReadyH.nil
          go_simp
          refine (rishift_any _ _ (1 + -(hs k j).c2) (1 + -(hs k j).c1) (-1) (k + k + 4) (1 + 1) mB ((rg_one _).add (HG.out j).2.neg) ((rg_one _).add (HG.out j).1.neg) (by omega) (by omega)).mono ?_
          rintro _ V4 ⟨vmC, rfl, mC, emC⟩
          have F4 : Ext WB V4 := F3.trans emC
          replace mA := mA.ext emC
          replace mB := mB.ext emC
          replace X := X.ext emC
          obtain ⟨bmC, AmC, lmC, cmC, jmC, bmC', AmC', lmC', cmC', jmC', rfl⟩ := mC.form
          refine hK.out _ _ ⟨bx6 (B1A.ext F4), vr6 (Vc.ext F4)⟩ (fun hHeld => ?_)
          clear hK K emC F3
          refine wpAnyH_ready (rs := [6]) (by as_aux_lemma => kernel_rfl) (by simp) ?_
          refine AllReadyH.cons rfl (fun K hK => ?_) AllReadyH.nil
          have q0 := X.c0; have q1 := X.c1; have q2 := X.c2; have q3 := X.c3; have q4 := X.c4; have q5 := X.c5; have h0 := X.f 0; have h1 := X.f 1; have h2 := X.f 2; have h3 := X.f 3; have h4 := X.f 4; have h5 := X.f 5
          go_simp
          have F5 : Ext WB (set6 V4 gX (.bool bmC) (.slice AmC lmC cmC) (.int .i64 jmC) (.bool bmC') (.slice AmC' lmC' cmC') (.int .i64 jmC')) := F4.set6 lX
          refine hK.out _ _ ⟨bx6 (B1A.ext F5), vr6 (Vc.ext F5)⟩ (fun hHeld => ?_)
          clear hK K q0 q1 q2 q3 q4 q5 h0 h1 h2 h3 h4 h5
          replace mA := X.off mA (.bool bmC) (.slice AmC lmC cmC) (.int .i64 jmC) (.bool bmC') (.slice AmC' lmC' cmC') (.int .i64 jmC')
          replace mB := X.off mB (.bool bmC) (.slice AmC lmC cmC) (.int .i64 jmC) (.bool bmC') (.slice AmC' lmC' cmC') (.int .i64 jmC')
          replace mC := X.off mC (.bool bmC) (.slice AmC lmC cmC) (.int .i64 jmC) (.bool bmC') (.slice AmC' lmC' cmC') (.int .i64 jmC')
          have BX := X.put (.bool bmC) (.slice AmC lmC cmC) (.int .i64 jmC) (.bool bmC') (.slice AmC' lmC' cmC') (.int .i64 jmC')
          clear X
          obtain ⟨V5, hgen⟩ : ∃ V, (set6 V4 gX (.bool bmC) (.slice AmC lmC cmC) (.int .i64 jmC) (.bool bmC') (.slice AmC' lmC' cmC') (.int .i64 jmC')) = V := ⟨_, rfl⟩
          rw [hgen] at F5 mA mB mC BX
          have hgen2 : ((((((V4.setCell ⟨gX, 0, none⟩ (.bool bmC)).setCell ⟨gX, 1, none⟩ (.slice AmC lmC cmC)).setCell ⟨gX, 2, none⟩ (.int .i64 jmC)).setCell ⟨gX, 3, none⟩ (.bool bmC')).setCell ⟨gX, 4, none⟩ (.slice AmC' lmC' cmC')).setCell ⟨gX, 5, none⟩ (.int .i64 jmC')) = V5 := hgen
          rw [hgen2] at hHeld ⊢
          clear hgen hgen2
          refine wpAnyH_done (by as_aux_lemma => kernel_rfl) ?_ _
          go_wp2_with fail
          go_meet
          case rel => exact ⟨_, _, _, _, _, _, _, _, _, _, _, rfl, BX, mC, F5, lX⟩
      case rest =>
        obtain ⟨gl, bl, Al, nl, cl, el, bl', Al', nl', cl', el', rfl, Bl, il, eC, hgl⟩ := hcut
        clear B1A_0 B1A_1 B1A_2 B1A_3 B1A_4 B1A_5 B1A_l Vc_0 Vc_1 Vc_2 Vc_3 Vc_4 Vc_5 Vc_l
        replace i1A := i1A.ext eC
        replace ic := ic.ext eC
        replace is := is.ext eC
        replace LA := LA.ext eC
        replace ih := ih.ext eC
        replace B1A := B1A.ext eC
        replace Vc := Vc.ext eC
        replace Vs := Vs.ext eC
        replace Bh := Bh.ext eC
        have EC := EWB.trans eC
        clear eC EWB
        obtain ⟨Bh_0, Bh_1, Bh_2, Bh_3, Bh_4, Bh_5⟩ := _root_.id Bh
        have Bh_l := World.block_lt_of_cell? _ _ Bh_0
        go_wp2_with fail
        refine (HC.out j _ _ ih).mono ?_
        rintro _ w41 ⟨v13, rfl, ix, f41⟩
        clear Bh_0 Bh_1 Bh_2 Bh_3 Bh_4 Bh_5 Bh_l
        have e41 : Ext wc w41 := (Ext.refl wc).trans f41
        replace i1A := i1A.ext e41
        replace ic := ic.ext e41
        replace is := is.ext e41
        replace LA := LA.ext e41
        replace ih := ih.ext e41
        replace il := il.ext e41
        replace B1A := B1A.ext e41
        replace Vc := Vc.ext e41
        replace Vs := Vs.ext e41
        replace Bh := Bh.ext e41
        replace Bl := Bl.ext e41
        have E41 : Ext w w41 := EC.trans e41
        clear e41 f41 EC
        obtain ⟨⟨u1, u2, u3⟩, _⟩ := HU.out (j + 1)
        obtain ⟨bx, Ax, nx, cx, ex, bx', Ax', nx', cx', ex', rfl, x1, x2⟩ := ix.unit u1 u2 u3
        clear u1 u2 u3
        have q0 := Vc.c0; have f0 := Vc.f 0
        have q1 := Vc.c1; have f1 := Vc.f 1
        have q2 := Vc.c2; have f2 := Vc.f 2
        have q3 := Vc.c3; have f3 := Vc.f 3
        have q4 := Vc.c4; have f4 := Vc.f 4
        have q5 := Vc.c5; have f5 := Vc.f 5
        go_upto_region 14 with fail
        clear q0 f0 q1 f1 q2 f2 q3 f3 q4 f4 q5 f5
        have VcN : Vr (set6 w41 gc (.bool bx) (.slice Ax nx cx) (.int .i64 ex) (.bool bx') (.slice Ax' nx' cx') (.int .i64 ex')) gc (.bool bx) (.slice Ax nx cx) (.int .i64 ex) (.bool bx') (.slice Ax' nx' cx') (.int .i64 ex') := Vc.set _ _ _ _ _ _ _ _ _ _ x1 x2
        have ixN := Vc.off ix (.bool bx) (.slice Ax nx cx) (.int .i64 ex) (.bool bx') (.slice Ax' nx' cx') (.int .i64 ex')
        have isN := Vc.off is (.bool bx) (.slice Ax nx cx) (.int .i64 ex) (.bool bx') (.slice Ax' nx' cx') (.int .i64 ex')
        have i1N := Vc.off i1A (.bool bx) (.slice Ax nx cx) (.int .i64 ex) (.bool bx') (.slice Ax' nx' cx') (.int .i64 ex')
        have ilN := Vc.off il (.bool bx) (.slice Ax nx cx) (.int .i64 ex) (.bool bx') (.slice Ax' nx' cx') (.int .i64 ex')
        have LN := LA.set Vc (by omega) (.bool bx) (.slice Ax nx cx) (.int .i64 ex) (.bool bx') (.slice Ax' nx' cx') (.int .i64 ex')
        have hne3 : gl ≠ gc := by omega
        have hne1 : g1 ≠ gc := by omega
        have hne2 : gs ≠ gc := by omega
        have B1N := B1A.other (a := (.bool bx)) (b := (.slice Ax nx cx)) (c := (.int .i64 ex)) (a' := (.bool bx')) (b' := (.slice Ax' nx' cx')) (c' := (.int .i64 ex')) hne1
        have VsN := Vs.other (a := (.bool bx)) (b := (.slice Ax nx cx)) (c := (.int .i64 ex)) (a' := (.bool bx')) (b' := (.slice Ax' nx' cx')) (c' := (.int .i64 ex')) hne2
        have BlN := Bl.other (a := (.bool bx)) (b := (.slice Ax nx cx)) (c := (.int .i64 ex)) (a' := (.bool bx')) (b' := (.slice Ax' nx' cx')) (c' := (.int .i64 ex')) hne3
        have EN : Ext w (set6 w41 gc (.bool bx) (.slice Ax nx cx) (.int .i64 ex) (.bool bx') (.slice Ax' nx' cx') (.int .i64 ex')) := E41.set6 (by omega)
        have n5N : base ≤ (set6 w41 gc (.bool bx) (.slice Ax nx cx) (.int .i64 ex) (.bool bx') (.slice Ax' nx' cx') (.int .i64 ex')).heap.size := by rw [set6_size]; exact LA.size (by omega)
        clear Vc ix is i1A il LA B1A Vs Bl E41 Bh ih ic
        obtain ⟨WD, hgen⟩ : ∃ V, (set6 w41 gc (.bool bx) (.slice Ax nx cx) (.int .i64 ex) (.bool bx') (.slice Ax' nx' cx') (.int .i64 ex')) = V := ⟨_, rfl⟩
        rw [hgen] at VcN ixN isN i1N ilN LN B1N VsN BlN EN n5N
        have hgen2 : ((((((w41.setCell ⟨gc, 0, none⟩ (.bool bx)).setCell ⟨gc, 1, none⟩ (.slice Ax nx cx)).setCell ⟨gc, 2, none⟩ (.int .i64 ex)).setCell ⟨gc, 3, none⟩ (.bool bx')).setCell ⟨gc, 4, none⟩ (.slice Ax' nx' cx')).setCell ⟨gc, 5, none⟩ (.int .i64 ex')) = WD := hgen
        rw [hgen2]
        clear hgen hgen2
        obtain ⟨b0, b1, b2, b3, b4, b5⟩ := _root_.id BlN
        go_wp2_with fail
        refine (HS.out j _ _ ilN).mono ?_
        rintro _ w42 ⟨v14, rfl, iy, f42⟩
        clear b0 b1 b2 b3 b4 b5 BlN
        have e42 : Ext WD w42 := (Ext.refl WD).trans f42
        replace VcN := VcN.ext e42
        replace ixN := ixN.ext e42
        replace isN := isN.ext e42
        replace i1N := i1N.ext e42
        replace ilN := ilN.ext e42
        replace LN := LN.ext e42
        replace B1N := B1N.ext e42
        replace VsN := VsN.ext e42
        have E42 : Ext w w42 := EN.trans e42
        clear e42 f42 EN
        obtain ⟨_, u1, u2, u3⟩ := HU.out (j + 1)
        obtain ⟨bf, Af, nf, cf, ef, bf', Af', nf', cf', ef', rfl, x3, x4⟩ := iy.unit u1 u2 u3
        clear u1 u2 u3
        have q0 := VsN.c0; have f0 := VsN.f 0
        have q1 := VsN.c1; have f1 := VsN.f 1
        have q2 := VsN.c2; have f2 := VsN.f 2
        have q3 := VsN.c3; have f3 := VsN.f 3
        have q4 := VsN.c4; have f4 := VsN.f 4
        have q5 := VsN.c5; have f5 := VsN.f 5
        have hne4 : g1 ≠ gs := by omega
        have hne5 : gc ≠ gs := by omega
        have lsz := World.block_lt_of_cell? _ _ VcN.c0
        have HN : Hx w base g1 gc gs k (set6 w42 gs (.bool bf) (.slice Af nf cf) (.int .i64 ef) (.bool bf') (.slice Af' nf' cf') (.int .i64 ef')) vo (j + 1) := ⟨⟨_, _, _, _, _, _, B1N.other hne4, VsN.off i1N _ _ _ _ _ _⟩, ⟨_, _, _, _, _, _, _, _, _, _, VcN.other hne5, x1, x2, VsN.off ixN _ _ _ _ _ _⟩, ⟨_, _, _, _, _, _, _, _, _, _, VsN.set _ _ _ _ _ _ _ _ _ _ x3 x4, x3, x4, VsN.off iy _ _ _ _ _ _⟩, LN.set VsN (by omega) _ _ _ _ _ _, E42.set6 (by omega), n1, n2, n3, n4, by rw [set6_size]; exact LN.size (by omega)⟩
        clear VcN ixN isN i1N ilN LN B1N VsN iy E42 n5N
        go_wp2
        go_roundw
        case rel => exact ⟨j + 1, kk + 1, by have := HQ.out; omega, by omega, by go_num, HN⟩
        case measure => simp [intOf]; omega
end Go.Proofs.YtomdbmjfehoodaaGreatDoor
