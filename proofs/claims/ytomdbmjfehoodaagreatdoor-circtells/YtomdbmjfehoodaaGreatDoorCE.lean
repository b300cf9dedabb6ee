/- Walks of package circ: cosine. -/
import Derived.Test.YtomdbmjfehoodaaGreatDoorCD
set_option maxRecDepth 8000
namespace Go.Proofs.YtomdbmjfehoodaaGreatDoor
open Go.RowKit
set_option linter.unusedVariables false
attribute [local go_sem] Oper.semAt_some
theorem in_one {w : World} {v : Value} {l u : Dyadic} (h : In w v l u) (hl : l = dy 1 0) (hu : u = dy 1 0) : In w v 1 1 := by
  subst hl hu; exact h
set_option maxRecDepth 100000 in
set_option maxHeartbeats 4000000 in
theorem ccosine_any (w : World) (K : Int) (Q k : Nat) (v : Int) (h : Fm v K Q) (hQ : Q ≤ 14) (hk : 2 ≤ k) (hk2 : k ≤ 400) (T : Tb w) (P : Pl w) :
    Calls Tryz.prog 43 #[.agg #[.int .i64 K, .int .i64 (Q : Int)], .int .i64 (k : Int)] w (fun e w' => ∃ lo hi, Cs k Q lo hi (cv v).1 ∧ RetI w lo hi e w') := by
  refine (callsIn_wide (n := 3)).1 ?_
  refine callsIn_of_wp_marks Tryz.func43 rfl trivial ?_ rfl
  simp only [Tryz.ntmps43, List.size_toArray, List.length_cons, List.length_nil, Nat.reduceAdd, Nat.reduceSub, Array.replicate_succ, Array.replicate_zero, List.push_toArray, List.append_toArray, List.nil_append, List.cons_append]
  gi_wp2_with fail
  refine ⟨trivial, (callsIn_wide.2 (ofD_any _ 1 (by omega) (T.ext ((((Ext.refl w).alloc _).alloc _).alloc _)))).mono ?_⟩
  rintro _ wa ⟨va, rfl, na, ea⟩
  gi_wp2_with fail
  refine ⟨trivial, (callsIn_wide.2 (ipoint_any _ _ (dy 1 0) 1 1 na (rg_one 1) (by omega) (T.ext (((((Ext.refl w).alloc _).alloc _).alloc _).trans ea)))).mono ?_⟩
  rintro _ w1 ⟨v1, rfl, m1, e1⟩
  obtain ⟨b1, A1, l1, c1, j1, b1', A1', l1', c1', j1', rfl⟩ := m1.form
  have hmf : ∀ (fn : Fn) (first cap : Array Value) (w : World), (Instr.makeFunc fn first cap).run Tryz.prog w = .ok (.func fn first cap) w := fun _ _ _ _ => rfl
  have Ea : Ext w wa := ((((Ext.refl w).alloc _).alloc _).alloc _).trans ea
  have Bt : B2 w1 w.heap.size (.int .i64 K) (.int .i64 (Q : Int)) := B2.at ((((Ext.refl _).alloc _).alloc _).trans (ea.trans e1)) rfl
  have hb : w1.cell? ⟨w.heap.size + 1, 0, none⟩ = some (.int .i64 (k : Int)) := (one_at (((Ext.refl _).alloc _).trans (ea.trans e1)) (by simp)).1
  have Z1 : Zi w1 (w.heap.size + 1 + 1) := Zi.at (ea.trans e1) (by simp)
  have E1 : Ext w w1 := Ea.trans e1
  obtain ⟨t0, t1⟩ := id Bt
  have lt : w.heap.size < w1.heap.size := World.block_lt_of_cell? _ _ t0
  have lz : w.heap.size + 1 + 1 < w1.heap.size := World.block_lt_of_cell? _ _ Z1.c0
  clear ea e1 Ea
  have E2 : Ext w1 (((w1.alloc (.cells #[.bool b1, .slice A1 l1 c1, .int .i64 j1, .bool b1', .slice A1' l1' c1', .int .i64 j1'] 33)).alloc (.cells #[.bool b1, .slice A1 l1 c1, .int .i64 j1, .bool b1', .slice A1' l1' c1', .int .i64 j1'] 33)).alloc (.cells #[.func (.func 70) #[] #[.pointer (some ⟨w1.heap.size + 1, 0, none⟩), .pointer (some ⟨w1.heap.size, 0, none⟩), .pointer (some ⟨w.heap.size + 1, 0, none⟩)]] 74)) := (((Ext.refl w1).alloc _).alloc _).alloc _
  have u0 := (Bt.ext E2).c0
  have u1 := (Bt.ext E2).c1
  gi_wp2_with fail
  refine ⟨trivial, (callsIn_wide.2 (halves_any _ (w1.heap.size + 1 + 1 + 1) (by simp) K Q)).mono ?_⟩
  rintro _ w3 ⟨rfl, e3, B⟩
  gi_wp2
  refine range_start (by omega) rfl callHalves ?_
  intro fn rec hrec
  have lw := e3.size
  simp only [World.size_alloc] at lw
  have Z3 := Z1.ext (E2.trans e3)
  have hb3 := cellx hb (E2.trans e3)
  have E3 := E1.trans (E2.trans e3)
  have T3 := Lib.hid T
  have P3 := Lib.hid P
  have f3 := (one_at (g := w1.heap.size + 1 + 1) e3 (by simp)).1
  have o3 : Bx w3 w1.heap.size (.bool b1) (.slice A1 l1 c1) (.int .i64 j1) (.bool b1') (.slice A1' l1' c1') (.int .i64 j1') := Bx.at (((Ext.refl _).alloc _).alloc _ |>.trans e3) rfl
  obtain ⟨_, _, _, _, _, _, _, _, _, _, hv1, hj1, hj1'⟩ := (in_one m1 rfl rfl).unit (by grind) (Std.le_refl _) (Std.le_refl _)
  simp only [Value.agg.injEq, Array.mk.injEq, List.cons.injEq, Value.int.injEq, and_true, true_and] at hv1
  replace hj1 : j1 ≤ 0 := by omega
  replace hj1' : j1' ≤ 0 := by omega
  have c3 : Vr w3 (w1.heap.size + 1) (.bool b1) (.slice A1 l1 c1) (.int .i64 j1) (.bool b1') (.slice A1' l1' c1') (.int .i64 j1') := Vr.at hj1 hj1' (((Ext.refl _).alloc _).trans e3) (by simp)
  have m3 := in_one (m1.ext (E2.trans e3)) rfl rfl
  have M0 : Md w w1.heap.size w3.heap.size K Q k ((w3.alloc (.deferred (some []))).alloc (.loop (rec .ready))) rec .ready (fun lo hi => Cs k 0 lo hi (cv (tv K 0)).1) := by
    have E5 : Ext w3 ((w3.alloc (.deferred (some []))).alloc (.loop (rec .ready))) := ((Ext.refl w3).alloc _).alloc _
    have hB := World.block_lt_of_cell? _ _ B.c0
    simp only at hB
    refine ⟨E3.trans E5, by simp, by omega, Z3.ext E5, cellx hb3 E5, ⟨_, _, _, _, _, _, _, _, _, _, o3.ext E5, m3.ext E5⟩, cellx f3 E5, B.ext E5, ?_, ?_, ⟨_, _, _, _, _, _, _, _, _, _, 1, 1, c3.ext E5, m3.ext E5, Cs.start k K⟩⟩
    · have := World.alloc_heap_new w3 (.deferred (some []))
      exact (Below.heap_alloc _ _ _ (by simp)).trans this
    · have := World.alloc_heap_new (w3.alloc (.deferred (some []))) (.loop (rec .ready))
      rw [World.size_alloc] at this
      exact this
  clear c3 m3 hv1 hj1 hj1' o3 f3 hb3 Z3 m1 E2 u0 u1 lt lz Bt t0 t1 hb Z1 na
  generalize w1.heap.size = s1 at *
  generalize hgd : w3.heap.size = gd at *
  refine (halves_in 2 (gd + 1) (s1 + 1 + 1 + 1) _ K Q (by omega) (fun i W => Md w s1 gd K Q k W rec .ready (fun lo hi => Cs k i lo hi (cv (tv K i)).1)) (fun i W h => h.tb) ?_ M0).mono ?_
  · intro i q W hi hq hM
    refine round_of hrec hM.rc ?_
    have hKb := h.low
    have hKp := p2_le hKb.2.2.1
    rw [p2_40] at hKp
    have hodd : K % 2 = 1 := by
      rcases h.out with ⟨_, _, h3⟩ | ⟨h3, _⟩
      · omega
      · exact h3
    have hqq : q = ((i + 1 : Nat) : Int) := by omega
    obtain ⟨e, he⟩ : ∃ e, eighth (tv K (i + 1)) = e := ⟨_, rfl⟩
    obtain ⟨kr, qr, hr⟩ := fm_there (rest_range (tv_range K (i + 1)).1 (tv_range K (i + 1)).2).2.2.1 (by have := (rest_range (tv_range K (i + 1)).1 (tv_range K (i + 1)).2).2.2.2; omega)
    have HSp := Lib.hid (fun (w' : World) (T' : Tb w') => (show Calls Tryz.prog 76 #[.agg #[.int .i64 K, .int .i64 q]] w' (RetE w' (.agg #[.int .i64 e, .int .i64 kr, .int .i64 qr])) from by
      rw [hqq]; exact tsplit_any w' T' K kr e (i + 1) qr (by omega) (by omega) he hr))
    have cr := cos_root (K := K) (show i + 1 ≤ 40 by omega)
    rw [he] at cr
    have HCr := Lib.hid cr
    have hq14 : i + 1 ≤ 14 := by omega
    clear cr hr hKb hKp hq hqq he M0
    have hz := hM.size
    have hz0 := hM.s0
    gi_wp2
    have E6 : Ext W (W.alloc (.cells #[.int .i64 K, .int .i64 q] 23)) := (Ext.refl W).alloc _
    have h6 := hM.later E6
    refine ⟨h6.rc, ?_⟩
    have h7 := h6.put (st' := .busy)
    have B7 : B2 ((W.alloc (.cells #[.int .i64 K, .int .i64 q] 23)).putObj (gd + 1) (.loop (rec .busy))) W.heap.size (.int .i64 K) (.int .i64 q) := B2.go (B2.at (Ext.refl _) rfl) (World.putObj_heap_other (by omega))
    clear h6 E6 hM
    generalize ((W.alloc (.cells #[.int .i64 K, .int .i64 q] 23)).putObj (gd + 1) (.loop (rec .busy))) = W7 at *
    have k0 := h7.fn
    have hcall := callSize
    have hne : W.heap.size ≠ s1 + 1 := by omega
    gi_wp2_with fail
    refine ⟨trivial, (CallsIn.inRound _ (callsIn_wide.2 (size_md w s1 gd K Q k W7 rec .busy i hodd hq14 hk hk2 T h7))).mono ?_⟩
    rintro _ W8 ⟨b, A, n, c, j, b', A', n', c', j', lo, hi2, rfl, hj, hj', I8, r8, e8⟩
    replace h7 := h7.later e8
    replace B7 := B7.ext e8
    have h9 := Lib.hid (h7.next b A n c j b' A' n' c' j' lo hi2 hj hj' I8 (R' := (fun lo hi => Cs k (i + 1) lo hi (hf * (1 + (cv (tv K i)).1)).root)) r8)
    have B9 := B7.other (a := .bool b) (b := .slice A n c) (c := .int .i64 j) (a' := .bool b') (b' := .slice A' n' c') (c' := .int .i64 j') hne
    obtain ⟨bc, Ac, nc, cc, ec, bc', Ac', nc', cc', ec', lo1, hi1, V, _, _⟩ := h7.c
    have g0 := V.c0; have g1 := V.c1; have g2 := V.c2; have g3 := V.c3; have g4 := V.c4; have g5 := V.c5
    have f0 := V.f 0; have f1 := V.f 1; have f2 := V.f 2; have f3 := V.f 3; have f4 := V.f 4; have f5 := V.f 5
    have v0 : ((((((W8.setCell ⟨s1 + 1, 0, none⟩ (.bool b)).setCell ⟨s1 + 1, 1, none⟩ (.slice A n c)).setCell ⟨s1 + 1, 2, none⟩ (.int .i64 j)).setCell ⟨s1 + 1, 3, none⟩ (.bool b')).setCell ⟨s1 + 1, 4, none⟩ (.slice A' n' c')).setCell ⟨s1 + 1, 5, none⟩ (.int .i64 j')).cell? ⟨W.heap.size, 0, none⟩ = some (.int .i64 K) := B9.c0
    have v1 : ((((((W8.setCell ⟨s1 + 1, 0, none⟩ (.bool b)).setCell ⟨s1 + 1, 1, none⟩ (.slice A n c)).setCell ⟨s1 + 1, 2, none⟩ (.int .i64 j)).setCell ⟨s1 + 1, 3, none⟩ (.bool b')).setCell ⟨s1 + 1, 4, none⟩ (.slice A' n' c')).setCell ⟨s1 + 1, 5, none⟩ (.int .i64 j')).cell? ⟨W.heap.size, 1, none⟩ = some (.int .i64 q) := B9.c1
    clear k0 hcall V h7 I8 r8 e8 B7
    gi_wp2_with fail
    obtain ⟨W9, hW9⟩ : ∃ V, (set6 W8 (s1 + 1) (.bool b) (.slice A n c) (.int .i64 j) (.bool b') (.slice A' n' c') (.int .i64 j')) = V := ⟨_, rfl⟩
    rw [hW9] at h9 B9
    have hW9' : ((((((W8.setCell ⟨s1 + 1, 0, none⟩ (.bool b)).setCell ⟨s1 + 1, 1, none⟩ (.slice A n c)).setCell ⟨s1 + 1, 2, none⟩ (.int .i64 j)).setCell ⟨s1 + 1, 3, none⟩ (.bool b')).setCell ⟨s1 + 1, 4, none⟩ (.slice A' n' c')).setCell ⟨s1 + 1, 5, none⟩ (.int .i64 j')) = W9 := hW9
    rw [hW9']
    clear hW9 hW9' v0 v1 g0 g1 g2 g3 g4 g5 f0 f1 f2 f3 f4 f5
    have hfl : ∀ (a b c : Value) (W : World), (Instr.field 81 (.agg #[a, b, c]) 0).run Tryz.prog W = .ok a W := fun _ _ _ _ => by kernel_rfl
    refine ⟨trivial, (CallsIn.inRound _ (callsIn_wide.2 (HSp.out _ (T.ext h9.out.ext)))).mono ?_⟩
    rintro _ WA ⟨rfl, eA⟩
    have hA := Lib.hid (h9.out.later eA)
    gi_wp2_with fail
    refine ⟨trivial, (CallsIn.inRound _ (callsIn_wide.2 (tplace_any _ (P.ext hA.out.ext) e))).mono ?_⟩
    rintro _ WB ⟨rfl, eB⟩
    have hB := Lib.hid (hA.out.later eB)
    clear eA eB hA h9 B9 hfl HSp
    cases hp : plCos e with
    | false =>
      gi_wp2
      have hE := HCr.out.2 hp
      have hm : Md w s1 gd K Q k WB rec .busy (fun lo hi => Cs k (i + 1) lo hi (cv (tv K (i + 1))).1) := hB.out.imp (fun lo hi r => hE ▸ r)
      exact ⟨hm.rc, hm.put⟩
    | true =>
      obtain ⟨bc, Ac, nc, cc, ec, bc', Ac', nc', cc', ec', lo1, hi1, V, J, r⟩ := hB.out.c
      have g0 := V.c0; have g1 := V.c1; have g2 := V.c2; have g3 := V.c3; have g4 := V.c4; have g5 := V.c5
      gi_wp2_with fail
      refine ⟨trivial, (CallsIn.inRound _ (callsIn_wide.2 (iflip_any _ _ lo1 hi1 (k + k + 4) 1 J r.r1 r.r2 (by omega) (T.ext hB.out.ext)))).mono ?_⟩
      rintro _ WC ⟨v, rfl, I, eC⟩
      have rn := r.neg
      obtain ⟨d, D, m, y, x, d', D', m', y', x', rfl, hx, hx'⟩ := I.unit rn.l rn.en.le rn.h
      have hC := hB.out.later eC
      have h9 := Lib.hid (hC.next d D m y x d' D' m' y' x' _ _ hx hx' I (R' := fun lo hi => Cs k (i + 1) lo hi (cv (tv K (i + 1))).1) (by
        have hE := HCr.out.1 hp
        have e2 : (cv (tv K (i + 1))).1 = -(hf * (1 + (cv (tv K i)).1)).root := by rw [← hE]; grind
        rw [e2]; exact rn))
      clear g0 g1 g2 g3 g4 g5
      replace V := V.ext eC
      have g0 := V.c0; have g1 := V.c1; have g2 := V.c2; have g3 := V.c3; have g4 := V.c4; have g5 := V.c5
      have f0 := V.f 0; have f1 := V.f 1; have f2 := V.f 2; have f3 := V.f 3; have f4 := V.f 4; have f5 := V.f 5
      clear V J r rn I hC hB eC HCr
      simp only []
      go_at_K
      repeat gi_step
      exact ⟨h9.out.rc, h9.out.put⟩
  · rintro e W ⟨hv, hm⟩
    refine ⟨hv, hm.rc, ?_⟩
    have h5 := hm.put (st' := .exhausted)
    have htv := h.tv
    rw [htv] at h5
    generalize W.putObj (gd + 1) (.loop (rec .exhausted)) = W5 at *
    clear hm hv M0
    obtain ⟨b, A, n, c, j, b', A', n', c', j', lo, hi, V, J, r⟩ := h5.c
    have J1 := J.lo
    have J2 := J.hi
    have Z := h5.res
    have q0 := V.c0; have q1 := V.c1; have q2 := V.c2; have q3 := V.c3; have q4 := V.c4; have q5 := V.c5
    have g0 := Z.c0; have g1 := Z.c1; have g2 := Z.c2; have g3 := Z.c3; have g4 := Z.c4; have g5 := Z.c5
    have f0 := Z.f 0; have f1 := Z.f 1; have f2 := Z.f 2; have f3 := Z.f 3; have f4 := Z.f 4; have f5 := Z.f 5
    have HD := Lib.hid (Z.done J1 J2 h5.ext (by omega))
    have HDF := Lib.hid h5.df
    have hs0 := h5.s0
    have HR := Lib.hid r
    clear V J J1 J2 r h5 htv h
    gi_wp2
    obtain ⟨k0, k1, k2, k3, k4, k5, vr, hvr, hI, hE⟩ := HD.out
    injection hvr with hvr
    subst hvr
    have hdf : ((((((W5.setCell ⟨w.heap.size + 1 + 1, 0, none⟩ (.bool b)).setCell ⟨w.heap.size + 1 + 1, 1, none⟩ (.slice A n c)).setCell ⟨w.heap.size + 1 + 1, 2, none⟩ (.int .i64 j)).setCell ⟨w.heap.size + 1 + 1, 3, none⟩ (.bool b')).setCell ⟨w.heap.size + 1 + 1, 4, none⟩ (.slice A' n' c')).setCell ⟨w.heap.size + 1 + 1, 5, none⟩ (.int .i64 j')).heap[gd]? = some (.deferred (some [])) := by
      have o : ∀ (V : World) (i : Nat) (v : Value), (V.setCell ⟨w.heap.size + 1 + 1, i, none⟩ v).heap[gd]? = V.heap[gd]? := fun V i v => Below.heap_setCell V ⟨w.heap.size + 1 + 1, i, none⟩ v _ (by show gd ≠ w.heap.size + 1 + 1; omega)
      rw [o, o, o, o, o, o]; exact HDF.out
    generalize ((((((W5.setCell ⟨w.heap.size + 1 + 1, 0, none⟩ (.bool b)).setCell ⟨w.heap.size + 1 + 1, 1, none⟩ (.slice A n c)).setCell ⟨w.heap.size + 1 + 1, 2, none⟩ (.int .i64 j)).setCell ⟨w.heap.size + 1 + 1, 3, none⟩ (.bool b')).setCell ⟨w.heap.size + 1 + 1, 4, none⟩ (.slice A' n' c')).setCell ⟨w.heap.size + 1 + 1, 5, none⟩ (.int .i64 j')) = W6 at *
    refine ⟨by simp, .inl ⟨_, _, rfl, run_takeDeferred hdf, ?_⟩⟩
    have s : Sub W6 (W6.putObj gd (.deferred none)) := sub_put hdf rfl
    have i0 := s.cell _ _ k0
    have i1 := s.cell _ _ k1
    have i2 := s.cell _ _ k2
    have i3 := s.cell _ _ k3
    have i4 := s.cell _ _ k4
    have i5 := s.cell _ _ k5
    refine ⟨.agg #[.bool b, .slice A n c, .int .i64 j, .bool b', .slice A' n' c', .int .i64 j'], ?_, lo, hi, HR.out, _, rfl, In.mk (hI.lo.sub s) (hI.hi.sub s), put_ext hE (by omega)⟩
    generalize W6.putObj gd (.deferred none) = W7 at *
    simp [results, Tryz.results43, go_sem, i0, i1, i2, i3, i4, i5]
end Go.Proofs.YtomdbmjfehoodaaGreatDoor
