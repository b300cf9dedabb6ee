/- Walks of the document's answers on enclosures. -/
import Derived.Test.YtomdbmjfehoodaaGreatDoorMQ
import Derived.Deep.Cut
set_option maxRecDepth 8000
namespace Go.Proofs.YtomdbmjfehoodaaGreatDoor
open Go.RowKit
set_option maxRecDepth 4000 in
set_option maxHeartbeats 1000000 in
theorem rwide_any (w : World) (va : Value) (l h : Dyadic) (P Q : Nat) (ha : In w va l h) (r1 : Rg P Q l) (r2 : Rg P Q h) (hp : P + Q ≤ 7200) :
    Calls Tryz.prog 28 #[va] w (RetD w (h + -l)) := by
  obtain ⟨ba, Aa, na, ca, ea, ba', Aa', na', ca', ea', rfl, a1, a2⟩ := ha
  go_enter Tryz.func28, Tryz.ntmps28
  go_wp2
  generalize hW0 : ((w.alloc (.cells #[.bool ba, .slice Aa na ca, .int .i64 ea, .bool ba', .slice Aa' na' ca', .int .i64 ea'] 33)).alloc (.cells #[.bool false, .slice none 0 0, .int .i64 0] 26)) = W0
  have Ba : Bx W0 (w.heap.size) (.bool ba) (.slice Aa na ca) (.int .i64 ea) (.bool ba') (.slice Aa' na' ca') (.int .i64 ea') := by rw [← hW0]; exact Bx.at ((Ext.refl _).alloc _) (by simp)
  have Z0 : Zd W0 (w.heap.size + 1) := by rw [← hW0]; exact Zd.at (Ext.refl _) (by simp)
  have E0 : Ext w W0 := by rw [← hW0]; exact (((Ext.refl w).alloc _).alloc _)
  obtain ⟨Ba_0, Ba_1, Ba_2, Ba_3, Ba_4, Ba_5⟩ := id Ba
  have NBa : (w.heap.size : Nat) ≠ w.heap.size + 1 := by omega
  replace a1 := a1.ext E0
  replace a2 := a2.ext E0
  clear hW0
  go_region_held3 (fun w' => (w'.cell? ⟨w.heap.size, 0, none⟩ = some (.bool ba) ∧ w'.cell? ⟨w.heap.size, 1, none⟩ = some (.slice Aa na ca) ∧ w'.cell? ⟨w.heap.size, 2, none⟩ = some (.int .i64 ea) ∧ w'.cell? ⟨w.heap.size, 3, none⟩ = some (.bool ba') ∧ w'.cell? ⟨w.heap.size, 4, none⟩ = some (.slice Aa' na' ca') ∧ w'.cell? ⟨w.heap.size, 5, none⟩ = some (.int .i64 ea'))) (first | (with_reducible exact bx6 (Ba.ext F2)) | (with_reducible exact bx6 (Ba.ext F1)) | (with_reducible exact bx6 (keep36 (Ba.ext F2) NBa)) | go_keep) (first | ((have hF2 := F1); (go_at_call 26); (refine (raddD_any _ _ _ h (-l) P Q (a2.ext F1) m1 r2 r1.neg hp).mono ?_); (rintro _ u2 ⟨v2, rfl, m2, e2⟩); (have F2 : Ext W0 u2 := F1.trans e2); (replace m1 := m1.ext e2); (obtain ⟨y2, Y2, p2, q2, x2, rfl⟩ := m2.form); (have Z1 := Z0.ext F2); (have g0 := Z1.c0); (have f0 := Z1.f 0); (have g1 := Z1.c1); (have f1 := Z1.f 1); (have g2 := Z1.c2); (have f2 := Z1.f 2)) | ((go_at_call 24); (refine (rflip_any _ _ l (a1.ext (Ext.refl W0).drew)).mono ?_); (rintro _ u1 ⟨v1, rfl, m1, e1⟩); (have F1 : Ext W0 u1 := (Ext.refl W0).drew.trans e1)))
  go_wp2
  obtain ⟨k0, k1, k2, hD⟩ := Z1.done m2 (E0.trans F2) (by omega)
  exact bodyPost_ret (by simp [results, Tryz.results28, go_sem, k0, k1, k2]) rfl hD
set_option maxRecDepth 4000 in
set_option maxHeartbeats 1000000 in
theorem rpoint_any (w : World) (va : Value) (x : Dyadic) (ha : Dn w va x) : Calls Tryz.prog 38 #[va] w (RetI w x x) := by
  obtain ⟨b, A, n, c, e, rfl⟩ := ha.form
  have HD := Lib.hid (fun (w' : World) (E : Ext w w') => In.mk (ha.ext E) (ha.ext E))
  clear ha
  go_enter Tryz.func38, Tryz.ntmps38
  go_wp2
  refine bodyPost_ret (v := .agg #[.bool b, .slice A n c, .int .i64 e, .bool b, .slice A n c, .int .i64 e]) (by simp [results, Tryz.results38, go_sem]) rfl ?_
  exact ⟨_, rfl, HD.out _ (((Ext.refl w).alloc _).alloc _), ((Ext.refl w).alloc _).alloc _⟩
set_option maxRecDepth 4000 in
set_option maxHeartbeats 1000000 in
theorem rsame_any (w : World) (va vb : Value) (l h l' h' : Dyadic) (ha : In w va l h) (hb : In w vb l' h') :
    Calls Tryz.prog 13 #[va, vb] w (RetE w (.bool (decide (l = l') && decide (h = h')))) := by
  obtain ⟨ba, Aa, na, ca, ea, ba', Aa', na', ca', ea', rfl, a1, a2⟩ := ha
  obtain ⟨bb, Ab, nb, cb, eb, bb', Ab', nb', cb', eb', rfl, b1, b2⟩ := hb
  have HC1 := Lib.hid (fun (w' : World) (E : Ext w w') => rsameD_any w' _ _ l l' (a1.ext E) (b1.ext E))
  have HC2 := Lib.hid (fun (w' : World) (E : Ext w w') => rsameD_any w' _ _ h h' (a2.ext E) (b2.ext E))
  by_cases q0 : l = l'
  · rw [decide_eq_true q0] at HC1
    by_cases q1 : h = h'
    · rw [decide_eq_true q1] at HC2
      go_enter Tryz.func13, Tryz.ntmps13
      go_wp2_with fail
      refine (HC1.out _ (((Ext.refl w).alloc _).alloc _)).mono ?_
      rintro _ w1 ⟨rfl, e1⟩
      have E1 : Ext w w1 := (((Ext.refl w).alloc _).alloc _).trans e1
      have Ba : Bx w1 (w.heap.size) (.bool ba) (.slice Aa na ca) (.int .i64 ea) (.bool ba') (.slice Aa' na' ca') (.int .i64 ea') := Bx.at (((Ext.refl _).alloc _).trans e1) (by simp)
      have Bb : Bx w1 (w.heap.size + 1) (.bool bb) (.slice Ab nb cb) (.int .i64 eb) (.bool bb') (.slice Ab' nb' cb') (.int .i64 eb') := Bx.at ((Ext.refl _).trans e1) (by simp)
      obtain ⟨d0a0, d0a1, d0a2, d0a3, d0a4, d0a5⟩ := id Ba
      obtain ⟨d0b0, d0b1, d0b2, d0b3, d0b4, d0b5⟩ := id Bb
      go_wp2_with fail
      refine (HC2.out _ E1).mono ?_
      rintro _ w2 ⟨rfl, e2⟩
      have E2 : Ext w w2 := E1.trans e2
      replace Ba := Ba.ext e2
      replace Bb := Bb.ext e2
      go_wp2
      go_ret
      exact ⟨by simp [q0, q1], E2⟩
    · rw [decide_eq_false q1] at HC2
      go_enter Tryz.func13, Tryz.ntmps13
      go_wp2_with fail
      refine (HC1.out _ (((Ext.refl w).alloc _).alloc _)).mono ?_
      rintro _ w1 ⟨rfl, e1⟩
      have E1 : Ext w w1 := (((Ext.refl w).alloc _).alloc _).trans e1
      have Ba : Bx w1 (w.heap.size) (.bool ba) (.slice Aa na ca) (.int .i64 ea) (.bool ba') (.slice Aa' na' ca') (.int .i64 ea') := Bx.at (((Ext.refl _).alloc _).trans e1) (by simp)
      have Bb : Bx w1 (w.heap.size + 1) (.bool bb) (.slice Ab nb cb) (.int .i64 eb) (.bool bb') (.slice Ab' nb' cb') (.int .i64 eb') := Bx.at ((Ext.refl _).trans e1) (by simp)
      obtain ⟨d0a0, d0a1, d0a2, d0a3, d0a4, d0a5⟩ := id Ba
      obtain ⟨d0b0, d0b1, d0b2, d0b3, d0b4, d0b5⟩ := id Bb
      go_wp2_with fail
      refine (HC2.out _ E1).mono ?_
      rintro _ w2 ⟨rfl, e2⟩
      have E2 : Ext w w2 := E1.trans e2
      replace Ba := Ba.ext e2
      replace Bb := Bb.ext e2
      go_wp2
      go_ret
      exact ⟨by simp [q0, q1], E2⟩
  · rw [decide_eq_false q0] at HC1
    go_enter Tryz.func13, Tryz.ntmps13
    go_wp2_with fail
    refine (HC1.out _ (((Ext.refl w).alloc _).alloc _)).mono ?_
    rintro _ w1 ⟨rfl, e1⟩
    have E1 : Ext w w1 := (((Ext.refl w).alloc _).alloc _).trans e1
    have Ba : Bx w1 (w.heap.size) (.bool ba) (.slice Aa na ca) (.int .i64 ea) (.bool ba') (.slice Aa' na' ca') (.int .i64 ea') := Bx.at (((Ext.refl _).alloc _).trans e1) (by simp)
    have Bb : Bx w1 (w.heap.size + 1) (.bool bb) (.slice Ab nb cb) (.int .i64 eb) (.bool bb') (.slice Ab' nb' cb') (.int .i64 eb') := Bx.at ((Ext.refl _).trans e1) (by simp)
    go_wp2
    go_ret
    exact ⟨by simp [q0], E1⟩
set_option maxRecDepth 4000 in
set_option maxHeartbeats 1000000 in
theorem riright_any (w : World) (va : Value) (l h : Dyadic) (P Q : Nat) (ha : In w va l h) (r1 : Rg P Q l) (r2 : Rg P Q h) (hp : P + Q ≤ 1440) :
    Calls Tryz.prog 21 #[va] w (RetE w (.bool (decide (l ≤ h)))) := by
  obtain ⟨ba, Aa, na, ca, ea, ba', Aa', na', ca', ea', rfl, a1, a2⟩ := ha
  obtain ⟨t, ht⟩ : ∃ t, cmpD l h = t := ⟨_, rfl⟩
  have k1 := cmp_le l h
  rw [ht] at k1
  have HC1 := Lib.hid (fun (w' : World) (E : Ext w w') => rrightDn_any w' _ l P Q (a1.ext E) r1 hp)
  have HC2 := Lib.hid (fun (w' : World) (E : Ext w w') => rrightDn_any w' _ h P Q (a2.ext E) r2 hp)
  have HC3 := Lib.hid (fun (w' : World) (E : Ext w w') => ht ▸ rcmpD_any w' _ _ l h P Q (a1.ext E) (a2.ext E) r1 r2 (by omega))
  clear ht
  by_cases q2 : l ≤ h
  · have j0 := k1.2 q2
    go_enter Tryz.func21, Tryz.ntmps21
    go_wp2_with fail
    refine (HC1.out _ ((Ext.refl w).alloc _)).mono ?_
    rintro _ w1 ⟨rfl, e1⟩
    have E1 : Ext w w1 := ((Ext.refl w).alloc _).trans e1
    have Ba : Bx w1 (w.heap.size) (.bool ba) (.slice Aa na ca) (.int .i64 ea) (.bool ba') (.slice Aa' na' ca') (.int .i64 ea') := Bx.at ((Ext.refl _).trans e1) (by simp)
    obtain ⟨d0a0, d0a1, d0a2, d0a3, d0a4, d0a5⟩ := id Ba
    go_wp2_with fail
    refine (HC2.out _ E1).mono ?_
    rintro _ w2 ⟨rfl, e2⟩
    have E2 : Ext w w2 := E1.trans e2
    replace Ba := Ba.ext e2
    obtain ⟨d1a0, d1a1, d1a2, d1a3, d1a4, d1a5⟩ := id Ba
    go_wp2_with fail
    refine (HC3.out _ E2).mono ?_
    rintro _ w3 ⟨rfl, e3⟩
    have E3 : Ext w w3 := E2.trans e3
    replace Ba := Ba.ext e3
    go_wp2
    go_ret
    exact ⟨by simp [q2], E3⟩
  · have j0 : ¬ t ≤ 0 := fun h0 => q2 (k1.1 h0)
    go_enter Tryz.func21, Tryz.ntmps21
    go_wp2_with fail
    refine (HC1.out _ ((Ext.refl w).alloc _)).mono ?_
    rintro _ w1 ⟨rfl, e1⟩
    have E1 : Ext w w1 := ((Ext.refl w).alloc _).trans e1
    have Ba : Bx w1 (w.heap.size) (.bool ba) (.slice Aa na ca) (.int .i64 ea) (.bool ba') (.slice Aa' na' ca') (.int .i64 ea') := Bx.at ((Ext.refl _).trans e1) (by simp)
    obtain ⟨d0a0, d0a1, d0a2, d0a3, d0a4, d0a5⟩ := id Ba
    go_wp2_with fail
    refine (HC2.out _ E1).mono ?_
    rintro _ w2 ⟨rfl, e2⟩
    have E2 : Ext w w2 := E1.trans e2
    replace Ba := Ba.ext e2
    obtain ⟨d1a0, d1a1, d1a2, d1a3, d1a4, d1a5⟩ := id Ba
    go_wp2_with fail
    refine (HC3.out _ E2).mono ?_
    rintro _ w3 ⟨rfl, e3⟩
    have E3 : Ext w w3 := E2.trans e3
    replace Ba := Ba.ext e3
    go_wp2
    go_ret
    exact ⟨by simp [q2], E3⟩

end Go.Proofs.YtomdbmjfehoodaaGreatDoor
