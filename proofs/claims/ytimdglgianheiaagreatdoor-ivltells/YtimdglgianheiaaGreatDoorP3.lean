/- Walks of package ivl: what is made of ends. -/
import Derived.Test.YtimdglgianheiaaGreatDoorP2
namespace Go.Proofs.YtimdglgianheiaaGreatDoor
open Go.RowKit
theorem bx6 {w : World} {g : Nat} {x y z x' y' z' : Value} (h : Bx w g x y z x' y' z') : w.cell? ⟨g, 0, none⟩ = some x ∧ w.cell? ⟨g, 1, none⟩ = some y ∧ w.cell? ⟨g, 2, none⟩ = some z ∧ w.cell? ⟨g, 3, none⟩ = some x' ∧ w.cell? ⟨g, 4, none⟩ = some y' ∧ w.cell? ⟨g, 5, none⟩ = some z' := ⟨h.c0, h.c1, h.c2, h.c3, h.c4, h.c5⟩
theorem keep63 {w : World} {g g' : Nat} {x y z x' y' z' a b c : Value} (B : Box w g' a b c) (hg : g' ≠ g) : Box ((((((w.setCell ⟨g, 0, none⟩ x).setCell ⟨g, 1, none⟩ y).setCell ⟨g, 2, none⟩ z).setCell ⟨g, 3, none⟩ x').setCell ⟨g, 4, none⟩ y').setCell ⟨g, 5, none⟩ z') g' a b c := ⟨(set6_other hg).trans B.c0, (set6_other hg).trans B.c1, (set6_other hg).trans B.c2⟩
theorem keep36 {w : World} {g g' : Nat} {x y z x' y' z' a b c : Value} (B : Bx w g' x y z x' y' z') (hg : g' ≠ g) : Bx (((w.setCell ⟨g, 0, none⟩ a).setCell ⟨g, 1, none⟩ b).setCell ⟨g, 2, none⟩ c) g' x y z x' y' z' :=
  ⟨(set3_other hg).trans B.c0, (set3_other hg).trans B.c1, (set3_other hg).trans B.c2, (set3_other hg).trans B.c3, (set3_other hg).trans B.c4, (set3_other hg).trans B.c5⟩
set_option maxRecDepth 4000 in
set_option maxHeartbeats 1000000 in
theorem iadd_any (w : World) (va vb : Value) (l h l' h' : Dyadic) (P Q : Nat) (ha : In w va l h) (hb : In w vb l' h') (r1 : Rg P Q l) (r2 : Rg P Q h) (r3 : Rg P Q l') (r4 : Rg P Q h') (hp : P + Q ≤ 2400) (T : Tb w) :
    Calls Tryz.prog 25 #[va, vb] w (RetI w (l + l') (h + h')) := by
  obtain ⟨ba, Aa, na, ca, ea, ba', Aa', na', ca', ea', rfl, a1, a2⟩ := ha
  obtain ⟨bb, Ab, nb, cb, eb, bb', Ab', nb', cb', eb', rfl, b1, b2⟩ := hb
  go_enter Tryz.func25, Tryz.ntmps25
  go_wp2
  generalize hW0 : (((w.alloc (.cells #[.bool ba, .slice Aa na ca, .int .i64 ea, .bool ba', .slice Aa' na' ca', .int .i64 ea'] 26)).alloc (.cells #[.bool bb, .slice Ab nb cb, .int .i64 eb, .bool bb', .slice Ab' nb' cb', .int .i64 eb'] 26)).alloc (.cells #[.bool false, .slice none 0 0, .int .i64 0, .bool false, .slice none 0 0, .int .i64 0] 26)) = W0
  have Ba : Bx W0 (w.heap.size) (.bool ba) (.slice Aa na ca) (.int .i64 ea) (.bool ba') (.slice Aa' na' ca') (.int .i64 ea') := by rw [← hW0]; exact Bx.at (((Ext.refl _).alloc _).alloc _) (by simp)
  have Bb : Bx W0 (w.heap.size + 1) (.bool bb) (.slice Ab nb cb) (.int .i64 eb) (.bool bb') (.slice Ab' nb' cb') (.int .i64 eb') := by rw [← hW0]; exact Bx.at ((Ext.refl _).alloc _) (by simp)
  have Z0 : Zi W0 (w.heap.size + 1 + 1) := by rw [← hW0]; exact Zi.at (Ext.refl _) (by simp)
  have E0 : Ext w W0 := by rw [← hW0]; exact ((((Ext.refl w).alloc _).alloc _).alloc _)
  obtain ⟨Ba_0, Ba_1, Ba_2, Ba_3, Ba_4, Ba_5⟩ := id Ba
  have NBa : (w.heap.size : Nat) ≠ w.heap.size + 1 + 1 := by omega
  obtain ⟨Bb_0, Bb_1, Bb_2, Bb_3, Bb_4, Bb_5⟩ := id Bb
  have NBb : (w.heap.size + 1 : Nat) ≠ w.heap.size + 1 + 1 := by omega
  replace a1 := a1.ext E0
  replace a2 := a2.ext E0
  replace b1 := b1.ext E0
  replace b2 := b2.ext E0
  replace T := T.ext E0
  clear hW0
  go_region_held3 (fun w' => (w'.cell? ⟨w.heap.size, 0, none⟩ = some (.bool ba) ∧ w'.cell? ⟨w.heap.size, 1, none⟩ = some (.slice Aa na ca) ∧ w'.cell? ⟨w.heap.size, 2, none⟩ = some (.int .i64 ea) ∧ w'.cell? ⟨w.heap.size, 3, none⟩ = some (.bool ba') ∧ w'.cell? ⟨w.heap.size, 4, none⟩ = some (.slice Aa' na' ca') ∧ w'.cell? ⟨w.heap.size, 5, none⟩ = some (.int .i64 ea')) ∧ (w'.cell? ⟨w.heap.size + 1, 0, none⟩ = some (.bool bb) ∧ w'.cell? ⟨w.heap.size + 1, 1, none⟩ = some (.slice Ab nb cb) ∧ w'.cell? ⟨w.heap.size + 1, 2, none⟩ = some (.int .i64 eb) ∧ w'.cell? ⟨w.heap.size + 1, 3, none⟩ = some (.bool bb') ∧ w'.cell? ⟨w.heap.size + 1, 4, none⟩ = some (.slice Ab' nb' cb') ∧ w'.cell? ⟨w.heap.size + 1, 5, none⟩ = some (.int .i64 eb'))) (first | (with_reducible exact ⟨bx6 (Ba.ext F2), bx6 (Bb.ext F2)⟩) | (with_reducible exact ⟨bx6 (Ba.ext F1), bx6 (Bb.ext F1)⟩) | (with_reducible exact ⟨bx6 (Zi.keep (Ba.ext F2) NBa), bx6 (Zi.keep (Bb.ext F2) NBb)⟩) | go_keep) (first | ((have hF2 := F1); (go_at_call 42); (refine (addD_any _ _ _ h h' P Q (a2.ext F1) (b2.ext F1) r2 r4 hp (T.ext F1)).mono ?_); (rintro _ u2 ⟨v2, rfl, m2, e2⟩); (have F2 : Ext W0 u2 := F1.trans e2); (replace m1 := m1.ext e2); (obtain ⟨y1, Y1, p1, q1, x1, rfl⟩ := m1.form); (obtain ⟨y2, Y2, p2, q2, x2, rfl⟩ := m2.form); (have Z1 := Z0.ext F2); (have g0 := Z1.c0); (have f0 := Z1.f 0); (have g1 := Z1.c1); (have f1 := Z1.f 1); (have g2 := Z1.c2); (have f2 := Z1.f 2); (have g3 := Z1.c3); (have f3 := Z1.f 3); (have g4 := Z1.c4); (have f4 := Z1.f 4); (have g5 := Z1.c5); (have f5 := Z1.f 5)) | ((go_at_call 42); (refine (addD_any _ _ _ l l' P Q (a1.ext (Ext.refl W0).drew) (b1.ext (Ext.refl W0).drew) r1 r3 hp (T.ext (Ext.refl W0).drew)).mono ?_); (rintro _ u1 ⟨v1, rfl, m1, e1⟩); (have F1 : Ext W0 u1 := (Ext.refl W0).drew.trans e1)))
  go_wp2
  obtain ⟨k0, k1, k2, k3, k4, k5, hD⟩ := Z1.done m1 m2 (E0.trans F2) (by omega)
  exact bodyPost_ret (by simp [results, Tryz.results25, go_sem, k0, k1, k2, k3, k4, k5]) rfl hD
set_option maxRecDepth 4000 in
set_option maxHeartbeats 1000000 in
theorem iflip_any (w : World) (va : Value) (l h : Dyadic) (P Q : Nat) (ha : In w va l h) (r1 : Rg P Q l) (r2 : Rg P Q h) (hp : P + Q ≤ 9600) (T : Tb w) :
    Calls Tryz.prog 21 #[va] w (RetI w (-h) (-l)) := by
  obtain ⟨ba, Aa, na, ca, ea, ba', Aa', na', ca', ea', rfl, a1, a2⟩ := ha
  go_enter Tryz.func21, Tryz.ntmps21
  go_wp2
  generalize hW0 : ((w.alloc (.cells #[.bool ba, .slice Aa na ca, .int .i64 ea, .bool ba', .slice Aa' na' ca', .int .i64 ea'] 26)).alloc (.cells #[.bool false, .slice none 0 0, .int .i64 0, .bool false, .slice none 0 0, .int .i64 0] 26)) = W0
  have Ba : Bx W0 (w.heap.size) (.bool ba) (.slice Aa na ca) (.int .i64 ea) (.bool ba') (.slice Aa' na' ca') (.int .i64 ea') := by rw [← hW0]; exact Bx.at ((Ext.refl _).alloc _) (by simp)
  have Z0 : Zi W0 (w.heap.size + 1) := by rw [← hW0]; exact Zi.at (Ext.refl _) (by simp)
  have E0 : Ext w W0 := by rw [← hW0]; exact (((Ext.refl w).alloc _).alloc _)
  obtain ⟨Ba_0, Ba_1, Ba_2, Ba_3, Ba_4, Ba_5⟩ := id Ba
  have NBa : (w.heap.size : Nat) ≠ w.heap.size + 1 := by omega
  replace a1 := a1.ext E0
  replace a2 := a2.ext E0
  replace T := T.ext E0
  clear hW0
  go_region_held3 (fun w' => (w'.cell? ⟨w.heap.size, 0, none⟩ = some (.bool ba) ∧ w'.cell? ⟨w.heap.size, 1, none⟩ = some (.slice Aa na ca) ∧ w'.cell? ⟨w.heap.size, 2, none⟩ = some (.int .i64 ea) ∧ w'.cell? ⟨w.heap.size, 3, none⟩ = some (.bool ba') ∧ w'.cell? ⟨w.heap.size, 4, none⟩ = some (.slice Aa' na' ca') ∧ w'.cell? ⟨w.heap.size, 5, none⟩ = some (.int .i64 ea'))) (first | (with_reducible exact bx6 (Ba.ext F2)) | (with_reducible exact bx6 (Ba.ext F1)) | (with_reducible exact bx6 (Zi.keep (Ba.ext F2) NBa)) | go_keep) (first | ((have hF2 := F1); (go_at_call 43); (refine (flipD_any _ _ l P Q (a1.ext F1) r1 hp (T.ext F1)).mono ?_); (rintro _ u2 ⟨v2, rfl, m2, e2⟩); (have F2 : Ext W0 u2 := F1.trans e2); (replace m1 := m1.ext e2); (obtain ⟨y1, Y1, p1, q1, x1, rfl⟩ := m1.form); (obtain ⟨y2, Y2, p2, q2, x2, rfl⟩ := m2.form); (have Z1 := Z0.ext F2); (have g0 := Z1.c0); (have f0 := Z1.f 0); (have g1 := Z1.c1); (have f1 := Z1.f 1); (have g2 := Z1.c2); (have f2 := Z1.f 2); (have g3 := Z1.c3); (have f3 := Z1.f 3); (have g4 := Z1.c4); (have f4 := Z1.f 4); (have g5 := Z1.c5); (have f5 := Z1.f 5)) | ((go_at_call 43); (refine (flipD_any _ _ h P Q (a2.ext (Ext.refl W0).drew) r2 hp (T.ext (Ext.refl W0).drew)).mono ?_); (rintro _ u1 ⟨v1, rfl, m1, e1⟩); (have F1 : Ext W0 u1 := (Ext.refl W0).drew.trans e1)))
  go_wp2
  obtain ⟨k0, k1, k2, k3, k4, k5, hD⟩ := Z1.done m1 m2 (E0.trans F2) (by omega)
  exact bodyPost_ret (by simp [results, Tryz.results21, go_sem, k0, k1, k2, k3, k4, k5]) rfl hD
set_option maxRecDepth 4000 in
set_option maxHeartbeats 1000000 in
theorem ishift_any (w : World) (va : Value) (l h : Dyadic) (j : Int) (P Q : Nat) (ha : In w va l h) (r1 : Rg P Q l) (r2 : Rg P Q h) (hp : P + Q ≤ 9600) (hj : -400000 ≤ j ∧ j ≤ 400000) (T : Tb w) :
    Calls Tryz.prog 23 #[va, .int .i64 j] w (RetI w (l * dy 1 j) (h * dy 1 j)) := by
  obtain ⟨ba, Aa, na, ca, ea, ba', Aa', na', ca', ea', rfl, a1, a2⟩ := ha
  go_enter Tryz.func23, Tryz.ntmps23
  go_wp2
  generalize hW0 : ((w.alloc (.cells #[.bool ba, .slice Aa na ca, .int .i64 ea, .bool ba', .slice Aa' na' ca', .int .i64 ea'] 26)).alloc (.cells #[.bool false, .slice none 0 0, .int .i64 0, .bool false, .slice none 0 0, .int .i64 0] 26)) = W0
  have Ba : Bx W0 (w.heap.size) (.bool ba) (.slice Aa na ca) (.int .i64 ea) (.bool ba') (.slice Aa' na' ca') (.int .i64 ea') := by rw [← hW0]; exact Bx.at ((Ext.refl _).alloc _) (by simp)
  have Z0 : Zi W0 (w.heap.size + 1) := by rw [← hW0]; exact Zi.at (Ext.refl _) (by simp)
  have E0 : Ext w W0 := by rw [← hW0]; exact (((Ext.refl w).alloc _).alloc _)
  obtain ⟨Ba_0, Ba_1, Ba_2, Ba_3, Ba_4, Ba_5⟩ := id Ba
  have NBa : (w.heap.size : Nat) ≠ w.heap.size + 1 := by omega
  replace a1 := a1.ext E0
  replace a2 := a2.ext E0
  replace T := T.ext E0
  clear hW0
  go_region_held3 (fun w' => (w'.cell? ⟨w.heap.size, 0, none⟩ = some (.bool ba) ∧ w'.cell? ⟨w.heap.size, 1, none⟩ = some (.slice Aa na ca) ∧ w'.cell? ⟨w.heap.size, 2, none⟩ = some (.int .i64 ea) ∧ w'.cell? ⟨w.heap.size, 3, none⟩ = some (.bool ba') ∧ w'.cell? ⟨w.heap.size, 4, none⟩ = some (.slice Aa' na' ca') ∧ w'.cell? ⟨w.heap.size, 5, none⟩ = some (.int .i64 ea'))) (first | (with_reducible exact bx6 (Ba.ext F2)) | (with_reducible exact bx6 (Ba.ext F1)) | (with_reducible exact bx6 (Zi.keep (Ba.ext F2) NBa)) | go_keep) (first | ((have hF2 := F1); (go_at_call 40); (refine (shiftN_any _ _ h (h * dy 1 j) j P Q rfl (a2.ext F1) r2 hp hj (T.ext F1)).mono ?_); (rintro _ u2 ⟨v2, rfl, m2, e2⟩); (have F2 : Ext W0 u2 := F1.trans e2); (replace m1 := m1.ext e2); (obtain ⟨y1, Y1, p1, q1, x1, rfl⟩ := m1.form); (obtain ⟨y2, Y2, p2, q2, x2, rfl⟩ := m2.form); (have Z1 := Z0.ext F2); (have g0 := Z1.c0); (have f0 := Z1.f 0); (have g1 := Z1.c1); (have f1 := Z1.f 1); (have g2 := Z1.c2); (have f2 := Z1.f 2); (have g3 := Z1.c3); (have f3 := Z1.f 3); (have g4 := Z1.c4); (have f4 := Z1.f 4); (have g5 := Z1.c5); (have f5 := Z1.f 5)) | ((go_at_call 40); (refine (shiftN_any _ _ l (l * dy 1 j) j P Q rfl (a1.ext (Ext.refl W0).drew) r1 hp hj (T.ext (Ext.refl W0).drew)).mono ?_); (rintro _ u1 ⟨v1, rfl, m1, e1⟩); (have F1 : Ext W0 u1 := (Ext.refl W0).drew.trans e1)))
  go_wp2
  obtain ⟨k0, k1, k2, k3, k4, k5, hD⟩ := Z1.done m1 m2 (E0.trans F2) (by omega)
  exact bodyPost_ret (by simp [results, Tryz.results23, go_sem, k0, k1, k2, k3, k4, k5]) rfl hD
theorem shift_none (x : Dyadic) : x * dy 1 0 = x := by rw [dy_one]; grind
set_option maxRecDepth 4000 in
set_option maxHeartbeats 1000000 in
theorem ipoint_any (w : World) (va : Value) (x : Dyadic) (P Q : Nat) (ha : Dn w va x) (r1 : Rg P Q x) (hp : P + Q ≤ 9600) (T : Tb w) :
    Calls Tryz.prog 12 #[va] w (RetI w x x) := by
  obtain ⟨ba, Aa, na, ca, ea, rfl⟩ := ha.form
  go_enter Tryz.func12, Tryz.ntmps12
  go_wp2
  generalize hW0 : ((w.alloc (.cells #[.bool ba, .slice Aa na ca, .int .i64 ea] 24)).alloc (.cells #[.bool false, .slice none 0 0, .int .i64 0, .bool false, .slice none 0 0, .int .i64 0] 26)) = W0
  have Ba : Box W0 (w.heap.size) (.bool ba) (.slice Aa na ca) (.int .i64 ea) := by rw [← hW0]; exact Box.at ((Ext.refl _).alloc _) (by simp)
  have Z0 : Zi W0 (w.heap.size + 1) := by rw [← hW0]; exact Zi.at (Ext.refl _) (by simp)
  have E0 : Ext w W0 := by rw [← hW0]; exact (((Ext.refl w).alloc _).alloc _)
  obtain ⟨Ba_0, Ba_1, Ba_2⟩ := id Ba
  have NBa : (w.heap.size : Nat) ≠ w.heap.size + 1 := by omega
  replace ha := ha.ext E0
  replace T := T.ext E0
  clear hW0
  go_region_held3 (fun w' => (w'.cell? ⟨w.heap.size, 0, none⟩ = some (.bool ba) ∧ w'.cell? ⟨w.heap.size, 1, none⟩ = some (.slice Aa na ca) ∧ w'.cell? ⟨w.heap.size, 2, none⟩ = some (.int .i64 ea))) (first | (with_reducible exact box3 (Ba.ext F2)) | (with_reducible exact box3 (Ba.ext F1)) | (with_reducible exact box3 (keep63 (Ba.ext F2) NBa)) | go_keep) (first | ((have hF2 := F1); (go_at_call 40); (refine (shiftN_any _ _ x x 0 P Q (shift_none x) (ha.ext F1) r1 hp (by omega) (T.ext F1)).mono ?_); (rintro _ u2 ⟨v2, rfl, m2, e2⟩); (have F2 : Ext W0 u2 := F1.trans e2); (replace m1 := m1.ext e2); (obtain ⟨y1, Y1, p1, q1, x1, rfl⟩ := m1.form); (obtain ⟨y2, Y2, p2, q2, x2, rfl⟩ := m2.form); (have Z1 := Z0.ext F2); (have g0 := Z1.c0); (have f0 := Z1.f 0); (have g1 := Z1.c1); (have f1 := Z1.f 1); (have g2 := Z1.c2); (have f2 := Z1.f 2); (have g3 := Z1.c3); (have f3 := Z1.f 3); (have g4 := Z1.c4); (have f4 := Z1.f 4); (have g5 := Z1.c5); (have f5 := Z1.f 5)) | ((go_at_call 40); (refine (shiftN_any _ _ x x 0 P Q (shift_none x) (ha.ext (Ext.refl W0).drew) r1 hp (by omega) (T.ext (Ext.refl W0).drew)).mono ?_); (rintro _ u1 ⟨v1, rfl, m1, e1⟩); (have F1 : Ext W0 u1 := (Ext.refl W0).drew.trans e1)))
  go_wp2
  obtain ⟨k0, k1, k2, k3, k4, k5, hD⟩ := Z1.done m1 m2 (E0.trans F2) (by omega)
  exact bodyPost_ret (by simp [results, Tryz.results12, go_sem, k0, k1, k2, k3, k4, k5]) rfl hD
set_option maxRecDepth 4000 in
set_option maxHeartbeats 1000000 in
theorem iwide_any (w : World) (va : Value) (l h : Dyadic) (P Q : Nat) (ha : In w va l h) (r1 : Rg P Q l) (r2 : Rg P Q h) (hp : P + Q ≤ 2400) (T : Tb w) :
    Calls Tryz.prog 19 #[va] w (RetD w (h + -l)) := by
  obtain ⟨ba, Aa, na, ca, ea, ba', Aa', na', ca', ea', rfl, a1, a2⟩ := ha
  go_enter Tryz.func19, Tryz.ntmps19
  go_wp2
  generalize hW0 : ((w.alloc (.cells #[.bool ba, .slice Aa na ca, .int .i64 ea, .bool ba', .slice Aa' na' ca', .int .i64 ea'] 26)).alloc (.cells #[.bool false, .slice none 0 0, .int .i64 0] 24)) = W0
  have Ba : Bx W0 (w.heap.size) (.bool ba) (.slice Aa na ca) (.int .i64 ea) (.bool ba') (.slice Aa' na' ca') (.int .i64 ea') := by rw [← hW0]; exact Bx.at ((Ext.refl _).alloc _) (by simp)
  have Z0 : Zd W0 (w.heap.size + 1) := by rw [← hW0]; exact Zd.at (Ext.refl _) (by simp)
  have E0 : Ext w W0 := by rw [← hW0]; exact (((Ext.refl w).alloc _).alloc _)
  obtain ⟨Ba_0, Ba_1, Ba_2, Ba_3, Ba_4, Ba_5⟩ := id Ba
  have NBa : (w.heap.size : Nat) ≠ w.heap.size + 1 := by omega
  replace a1 := a1.ext E0
  replace a2 := a2.ext E0
  replace T := T.ext E0
  clear hW0
  go_region_held3 (fun w' => (w'.cell? ⟨w.heap.size, 0, none⟩ = some (.bool ba) ∧ w'.cell? ⟨w.heap.size, 1, none⟩ = some (.slice Aa na ca) ∧ w'.cell? ⟨w.heap.size, 2, none⟩ = some (.int .i64 ea) ∧ w'.cell? ⟨w.heap.size, 3, none⟩ = some (.bool ba') ∧ w'.cell? ⟨w.heap.size, 4, none⟩ = some (.slice Aa' na' ca') ∧ w'.cell? ⟨w.heap.size, 5, none⟩ = some (.int .i64 ea'))) (first | (with_reducible exact bx6 (Ba.ext F2)) | (with_reducible exact bx6 (Ba.ext F1)) | (with_reducible exact bx6 (keep36 (Ba.ext F2) NBa)) | go_keep) (first | ((have hF2 := F1); (go_at_call 42); (refine (addD_any _ _ _ h (-l) P Q (a2.ext F1) m1 r2 r1.neg hp (T.ext F1)).mono ?_); (rintro _ u2 ⟨v2, rfl, m2, e2⟩); (have F2 : Ext W0 u2 := F1.trans e2); (replace m1 := m1.ext e2); (obtain ⟨y2, Y2, p2, q2, x2, rfl⟩ := m2.form); (have Z1 := Z0.ext F2); (have g0 := Z1.c0); (have f0 := Z1.f 0); (have g1 := Z1.c1); (have f1 := Z1.f 1); (have g2 := Z1.c2); (have f2 := Z1.f 2)) | ((go_at_call 43); (refine (flipD_any _ _ l P Q (a1.ext (Ext.refl W0).drew) r1 (by omega) (T.ext (Ext.refl W0).drew)).mono ?_); (rintro _ u1 ⟨v1, rfl, m1, e1⟩); (have F1 : Ext W0 u1 := (Ext.refl W0).drew.trans e1)))
  go_wp2
  obtain ⟨k0, k1, k2, hD⟩ := Z1.done m2 (E0.trans F2) (by omega)
  exact bodyPost_ret (by simp [results, Tryz.results19, go_sem, k0, k1, k2]) rfl hD

end Go.Proofs.YtimdglgianheiaaGreatDoor
