/- Walks of the document's answers on enclosures: what is made of such. -/
import Derived.Test.YtomdbmjfehoodaaGreatDoorPB
import Derived.Deep.Cut
set_option maxRecDepth 8000
namespace Go.Proofs.YtomdbmjfehoodaaGreatDoor
open Go.RowKit
set_option linter.unusedVariables false
set_option maxRecDepth 4000 in
set_option maxHeartbeats 1000000 in
theorem riadd_any (w : World) (va vb : Value) (l h l' h' : Dyadic) (P Q : Nat) (ha : In w va l h) (hb : In w vb l' h') (r1 : Rg P Q l) (r2 : Rg P Q h) (r3 : Rg P Q l') (r4 : Rg P Q h') (hp : P + Q ≤ 7200) :
    Calls Tryz.prog 30 #[va, vb] w (RetI w (l + l') (h + h')) := by
  obtain ⟨ba, Aa, na, ca, ea, ba', Aa', na', ca', ea', rfl, a1, a2⟩ := ha
  obtain ⟨bb, Ab, nb, cb, eb, bb', Ab', nb', cb', eb', rfl, b1, b2⟩ := hb
  go_enter Tryz.func30, Tryz.ntmps30
  go_wp2
  generalize hW0 : (((w.alloc (.cells #[.bool ba, .slice Aa na ca, .int .i64 ea, .bool ba', .slice Aa' na' ca', .int .i64 ea'] 33)).alloc (.cells #[.bool bb, .slice Ab nb cb, .int .i64 eb, .bool bb', .slice Ab' nb' cb', .int .i64 eb'] 33)).alloc (.cells #[.bool false, .slice none 0 0, .int .i64 0, .bool false, .slice none 0 0, .int .i64 0] 33)) = W0
  have Ba : Bx W0 (w.heap.size) (.bool ba) (.slice Aa na ca) (.int .i64 ea) (.bool ba') (.slice Aa' na' ca') (.int .i64 ea') := by rw [← hW0]; exact Bx.at (((Ext.refl _).alloc _).alloc _) (by simp)
  have Bb : Bx W0 (w.heap.size + 1) (.bool bb) (.slice Ab nb cb) (.int .i64 eb) (.bool bb') (.slice Ab' nb' cb') (.int .i64 eb') := by rw [← hW0]; exact Bx.at ((Ext.refl _).alloc _) (by simp)
  have Z0 : Zi W0 (w.heap.size + 1 + 1) := by rw [← hW0]; exact Zi.at (Ext.refl _) (by simp)
  have E0 : Ext w W0 := by rw [← hW0]; exact ((((Ext.refl w).alloc _).alloc _).alloc _)
  obtain ⟨Ba_0, Ba_1, Ba_2, Ba_3, Ba_4, Ba_5⟩ := id Ba
  have NBa : (w.heap.size : Nat) ≠ w.heap.size + 1 + 1 := by omega
  obtain ⟨Bb_0, Bb_1, Bb_2, Bb_3, Bb_4, Bb_5⟩ := id Bb
  have NBb : (w.heap.size + 1 : Nat) ≠ w.heap.size + 1 + 1 := by omega
  replace a1 := a1.ext E0
  replace a2 := a2.ext E0
  replace b1 := b1.ext E0
  replace b2 := b2.ext E0
  clear hW0
  go_region_held3 (fun w' => (w'.cell? ⟨w.heap.size, 0, none⟩ = some (.bool ba) ∧ w'.cell? ⟨w.heap.size, 1, none⟩ = some (.slice Aa na ca) ∧ w'.cell? ⟨w.heap.size, 2, none⟩ = some (.int .i64 ea) ∧ w'.cell? ⟨w.heap.size, 3, none⟩ = some (.bool ba') ∧ w'.cell? ⟨w.heap.size, 4, none⟩ = some (.slice Aa' na' ca') ∧ w'.cell? ⟨w.heap.size, 5, none⟩ = some (.int .i64 ea')) ∧ (w'.cell? ⟨w.heap.size + 1, 0, none⟩ = some (.bool bb) ∧ w'.cell? ⟨w.heap.size + 1, 1, none⟩ = some (.slice Ab nb cb) ∧ w'.cell? ⟨w.heap.size + 1, 2, none⟩ = some (.int .i64 eb) ∧ w'.cell? ⟨w.heap.size + 1, 3, none⟩ = some (.bool bb') ∧ w'.cell? ⟨w.heap.size + 1, 4, none⟩ = some (.slice Ab' nb' cb') ∧ w'.cell? ⟨w.heap.size + 1, 5, none⟩ = some (.int .i64 eb'))) (first | (with_reducible exact ⟨bx6 (Ba.ext F2), bx6 (Bb.ext F2)⟩) | (with_reducible exact ⟨bx6 (Ba.ext F1), bx6 (Bb.ext F1)⟩) | (with_reducible exact ⟨bx6 (Zi.keep (Ba.ext F2) NBa), bx6 (Zi.keep (Bb.ext F2) NBb)⟩) | go_keep) (first | ((have hF2 := F1); (go_at_call 26); (refine (raddD_any _ _ _ h h' P Q (a2.ext F1) (b2.ext F1) r2 r4 (by omega)).mono ?_); (rintro _ u2 ⟨v2, rfl, m2, e2⟩); (have F2 : Ext W0 u2 := F1.trans e2); (replace m1 := m1.ext e2); (obtain ⟨y1, Y1, p1, q1, x1, rfl⟩ := m1.form); (obtain ⟨y2, Y2, p2, q2, x2, rfl⟩ := m2.form); (have Z1 := Z0.ext F2); (have g0 := Z1.c0); (have f0 := Z1.f 0); (have g1 := Z1.c1); (have f1 := Z1.f 1); (have g2 := Z1.c2); (have f2 := Z1.f 2); (have g3 := Z1.c3); (have f3 := Z1.f 3); (have g4 := Z1.c4); (have f4 := Z1.f 4); (have g5 := Z1.c5); (have f5 := Z1.f 5)) | ((go_at_call 26); (refine (raddD_any _ _ _ l l' P Q (a1.ext (Ext.refl W0).drew) (b1.ext (Ext.refl W0).drew) r1 r3 (by omega)).mono ?_); (rintro _ u1 ⟨v1, rfl, m1, e1⟩); (have F1 : Ext W0 u1 := (Ext.refl W0).drew.trans e1)))
  go_wp2
  obtain ⟨k0, k1, k2, k3, k4, k5, hD⟩ := Z1.done m1 m2 (E0.trans F2) (by omega)
  exact bodyPost_ret (by simp [results, Tryz.results30, go_sem, k0, k1, k2, k3, k4, k5]) rfl hD
set_option maxRecDepth 4000 in
set_option maxHeartbeats 1000000 in
theorem riflip_any (w : World) (va : Value) (l h : Dyadic) (ha : In w va l h) :
    Calls Tryz.prog 34 #[va] w (RetI w (-h) (-l)) := by
  obtain ⟨ba, Aa, na, ca, ea, ba', Aa', na', ca', ea', rfl, a1, a2⟩ := ha
  go_enter Tryz.func34, Tryz.ntmps34
  go_wp2
  generalize hW0 : ((w.alloc (.cells #[.bool ba, .slice Aa na ca, .int .i64 ea, .bool ba', .slice Aa' na' ca', .int .i64 ea'] 33)).alloc (.cells #[.bool false, .slice none 0 0, .int .i64 0, .bool false, .slice none 0 0, .int .i64 0] 33)) = W0
  have Ba : Bx W0 (w.heap.size) (.bool ba) (.slice Aa na ca) (.int .i64 ea) (.bool ba') (.slice Aa' na' ca') (.int .i64 ea') := by rw [← hW0]; exact Bx.at ((Ext.refl _).alloc _) (by simp)
  have Z0 : Zi W0 (w.heap.size + 1) := by rw [← hW0]; exact Zi.at (Ext.refl _) (by simp)
  have E0 : Ext w W0 := by rw [← hW0]; exact (((Ext.refl w).alloc _).alloc _)
  obtain ⟨Ba_0, Ba_1, Ba_2, Ba_3, Ba_4, Ba_5⟩ := id Ba
  have NBa : (w.heap.size : Nat) ≠ w.heap.size + 1 := by omega
  replace a1 := a1.ext E0
  replace a2 := a2.ext E0
  clear hW0
  go_region_held3 (fun w' => (w'.cell? ⟨w.heap.size, 0, none⟩ = some (.bool ba) ∧ w'.cell? ⟨w.heap.size, 1, none⟩ = some (.slice Aa na ca) ∧ w'.cell? ⟨w.heap.size, 2, none⟩ = some (.int .i64 ea) ∧ w'.cell? ⟨w.heap.size, 3, none⟩ = some (.bool ba') ∧ w'.cell? ⟨w.heap.size, 4, none⟩ = some (.slice Aa' na' ca') ∧ w'.cell? ⟨w.heap.size, 5, none⟩ = some (.int .i64 ea'))) (first | (with_reducible exact bx6 (Ba.ext F2)) | (with_reducible exact bx6 (Ba.ext F1)) | (with_reducible exact bx6 (Zi.keep (Ba.ext F2) NBa)) | go_keep) (first | ((have hF2 := F1); (go_at_call 24); (refine (rflip_any _ _ l (a1.ext F1)).mono ?_); (rintro _ u2 ⟨v2, rfl, m2, e2⟩); (have F2 : Ext W0 u2 := F1.trans e2); (replace m1 := m1.ext e2); (obtain ⟨y1, Y1, p1, q1, x1, rfl⟩ := m1.form); (obtain ⟨y2, Y2, p2, q2, x2, rfl⟩ := m2.form); (have Z1 := Z0.ext F2); (have g0 := Z1.c0); (have f0 := Z1.f 0); (have g1 := Z1.c1); (have f1 := Z1.f 1); (have g2 := Z1.c2); (have f2 := Z1.f 2); (have g3 := Z1.c3); (have f3 := Z1.f 3); (have g4 := Z1.c4); (have f4 := Z1.f 4); (have g5 := Z1.c5); (have f5 := Z1.f 5)) | ((go_at_call 24); (refine (rflip_any _ _ h (a2.ext (Ext.refl W0).drew)).mono ?_); (rintro _ u1 ⟨v1, rfl, m1, e1⟩); (have F1 : Ext W0 u1 := (Ext.refl W0).drew.trans e1)))
  go_wp2
  obtain ⟨k0, k1, k2, k3, k4, k5, hD⟩ := Z1.done m1 m2 (E0.trans F2) (by omega)
  exact bodyPost_ret (by simp [results, Tryz.results34, go_sem, k0, k1, k2, k3, k4, k5]) rfl hD
theorem rshifty_any (w : World) (v : Value) (x : Dyadic) (k : Int) (P Q : Nat) (h : Dn w v x) (r : Rg P Q x) (hb : P + Q ≤ 9600) (hk : -400000 ≤ k ∧ k ≤ 400000) : Calls Tryz.prog 130 #[v, .int .i64 k] w (RetD w (x * dy 1 k)) := by
  obtain ⟨z, e, rfl, hc⟩ := canon_of x
  obtain ⟨b1, b2, b3⟩ := r.canon hc
  rw [dy_shift]
  exact rshift_any w v z e k h hc (Lt.of_bits (Nat.le_trans (bl_of_lt b3) (by omega))) (by omega) hk
theorem rcutl_any (w : World) (v : Value) (x : Dyadic) (n : Int) (k P Q : Nat) (hn : n = (k : Int)) (h : Dn w v x) (r : Rg P Q x) (hb : P + Q ≤ 4800) (hk : 1 ≤ k) (hk2 : k ≤ 100000) : Calls Tryz.prog 138 #[v, .int .i64 n, .bool false] w (RetD w (clo k x)) := by
  obtain ⟨z, e, rfl, hc⟩ := canon_of x
  subst hn
  rw [clo_is hc hk]; exact rcut_any w v z e k P Q false h hc r hb hk2
theorem rcuth_any (w : World) (v : Value) (x : Dyadic) (n : Int) (k P Q : Nat) (hn : n = (k : Int)) (h : Dn w v x) (r : Rg P Q x) (hb : P + Q ≤ 4800) (hk : 1 ≤ k) (hk2 : k ≤ 100000) : Calls Tryz.prog 138 #[v, .int .i64 n, .bool true] w (RetD w (chi k x)) := by
  obtain ⟨z, e, rfl, hc⟩ := canon_of x
  subst hn
  rw [chi_is hc hk]; exact rcut_any w v z e k P Q true h hc r hb hk2
set_option maxRecDepth 4000 in
set_option maxHeartbeats 1000000 in
theorem rishift_any (w : World) (va : Value) (l h : Dyadic) (j : Int) (P Q : Nat) (ha : In w va l h) (r1 : Rg P Q l) (r2 : Rg P Q h) (hp : P + Q ≤ 9600) (hj : -400000 ≤ j ∧ j ≤ 400000) :
    Calls Tryz.prog 113 #[va, .int .i64 j] w (RetI w (l * dy 1 j) (h * dy 1 j)) := by
  obtain ⟨ba, Aa, na, ca, ea, ba', Aa', na', ca', ea', rfl, a1, a2⟩ := ha
  go_enter Tryz.func113, Tryz.ntmps113
  go_wp2
  generalize hW0 : ((w.alloc (.cells #[.bool ba, .slice Aa na ca, .int .i64 ea, .bool ba', .slice Aa' na' ca', .int .i64 ea'] 33)).alloc (.cells #[.bool false, .slice none 0 0, .int .i64 0, .bool false, .slice none 0 0, .int .i64 0] 33)) = W0
  have Ba : Bx W0 (w.heap.size) (.bool ba) (.slice Aa na ca) (.int .i64 ea) (.bool ba') (.slice Aa' na' ca') (.int .i64 ea') := by rw [← hW0]; exact Bx.at ((Ext.refl _).alloc _) (by simp)
  have Z0 : Zi W0 (w.heap.size + 1) := by rw [← hW0]; exact Zi.at (Ext.refl _) (by simp)
  have E0 : Ext w W0 := by rw [← hW0]; exact (((Ext.refl w).alloc _).alloc _)
  obtain ⟨Ba_0, Ba_1, Ba_2, Ba_3, Ba_4, Ba_5⟩ := id Ba
  have NBa : (w.heap.size : Nat) ≠ w.heap.size + 1 := by omega
  replace a1 := a1.ext E0
  replace a2 := a2.ext E0
  clear hW0
  go_region_held3 (fun w' => (w'.cell? ⟨w.heap.size, 0, none⟩ = some (.bool ba) ∧ w'.cell? ⟨w.heap.size, 1, none⟩ = some (.slice Aa na ca) ∧ w'.cell? ⟨w.heap.size, 2, none⟩ = some (.int .i64 ea) ∧ w'.cell? ⟨w.heap.size, 3, none⟩ = some (.bool ba') ∧ w'.cell? ⟨w.heap.size, 4, none⟩ = some (.slice Aa' na' ca') ∧ w'.cell? ⟨w.heap.size, 5, none⟩ = some (.int .i64 ea'))) (first | (with_reducible exact bx6 (Ba.ext F2)) | (with_reducible exact bx6 (Ba.ext F1)) | (with_reducible exact bx6 (Zi.keep (Ba.ext F2) NBa)) | go_keep) (first | ((have hF2 := F1); (go_at_call 130); (refine (rshifty_any _ _ h j P Q (a2.ext F1) r2 hp hj).mono ?_); (rintro _ u2 ⟨v2, rfl, m2, e2⟩); (have F2 : Ext W0 u2 := F1.trans e2); (replace m1 := m1.ext e2); (obtain ⟨y1, Y1, p1, q1, x1, rfl⟩ := m1.form); (obtain ⟨y2, Y2, p2, q2, x2, rfl⟩ := m2.form); (have Z1 := Z0.ext F2); (have g0 := Z1.c0); (have f0 := Z1.f 0); (have g1 := Z1.c1); (have f1 := Z1.f 1); (have g2 := Z1.c2); (have f2 := Z1.f 2); (have g3 := Z1.c3); (have f3 := Z1.f 3); (have g4 := Z1.c4); (have f4 := Z1.f 4); (have g5 := Z1.c5); (have f5 := Z1.f 5)) | ((go_at_call 130); (refine (rshifty_any _ _ l j P Q (a1.ext (Ext.refl W0).drew) r1 hp hj).mono ?_); (rintro _ u1 ⟨v1, rfl, m1, e1⟩); (have F1 : Ext W0 u1 := (Ext.refl W0).drew.trans e1)))
  go_wp2
  obtain ⟨k0, k1, k2, k3, k4, k5, hD⟩ := Z1.done m1 m2 (E0.trans F2) (by omega)
  exact bodyPost_ret (by simp [results, Tryz.results113, go_sem, k0, k1, k2, k3, k4, k5]) rfl hD
set_option maxRecDepth 4000 in
set_option maxHeartbeats 1000000 in
theorem ricut_any (w : World) (va : Value) (l h : Dyadic) (j : Int) (k P Q : Nat) (hj : j = (k : Int)) (ha : In w va l h) (r1 : Rg P Q l) (r2 : Rg P Q h) (hp : P + Q ≤ 4800) (hk : 1 ≤ k) (hk2 : k ≤ 100000) :
    Calls Tryz.prog 128 #[va, .int .i64 j] w (RetI w (clo k l) (chi k h)) := by
  subst hj
  obtain ⟨ba, Aa, na, ca, ea, ba', Aa', na', ca', ea', rfl, a1, a2⟩ := ha
  go_enter Tryz.func128, Tryz.ntmps128
  go_wp2
  generalize hW0 : ((w.alloc (.cells #[.bool ba, .slice Aa na ca, .int .i64 ea, .bool ba', .slice Aa' na' ca', .int .i64 ea'] 33)).alloc (.cells #[.bool false, .slice none 0 0, .int .i64 0, .bool false, .slice none 0 0, .int .i64 0] 33)) = W0
  have Ba : Bx W0 (w.heap.size) (.bool ba) (.slice Aa na ca) (.int .i64 ea) (.bool ba') (.slice Aa' na' ca') (.int .i64 ea') := by rw [← hW0]; exact Bx.at ((Ext.refl _).alloc _) (by simp)
  have Z0 : Zi W0 (w.heap.size + 1) := by rw [← hW0]; exact Zi.at (Ext.refl _) (by simp)
  have E0 : Ext w W0 := by rw [← hW0]; exact (((Ext.refl w).alloc _).alloc _)
  obtain ⟨Ba_0, Ba_1, Ba_2, Ba_3, Ba_4, Ba_5⟩ := id Ba
  have NBa : (w.heap.size : Nat) ≠ w.heap.size + 1 := by omega
  replace a1 := a1.ext E0
  replace a2 := a2.ext E0
  clear hW0
  go_region_held3 (fun w' => (w'.cell? ⟨w.heap.size, 0, none⟩ = some (.bool ba) ∧ w'.cell? ⟨w.heap.size, 1, none⟩ = some (.slice Aa na ca) ∧ w'.cell? ⟨w.heap.size, 2, none⟩ = some (.int .i64 ea) ∧ w'.cell? ⟨w.heap.size, 3, none⟩ = some (.bool ba') ∧ w'.cell? ⟨w.heap.size, 4, none⟩ = some (.slice Aa' na' ca') ∧ w'.cell? ⟨w.heap.size, 5, none⟩ = some (.int .i64 ea'))) (first | (with_reducible exact bx6 (Ba.ext F2)) | (with_reducible exact bx6 (Ba.ext F1)) | (with_reducible exact bx6 (Zi.keep (Ba.ext F2) NBa)) | go_keep) (first | ((have hF2 := F1); (go_at_call 138); (refine (rcuth_any _ _ h _ k P Q rfl (a2.ext F1) r2 hp hk hk2).mono ?_); (rintro _ u2 ⟨v2, rfl, m2, e2⟩); (have F2 : Ext W0 u2 := F1.trans e2); (replace m1 := m1.ext e2); (obtain ⟨y1, Y1, p1, q1, x1, rfl⟩ := m1.form); (obtain ⟨y2, Y2, p2, q2, x2, rfl⟩ := m2.form); (have Z1 := Z0.ext F2); (have g0 := Z1.c0); (have f0 := Z1.f 0); (have g1 := Z1.c1); (have f1 := Z1.f 1); (have g2 := Z1.c2); (have f2 := Z1.f 2); (have g3 := Z1.c3); (have f3 := Z1.f 3); (have g4 := Z1.c4); (have f4 := Z1.f 4); (have g5 := Z1.c5); (have f5 := Z1.f 5)) | ((go_at_call 138); (refine (rcutl_any _ _ l _ k P Q rfl (a1.ext (Ext.refl W0).drew) r1 hp hk hk2).mono ?_); (rintro _ u1 ⟨v1, rfl, m1, e1⟩); (have F1 : Ext W0 u1 := (Ext.refl W0).drew.trans e1)))
  go_wp2
  obtain ⟨k0, k1, k2, k3, k4, k5, hD⟩ := Z1.done m1 m2 (E0.trans F2) (by omega)
  exact bodyPost_ret (by simp [results, Tryz.results128, go_sem, k0, k1, k2, k3, k4, k5]) rfl hD
set_option maxRecDepth 4000 in
set_option maxHeartbeats 1000000 in
theorem rhas_any (w : World) (va vb : Value) (l h x : Dyadic) (P Q : Nat) (ha : In w va l h) (hb : Dn w vb x) (r1 : Rg P Q l) (r2 : Rg P Q h) (r3 : Rg P Q x) (hp : P + Q ≤ 7200) :
    Calls Tryz.prog 29 #[va, vb] w (RetE w (.bool (hasB l h x))) := by
  obtain ⟨ba, Aa, na, ca, ea, ba', Aa', na', ca', ea', rfl, a1, a2⟩ := ha
  obtain ⟨bb, Ab, nb, cb, eb, rfl⟩ := hb.form
  obtain ⟨t, ht⟩ : ∃ t, cmpD l x = t := ⟨_, rfl⟩
  obtain ⟨s, hs⟩ : ∃ s, cmpD x h = s := ⟨_, rfl⟩
  have k1 := cmp_le l x
  have k2 := cmp_le x h
  rw [ht] at k1
  rw [hs] at k2
  have HC1 := Lib.hid (fun (w' : World) (E : Ext w w') => ht ▸ rcmpD_any w' _ _ l x P Q (a1.ext E) (hb.ext E) r1 r3 (by omega))
  have HC2 := Lib.hid (fun (w' : World) (E : Ext w w') => hs ▸ rcmpD_any w' _ _ x h P Q (hb.ext E) (a2.ext E) r3 r2 (by omega))
  clear ht hs
  by_cases q0 : l ≤ x
  · have j0 := k1.2 q0
    by_cases q1 : x ≤ h
    · have j1 := k2.2 q1
      go_enter Tryz.func29, Tryz.ntmps29
      go_wp2_with fail
      refine (HC1.out _ (((Ext.refl w).alloc _).alloc _)).mono ?_
      rintro _ w1 ⟨rfl, e1⟩
      have E1 : Ext w w1 := (((Ext.refl w).alloc _).alloc _).trans e1
      have Ba : Bx w1 (w.heap.size) (.bool ba) (.slice Aa na ca) (.int .i64 ea) (.bool ba') (.slice Aa' na' ca') (.int .i64 ea') := Bx.at (((Ext.refl _).alloc _).trans e1) (by simp)
      have Bb : Box w1 (w.heap.size + 1) (.bool bb) (.slice Ab nb cb) (.int .i64 eb) := Box.at ((Ext.refl _).trans e1) (by simp)
      obtain ⟨d0a0, d0a1, d0a2, d0a3, d0a4, d0a5⟩ := id Ba
      obtain ⟨d0b0, d0b1, d0b2⟩ := id Bb
      go_wp2_with fail
      refine (HC2.out _ E1).mono ?_
      rintro _ w2 ⟨rfl, e2⟩
      have E2 : Ext w w2 := E1.trans e2
      replace Ba := Ba.ext e2
      replace Bb := Bb.ext e2
      go_wp2
      go_ret
      exact ⟨by simp [hasB, q0, q1], E2⟩
    · have j1 : ¬ s ≤ 0 := fun h0 => q1 (k2.1 h0)
      go_enter Tryz.func29, Tryz.ntmps29
      go_wp2_with fail
      refine (HC1.out _ (((Ext.refl w).alloc _).alloc _)).mono ?_
      rintro _ w1 ⟨rfl, e1⟩
      have E1 : Ext w w1 := (((Ext.refl w).alloc _).alloc _).trans e1
      have Ba : Bx w1 (w.heap.size) (.bool ba) (.slice Aa na ca) (.int .i64 ea) (.bool ba') (.slice Aa' na' ca') (.int .i64 ea') := Bx.at (((Ext.refl _).alloc _).trans e1) (by simp)
      have Bb : Box w1 (w.heap.size + 1) (.bool bb) (.slice Ab nb cb) (.int .i64 eb) := Box.at ((Ext.refl _).trans e1) (by simp)
      obtain ⟨d0a0, d0a1, d0a2, d0a3, d0a4, d0a5⟩ := id Ba
      obtain ⟨d0b0, d0b1, d0b2⟩ := id Bb
      go_wp2_with fail
      refine (HC2.out _ E1).mono ?_
      rintro _ w2 ⟨rfl, e2⟩
      have E2 : Ext w w2 := E1.trans e2
      replace Ba := Ba.ext e2
      replace Bb := Bb.ext e2
      go_wp2
      go_ret
      exact ⟨by simp [hasB, q0, q1], E2⟩
  · have j0 : ¬ t ≤ 0 := fun h0 => q0 (k1.1 h0)
    go_enter Tryz.func29, Tryz.ntmps29
    go_wp2_with fail
    refine (HC1.out _ (((Ext.refl w).alloc _).alloc _)).mono ?_
    rintro _ w1 ⟨rfl, e1⟩
    have E1 : Ext w w1 := (((Ext.refl w).alloc _).alloc _).trans e1
    have Ba : Bx w1 (w.heap.size) (.bool ba) (.slice Aa na ca) (.int .i64 ea) (.bool ba') (.slice Aa' na' ca') (.int .i64 ea') := Bx.at (((Ext.refl _).alloc _).trans e1) (by simp)
    have Bb : Box w1 (w.heap.size + 1) (.bool bb) (.slice Ab nb cb) (.int .i64 eb) := Box.at ((Ext.refl _).trans e1) (by simp)
    go_wp2
    go_ret
    exact ⟨by simp [hasB, q0], E1⟩
set_option maxRecDepth 4000 in
set_option maxHeartbeats 1000000 in
theorem rinside_any (w : World) (va vb : Value) (l h l' h' : Dyadic) (P Q : Nat) (ha : In w va l h) (hb : In w vb l' h') (r1 : Rg P Q l) (r2 : Rg P Q h) (r3 : Rg P Q l') (r4 : Rg P Q h') (hp : P + Q ≤ 7200) :
    Calls Tryz.prog 36 #[va, vb] w (RetE w (.bool (decide (l' ≤ l) && decide (h ≤ h')))) := by
  obtain ⟨ba, Aa, na, ca, ea, ba', Aa', na', ca', ea', rfl, a1, a2⟩ := ha
  obtain ⟨bb, Ab, nb, cb, eb, bb', Ab', nb', cb', eb', rfl, b1, b2⟩ := hb
  obtain ⟨t, ht⟩ : ∃ t, cmpD l' l = t := ⟨_, rfl⟩
  obtain ⟨s, hs⟩ : ∃ s, cmpD h h' = s := ⟨_, rfl⟩
  have k1 := cmp_le l' l
  have k2 := cmp_le h h'
  rw [ht] at k1
  rw [hs] at k2
  have HC1 := Lib.hid (fun (w' : World) (E : Ext w w') => ht ▸ rcmpD_any w' _ _ l' l P Q (b1.ext E) (a1.ext E) r3 r1 (by omega))
  have HC2 := Lib.hid (fun (w' : World) (E : Ext w w') => hs ▸ rcmpD_any w' _ _ h h' P Q (a2.ext E) (b2.ext E) r2 r4 (by omega))
  clear ht hs
  by_cases q0 : l' ≤ l
  · have j0 := k1.2 q0
    by_cases q1 : h ≤ h'
    · have j1 := k2.2 q1
      go_enter Tryz.func36, Tryz.ntmps36
      go_wp2_with fail
      refine (HC1.out _ (((Ext.refl w).alloc _).alloc _)).mono ?_
      rintro _ w1 ⟨rfl, e1⟩
      have E1 : Ext w w1 := (((Ext.refl w).alloc _).alloc _).trans e1
      have Ba : Bx w1 (w.heap.size) (.bool ba) (.slice Aa na ca) (.int .i64 ea) (.bool ba') (.slice Aa' na' ca') (.int .i64 ea') := Bx.at (((Ext.refl _).alloc _).trans e1) (by simp)
      have Bb : Bx w1 (w.heap.size + 1) (.bool bb) (.slice Ab nb cb) (.int .i64 eb) (.bool bb') (.slice Ab' nb' cb') (.int .i64 eb') := Bx.at ((Ext.refl _).trans e1) (by simp)
      obtain ⟨d0a0, d0a1, d0a2, d0a3, d0a4, d0a5⟩ := id Ba
      obtain ⟨d0b0, d0b1, d0b2, d0b3, d0b4, d0b5⟩ := id Bb
      go_wp2_with fail
      refine (HC2.out _ E1).mono ?_
      rintro _ w2 ⟨rfl, e2⟩
      have E2 : Ext w w2 := E1.trans e2
      replace Ba := Ba.ext e2
      replace Bb := Bb.ext e2
      go_wp2
      go_ret
      exact ⟨by simp [q0, q1], E2⟩
    · have j1 : ¬ s ≤ 0 := fun h0 => q1 (k2.1 h0)
      go_enter Tryz.func36, Tryz.ntmps36
      go_wp2_with fail
      refine (HC1.out _ (((Ext.refl w).alloc _).alloc _)).mono ?_
      rintro _ w1 ⟨rfl, e1⟩
      have E1 : Ext w w1 := (((Ext.refl w).alloc _).alloc _).trans e1
      have Ba : Bx w1 (w.heap.size) (.bool ba) (.slice Aa na ca) (.int .i64 ea) (.bool ba') (.slice Aa' na' ca') (.int .i64 ea') := Bx.at (((Ext.refl _).alloc _).trans e1) (by simp)
      have Bb : Bx w1 (w.heap.size + 1) (.bool bb) (.slice Ab nb cb) (.int .i64 eb) (.bool bb') (.slice Ab' nb' cb') (.int .i64 eb') := Bx.at ((Ext.refl _).trans e1) (by simp)
      obtain ⟨d0a0, d0a1, d0a2, d0a3, d0a4, d0a5⟩ := id Ba
      obtain ⟨d0b0, d0b1, d0b2, d0b3, d0b4, d0b5⟩ := id Bb
      go_wp2_with fail
      refine (HC2.out _ E1).mono ?_
      rintro _ w2 ⟨rfl, e2⟩
      have E2 : Ext w w2 := E1.trans e2
      replace Ba := Ba.ext e2
      replace Bb := Bb.ext e2
      go_wp2
      go_ret
      exact ⟨by simp [q0, q1], E2⟩
  · have j0 : ¬ t ≤ 0 := fun h0 => q0 (k1.1 h0)
    go_enter Tryz.func36, Tryz.ntmps36
    go_wp2_with fail
    refine (HC1.out _ (((Ext.refl w).alloc _).alloc _)).mono ?_
    rintro _ w1 ⟨rfl, e1⟩
    have E1 : Ext w w1 := (((Ext.refl w).alloc _).alloc _).trans e1
    have Ba : Bx w1 (w.heap.size) (.bool ba) (.slice Aa na ca) (.int .i64 ea) (.bool ba') (.slice Aa' na' ca') (.int .i64 ea') := Bx.at (((Ext.refl _).alloc _).trans e1) (by simp)
    have Bb : Bx w1 (w.heap.size + 1) (.bool bb) (.slice Ab nb cb) (.int .i64 eb) (.bool bb') (.slice Ab' nb' cb') (.int .i64 eb') := Bx.at ((Ext.refl _).trans e1) (by simp)
    go_wp2
    go_ret
    exact ⟨by simp [q0], E1⟩
/-- Between ends that are in order both ways of asking are alike. -/
theorem inside_dec {l h l' h' : Dyadic} (h1 : l ≤ h) : (hasB l' h' l && hasB l' h' h) = (decide (l' ≤ l) && decide (h ≤ h')) := by
  unfold hasB
  by_cases a : l' ≤ l
  · by_cases b : h ≤ h'
    · rw [decide_eq_true a, decide_eq_true b, decide_eq_true (show l ≤ h' by grind), decide_eq_true (show l' ≤ h by grind)]; rfl
    · rw [decide_eq_false b, Bool.and_false, Bool.and_false, Bool.and_false]
  · rw [decide_eq_false a]; rfl
theorem rsame_nats (w : World) (va vb : Value) (m n : Nat) (ha : N w va m) (hb : N w vb n) : Calls Tryz.prog 53 #[va, vb] w (RetE w (.bool (decide (m = n)))) := (same_nat w va vb m n ha hb).mono fun _ _ ⟨he, hq⟩ => ⟨he, hq.ext⟩
theorem rmake_nn (w : World) (v : Value) (m : Nat) (e : Int) (h : N w v m) (hm : Lt 400 m) (he : -1000000 ≤ e ∧ e ≤ 1000000) : Calls Tryz.prog 39 #[.bool false, v, .int .i64 e] w (RetD w (dy (m : Int) e)) := by
  have := rmake_any w false v m e h (hm.mono (by omega)) he
  have e1 : sg false m = (m : Int) := by simp [sg]
  rwa [e1] at this
theorem pow_more {m a b : Nat} (h : m < 2 ^ a) (k : a ≤ b) : m < 2 ^ b := Nat.lt_of_lt_of_le h (Nat.pow_le_pow_right (by omega) k)
theorem Sq.le {m r B : Nat} (h : Sq m r) (hm : m < B * B) : r < B := by
  rcases Nat.lt_or_ge r B with k | k
  · exact k
  · exfalso
    have h1 := h.1
    have h2 := Nat.mul_le_mul k k
    omega
theorem Sq.same {m r q : Nat} (h : Sq m r) (g : Sq m q) : q = r := by
  have a : q < r + 1 := g.le h.2
  have b : r < q + 1 := h.le g.2
  omega
set_option maxRecDepth 10000 in
set_option maxHeartbeats 1000000 in
theorem rirt_even_yes (w : World) (b : Bool) (A : Option Addr) (l c z r k K L : Nat) (E t : Int) (up : Bool) (d : Dyadic) (hl0 : ((l : Int) == 0) = false) (hN : N w (.slice A l c) z) (lz : Lt 100 z) (hz : z ≠ 0) (hL : bl z = L) (hK : 2 * k + 4 - L = K) (hk : k ≤ 1000) (hE : -5000 ≤ E ∧ E ≤ 5000)
    (ht : E = 2 * t + (K : Int)) (hr : Sq (z * 2 ^ K) r) (hx : r * r = z * 2 ^ K) (HC : Hid (∀ w' v, Dn w' v (dy (r : Int) t) → Calls Tryz.prog 138 #[v, .int .i64 k, .bool up] w' (RetD w' d))) :
    Calls Tryz.prog 129 #[.agg #[.bool b, .slice A l c, .int .i64 E], .int .i64 k, .bool up] w (RetD w d) := by
  have hL2 : L ≤ 2400 := by rw [← hL]; exact lz.bits
  obtain ⟨B, hB⟩ : ∃ B : Nat, B = 2400 := ⟨_, rfl⟩
  have hL1 : z < 2 ^ B := pow_more (bl_lt z) (by omega)
  obtain ⟨m, hm⟩ : ∃ m, z * 2 ^ K = m := ⟨_, rfl⟩
  have hml : m < 2 ^ B * 2 ^ B := by
    rw [← hm]
    have h1 : z * 2 ^ K < 2 ^ B * 2 ^ K := Nat.mul_lt_mul_of_pos_right hL1 (Nat.two_pow_pos _)
    have h2 : 2 ^ B * 2 ^ K ≤ 2 ^ B * 2 ^ B := Nat.mul_le_mul_left _ (Nat.pow_le_pow_right (by omega) (by omega))
    exact Nat.lt_of_lt_of_le h1 h2
  have hrl : r < 2 ^ B := hr.le (by rw [hm]; exact hml)
  have hlm : Lt 400 m := Lt.of_bits (Nat.le_trans (bl_of_lt (by rw [← Nat.pow_add] at hml; exact hml)) (by omega))
  have hlr : Lt 400 r := Lt.of_bits (Nat.le_trans (bl_of_lt hrl) (by omega))
  have HL := Lib.hid (fun (w' : World) (E' : Ext w w') => hL ▸ rlen_any w' _ z (hN.ext E') (lz.mono (by omega)))
  have HSH := Lib.hid (fun (w' : World) (E' : Ext w w') => rshl_K w' _ z (K : Int) K (by omega) (by omega) (hN.ext E') (lz.mono (by omega)) hz)
  rw [hm] at HSH hr hx
  have HRT := Lib.hid (fun w' v (h : N w' v m) => rroot_any w' v m h (hlm.mono (by omega)))
  have HUQ := Lib.hid (fun q (h : Sq m q) => hr.same h)
  have HMU := Lib.hid (fun w' va vb (ha : N w' va r) (hb : N w' vb r) => rmul_any w' va vb r r ha hb (hlr.mono (by omega)) (hlr.mono (by omega)))
  have HSM := Lib.hid (fun w' va vb (ha : N w' va (r * r)) (hb : N w' vb m) => rsame_nats w' va vb (r * r) m ha hb)
  rw [decide_eq_true hx] at HSM
  have HMK := Lib.hid (fun w' v (h : N w' v r) => rmake_nn w' v r t h hlr (by omega))
  have hmx : max (2 * (k : Int) + 4 - (L : Int)) 0 = (K : Int) := by omega
  have hmod : (E - (K : Int)).tmod 2 = 0 := by rw [ht, show 2 * t + (K : Int) - (K : Int) = 2 * t by omega]; exact Int.mul_tmod_right 2 t
  have hdiv : (E - (K : Int)).tdiv 2 = t := by rw [ht, show 2 * t + (K : Int) - (K : Int) = 2 * t by omega]; exact Int.mul_tdiv_cancel_left _ (by omega)
  have hK1 : K ≤ 2004 := by omega
  have hE1 : -10000 ≤ t := by omega
  have hE2 : t ≤ 10000 := by omega
  obtain ⟨hE3, hE4⟩ := hE
  have HMX := Lib.hid hmx
  clear hL hK hz hm hB hml hrl hlm hlr hr hx hL1 lz hN ht hmx
  go_enter Tryz.func129, Tryz.ntmps129
  go_wp2_with fail
  refine (HL.out _ (((Ext.refl w).alloc _).alloc _)).mono ?_
  rintro _ _ ⟨rfl, rfl⟩
  go_upto_region 4 with fail
  generalize hW0 : ((w.alloc (.cells #[.bool b, .slice A l c, .int .i64 E] 26)).alloc (.cells #[.bool false, .slice none 0 0, .int .i64 0] 26)) = W0
  have B1 : Box W0 w.heap.size (.bool b) (.slice A l c) (.int .i64 E) := by rw [← hW0]; exact Box.at ((Ext.refl _).alloc _) rfl
  have Z0 : Zd W0 (w.heap.size + 1) := by rw [← hW0]; exact Zd.at (Ext.refl _) (by simp)
  have E0 : Ext w W0 := by rw [← hW0]; exact ((Ext.refl w).alloc _).alloc _
  clear hW0
  rw [HMX.out]
  obtain ⟨x1_0, x1_1, x1_2⟩ := id B1
  go_wp2_with fail
  refine (HSH.out _ E0).mono ?_
  rintro _ u1 ⟨vm, rfl, nm, g1⟩
  clear x1_0 x1_1 x1_2
  have G1 : Ext _ u1 := g1
  replace B1 := B1.ext G1
  replace Z0 := Z0.ext G1
  replace E0 := E0.trans G1
  clear G1 g1
  obtain ⟨x2_0, x2_1, x2_2⟩ := id B1
  go_wp2_with fail
  refine (HRT.out _ _ nm).mono ?_
  rintro _ u2 ⟨q, hq, vr, rfl, nr, g2⟩
  clear x2_0 x2_1 x2_2
  have G2 : Ext _ u2 := g2
  replace B1 := B1.ext G2
  replace Z0 := Z0.ext G2
  replace E0 := E0.trans G2
  replace nm := nm.ext G2
  clear G2 g2
  obtain rfl := HUQ.out q hq
  obtain ⟨x3_0, x3_1, x3_2⟩ := id B1
  go_wp2_with fail
  refine (HMU.out _ _ _ nr nr).mono ?_
  rintro _ u3 ⟨vs, rfl, ns, g3⟩
  clear x3_0 x3_1 x3_2
  have G3 : Ext _ u3 := g3
  replace B1 := B1.ext G3
  replace Z0 := Z0.ext G3
  replace E0 := E0.trans G3
  replace nm := nm.ext G3
  replace nr := nr.ext G3
  clear G3 g3
  obtain ⟨x4_0, x4_1, x4_2⟩ := id B1
  go_wp2_with fail
  refine (HSM.out _ _ _ ns nm).mono ?_
  rintro _ u4 ⟨rfl, g4⟩
  clear x4_0 x4_1 x4_2
  have G4 : Ext _ u4 := g4
  replace B1 := B1.ext G4
  replace Z0 := Z0.ext G4
  replace E0 := E0.trans G4
  replace nr := nr.ext G4
  clear G4 g4
  obtain ⟨x5_0, x5_1, x5_2⟩ := id B1
  go_wp2_with fail
  refine (HMK.out _ _ nr).mono ?_
  rintro _ u5 ⟨vk, rfl, nk, g5⟩
  clear x5_0 x5_1 x5_2
  have G5 : Ext _ u5 := g5
  replace B1 := B1.ext G5
  replace Z0 := Z0.ext G5
  replace E0 := E0.trans G5
  clear G5 g5
  obtain ⟨y0, y1, y2⟩ := id B1
  go_wp2_with (go_at_call 138; refine (HC.out _ _ nk).mono ?_; rintro e w4 ⟨v4, rfl, n4, e4⟩; obtain ⟨b2, A2, l2, c2, ee2, rfl⟩ := n4.form; have Z2 := Z0.ext e4; have g0 := Z2.c0; have g1 := Z2.c1; have g2 := Z2.c2; have f0 := Z2.f 0; have f1 := Z2.f 1; have f2 := Z2.f 2)
  obtain ⟨k0, k1, k2, hD⟩ := Z2.done n4 (E0.trans e4) (by omega)
  exact bodyPost_ret (by simp [results, Tryz.results129, go_sem, k0, k1, k2]) rfl hD
set_option maxRecDepth 10000 in
set_option maxHeartbeats 1000000 in
theorem rirt_even_no (w : World) (b : Bool) (A : Option Addr) (l c z r k K L : Nat) (E t : Int) (up : Bool) (d : Dyadic) (hl0 : ((l : Int) == 0) = false) (hN : N w (.slice A l c) z) (lz : Lt 100 z) (hz : z ≠ 0) (hL : bl z = L) (hK : 2 * k + 4 - L = K) (hk : k ≤ 1000) (hE : -5000 ≤ E ∧ E ≤ 5000)
    (ht : E = 2 * t + (K : Int)) (hr : Sq (z * 2 ^ K) r) (hx : r * r ≠ z * 2 ^ K) (HC : Hid (∀ w' v, Dn w' v (dy ((2 * r + 1 : Nat) : Int) (t - 1)) → Calls Tryz.prog 138 #[v, .int .i64 k, .bool up] w' (RetD w' d))) :
    Calls Tryz.prog 129 #[.agg #[.bool b, .slice A l c, .int .i64 E], .int .i64 k, .bool up] w (RetD w d) := by
  have hL2 : L ≤ 2400 := by rw [← hL]; exact lz.bits
  obtain ⟨B, hB⟩ : ∃ B : Nat, B = 2400 := ⟨_, rfl⟩
  have hL1 : z < 2 ^ B := pow_more (bl_lt z) (by omega)
  obtain ⟨m, hm⟩ : ∃ m, z * 2 ^ K = m := ⟨_, rfl⟩
  have hml : m < 2 ^ B * 2 ^ B := by
    rw [← hm]
    have h1 : z * 2 ^ K < 2 ^ B * 2 ^ K := Nat.mul_lt_mul_of_pos_right hL1 (Nat.two_pow_pos _)
    have h2 : 2 ^ B * 2 ^ K ≤ 2 ^ B * 2 ^ B := Nat.mul_le_mul_left _ (Nat.pow_le_pow_right (by omega) (by omega))
    exact Nat.lt_of_lt_of_le h1 h2
  have hrl : r < 2 ^ B := hr.le (by rw [hm]; exact hml)
  have hlm : Lt 400 m := Lt.of_bits (Nat.le_trans (bl_of_lt (by rw [← Nat.pow_add] at hml; exact hml)) (by omega))
  have hlr : Lt 400 r := Lt.of_bits (Nat.le_trans (bl_of_lt hrl) (by omega))
  have HL := Lib.hid (fun (w' : World) (E' : Ext w w') => hL ▸ rlen_any w' _ z (hN.ext E') (lz.mono (by omega)))
  have HSH := Lib.hid (fun (w' : World) (E' : Ext w w') => rshl_K w' _ z (K : Int) K (by omega) (by omega) (hN.ext E') (lz.mono (by omega)) hz)
  rw [hm] at HSH hr hx
  have HRT := Lib.hid (fun w' v (h : N w' v m) => rroot_any w' v m h (hlm.mono (by omega)))
  have HUQ := Lib.hid (fun q (h : Sq m q) => hr.same h)
  have HMU := Lib.hid (fun w' va vb (ha : N w' va r) (hb : N w' vb r) => rmul_any w' va vb r r ha hb (hlr.mono (by omega)) (hlr.mono (by omega)))
  have HSM := Lib.hid (fun w' va vb (ha : N w' va (r * r)) (hb : N w' vb m) => rsame_nats w' va vb (r * r) m ha hb)
  rw [decide_eq_false hx] at HSM
  have hmz : m ≠ 0 := by
    rw [← hm]; exact Nat.mul_ne_zero hz (Nat.ne_of_gt (Nat.two_pow_pos _))
  have hr0 : r ≠ 0 := by
    rintro rfl
    have h1 := hr.2
    omega
  have hb2 : 2 * r + 1 < 2 ^ (B + 1) := by
    rw [Nat.pow_succ]; generalize 2 ^ B = C at *; omega
  have hl2 : Lt 400 (2 * r + 1) := Lt.of_bits (Nat.le_trans (bl_of_lt hb2) (by omega))
  have HS1 := Lib.hid (fun w' v (h : N w' v r) => rshl_K w' v r 1 1 (by omega) (by omega) h (hlr.mono (by omega)) hr0)
  rw [show r * 2 ^ 1 = 2 * r by omega] at HS1
  have HAD := Lib.hid (fun w' va vb (ha : N w' va (2 * r)) (hb : N w' vb 1) => radd_any w' va vb (2 * r) 1 ha hb (Lt.of_le (hl2.mono (by omega)) (by omega)) (Lt.of_le (hl2.mono (by omega)) (by omega)))
  have HMK := Lib.hid (fun w' v (h : N w' v (2 * r + 1)) => rmake_nn w' v (2 * r + 1) (t - 1) h hl2 (by omega))
  have hmx : max (2 * (k : Int) + 4 - (L : Int)) 0 = (K : Int) := by omega
  have hmod : (E - (K : Int)).tmod 2 = 0 := by rw [ht, show 2 * t + (K : Int) - (K : Int) = 2 * t by omega]; exact Int.mul_tmod_right 2 t
  have hdiv : (E - (K : Int)).tdiv 2 = t := by rw [ht, show 2 * t + (K : Int) - (K : Int) = 2 * t by omega]; exact Int.mul_tdiv_cancel_left _ (by omega)
  have hK1 : K ≤ 2004 := by omega
  have hE1 : -10000 ≤ t := by omega
  have hE2 : t ≤ 10000 := by omega
  obtain ⟨hE3, hE4⟩ := hE
  have HMX := Lib.hid hmx
  clear hL hK hz hm hB hml hrl hlm hlr hr hx hL1 lz hN ht hmx hr0 hb2 hl2 hmz
  go_enter Tryz.func129, Tryz.ntmps129
  go_wp2_with fail
  refine (HL.out _ (((Ext.refl w).alloc _).alloc _)).mono ?_
  rintro _ _ ⟨rfl, rfl⟩
  go_upto_region 4 with fail
  generalize hW0 : ((w.alloc (.cells #[.bool b, .slice A l c, .int .i64 E] 26)).alloc (.cells #[.bool false, .slice none 0 0, .int .i64 0] 26)) = W0
  have B1 : Box W0 w.heap.size (.bool b) (.slice A l c) (.int .i64 E) := by rw [← hW0]; exact Box.at ((Ext.refl _).alloc _) rfl
  have Z0 : Zd W0 (w.heap.size + 1) := by rw [← hW0]; exact Zd.at (Ext.refl _) (by simp)
  have E0 : Ext w W0 := by rw [← hW0]; exact ((Ext.refl w).alloc _).alloc _
  clear hW0
  rw [HMX.out]
  obtain ⟨x1_0, x1_1, x1_2⟩ := id B1
  go_wp2_with fail
  refine (HSH.out _ E0).mono ?_
  rintro _ u1 ⟨vm, rfl, nm, g1⟩
  clear x1_0 x1_1 x1_2
  have G1 : Ext _ u1 := g1
  replace B1 := B1.ext G1
  replace Z0 := Z0.ext G1
  replace E0 := E0.trans G1
  clear G1 g1
  obtain ⟨x2_0, x2_1, x2_2⟩ := id B1
  go_wp2_with fail
  refine (HRT.out _ _ nm).mono ?_
  rintro _ u2 ⟨q, hq, vr, rfl, nr, g2⟩
  clear x2_0 x2_1 x2_2
  have G2 : Ext _ u2 := g2
  replace B1 := B1.ext G2
  replace Z0 := Z0.ext G2
  replace E0 := E0.trans G2
  replace nm := nm.ext G2
  clear G2 g2
  obtain rfl := HUQ.out q hq
  obtain ⟨x3_0, x3_1, x3_2⟩ := id B1
  go_wp2_with fail
  refine (HMU.out _ _ _ nr nr).mono ?_
  rintro _ u3 ⟨vs, rfl, ns, g3⟩
  clear x3_0 x3_1 x3_2
  have G3 : Ext _ u3 := g3
  replace B1 := B1.ext G3
  replace Z0 := Z0.ext G3
  replace E0 := E0.trans G3
  replace nm := nm.ext G3
  replace nr := nr.ext G3
  clear G3 g3
  obtain ⟨x4_0, x4_1, x4_2⟩ := id B1
  go_wp2_with fail
  refine (HSM.out _ _ _ ns nm).mono ?_
  rintro _ u4 ⟨rfl, g4⟩
  clear x4_0 x4_1 x4_2
  have G4 : Ext _ u4 := g4
  replace B1 := B1.ext G4
  replace Z0 := Z0.ext G4
  replace E0 := E0.trans G4
  replace nr := nr.ext G4
  clear G4 g4
  obtain ⟨x5_0, x5_1, x5_2⟩ := id B1
  go_wp2_with fail
  refine (HS1.out _ _ nr).mono ?_
  rintro _ u5 ⟨vt, rfl, nt, g5⟩
  clear x5_0 x5_1 x5_2
  have G5 : Ext _ u5 := g5
  replace B1 := B1.ext G5
  replace Z0 := Z0.ext G5
  replace E0 := E0.trans G5
  clear G5 g5
  obtain ⟨x6_0, x6_1, x6_2⟩ := id B1
  go_wp2_with fail
  refine (HAD.out _ _ _ (nt.ext ((Ext.refl _).alloc _)) (one_nat _ _)).mono ?_
  rintro _ u6 ⟨vu, rfl, nu, g6⟩
  clear x6_0 x6_1 x6_2
  have G6 : Ext _ u6 := ((Ext.refl _).alloc _).trans g6
  replace B1 := B1.ext G6
  replace Z0 := Z0.ext G6
  replace E0 := E0.trans G6
  clear G6 g6
  obtain ⟨x7_0, x7_1, x7_2⟩ := id B1
  go_wp2_with fail
  refine (HMK.out _ _ nu).mono ?_
  rintro _ u7 ⟨vk, rfl, nk, g7⟩
  clear x7_0 x7_1 x7_2
  have G7 : Ext _ u7 := g7
  replace B1 := B1.ext G7
  replace Z0 := Z0.ext G7
  replace E0 := E0.trans G7
  clear G7 g7
  obtain ⟨y0, y1, y2⟩ := id B1
  go_wp2_with (go_at_call 138; refine (HC.out _ _ nk).mono ?_; rintro e w4 ⟨v4, rfl, n4, e4⟩; obtain ⟨b2, A2, l2, c2, ee2, rfl⟩ := n4.form; have Z2 := Z0.ext e4; have g0 := Z2.c0; have g1 := Z2.c1; have g2 := Z2.c2; have f0 := Z2.f 0; have f1 := Z2.f 1; have f2 := Z2.f 2)
  obtain ⟨k0, k1, k2, hD⟩ := Z2.done n4 (E0.trans e4) (by omega)
  exact bodyPost_ret (by simp [results, Tryz.results129, go_sem, k0, k1, k2]) rfl hD
set_option maxRecDepth 10000 in
set_option maxHeartbeats 1000000 in
theorem rirt_odd_yes (w : World) (b : Bool) (A : Option Addr) (l c z r k K L : Nat) (E t : Int) (up : Bool) (d : Dyadic) (hl0 : ((l : Int) == 0) = false) (hN : N w (.slice A l c) z) (lz : Lt 100 z) (hz : z ≠ 0) (hL : bl z = L) (hK : 2 * k + 4 - L = K) (hk : k ≤ 1000) (hE : -5000 ≤ E ∧ E ≤ 5000)
    (ht : E = 2 * t + ((K : Int) + 1)) (hr : Sq (z * 2 ^ (K + 1)) r) (hx : r * r = z * 2 ^ (K + 1)) (HC : Hid (∀ w' v, Dn w' v (dy (r : Int) t) → Calls Tryz.prog 138 #[v, .int .i64 k, .bool up] w' (RetD w' d))) :
    Calls Tryz.prog 129 #[.agg #[.bool b, .slice A l c, .int .i64 E], .int .i64 k, .bool up] w (RetD w d) := by
  have hL2 : L ≤ 2400 := by rw [← hL]; exact lz.bits
  obtain ⟨B, hB⟩ : ∃ B : Nat, B = 2400 := ⟨_, rfl⟩
  have hL1 : z < 2 ^ B := pow_more (bl_lt z) (by omega)
  obtain ⟨m, hm⟩ : ∃ m, z * 2 ^ (K + 1) = m := ⟨_, rfl⟩
  have hml : m < 2 ^ B * 2 ^ B := by
    rw [← hm]
    have h1 : z * 2 ^ (K + 1) < 2 ^ B * 2 ^ (K + 1) := Nat.mul_lt_mul_of_pos_right hL1 (Nat.two_pow_pos _)
    have h2 : 2 ^ B * 2 ^ (K + 1) ≤ 2 ^ B * 2 ^ B := Nat.mul_le_mul_left _ (Nat.pow_le_pow_right (by omega) (by omega))
    exact Nat.lt_of_lt_of_le h1 h2
  have hrl : r < 2 ^ B := hr.le (by rw [hm]; exact hml)
  have hlm : Lt 400 m := Lt.of_bits (Nat.le_trans (bl_of_lt (by rw [← Nat.pow_add] at hml; exact hml)) (by omega))
  have hlr : Lt 400 r := Lt.of_bits (Nat.le_trans (bl_of_lt hrl) (by omega))
  have HL := Lib.hid (fun (w' : World) (E' : Ext w w') => hL ▸ rlen_any w' _ z (hN.ext E') (lz.mono (by omega)))
  have HSH := Lib.hid (fun (w' : World) (E' : Ext w w') => rshl_K w' _ z ((K : Int) + 1) (K + 1) (by omega) (by omega) (hN.ext E') (lz.mono (by omega)) hz)
  rw [hm] at HSH hr hx
  have HRT := Lib.hid (fun w' v (h : N w' v m) => rroot_any w' v m h (hlm.mono (by omega)))
  have HUQ := Lib.hid (fun q (h : Sq m q) => hr.same h)
  have HMU := Lib.hid (fun w' va vb (ha : N w' va r) (hb : N w' vb r) => rmul_any w' va vb r r ha hb (hlr.mono (by omega)) (hlr.mono (by omega)))
  have HSM := Lib.hid (fun w' va vb (ha : N w' va (r * r)) (hb : N w' vb m) => rsame_nats w' va vb (r * r) m ha hb)
  rw [decide_eq_true hx] at HSM
  have HMK := Lib.hid (fun w' v (h : N w' v r) => rmake_nn w' v r t h hlr (by omega))
  have hmx : max (2 * (k : Int) + 4 - (L : Int)) 0 = (K : Int) := by omega
  have hmod : ((E - (K : Int)).tmod 2 != 0) = true := by
    have h1 := Int.tmod_add_mul_tdiv (E - (K : Int)) 2
    have : (E - (K : Int)).tmod 2 ≠ 0 := by omega
    simpa using this
  have hdiv : (E - ((K : Int) + 1)).tdiv 2 = t := by rw [ht, show 2 * t + ((K : Int) + 1) - ((K : Int) + 1) = 2 * t by omega]; exact Int.mul_tdiv_cancel_left _ (by omega)
  have hK1 : K ≤ 2004 := by omega
  have hE1 : -10000 ≤ t := by omega
  have hE2 : t ≤ 10000 := by omega
  obtain ⟨hE3, hE4⟩ := hE
  have HMX := Lib.hid hmx
  clear hL hK hz hm hB hml hrl hlm hlr hr hx hL1 lz hN ht hmx
  go_enter Tryz.func129, Tryz.ntmps129
  go_wp2_with fail
  refine (HL.out _ (((Ext.refl w).alloc _).alloc _)).mono ?_
  rintro _ _ ⟨rfl, rfl⟩
  go_upto_region 4 with fail
  generalize hW0 : ((w.alloc (.cells #[.bool b, .slice A l c, .int .i64 E] 26)).alloc (.cells #[.bool false, .slice none 0 0, .int .i64 0] 26)) = W0
  have B1 : Box W0 w.heap.size (.bool b) (.slice A l c) (.int .i64 E) := by rw [← hW0]; exact Box.at ((Ext.refl _).alloc _) rfl
  have Z0 : Zd W0 (w.heap.size + 1) := by rw [← hW0]; exact Zd.at (Ext.refl _) (by simp)
  have E0 : Ext w W0 := by rw [← hW0]; exact ((Ext.refl w).alloc _).alloc _
  clear hW0
  rw [HMX.out]
  obtain ⟨x1_0, x1_1, x1_2⟩ := id B1
  go_wp2_with fail
  refine (HSH.out _ E0).mono ?_
  rintro _ u1 ⟨vm, rfl, nm, g1⟩
  clear x1_0 x1_1 x1_2
  have G1 : Ext _ u1 := g1
  replace B1 := B1.ext G1
  replace Z0 := Z0.ext G1
  replace E0 := E0.trans G1
  clear G1 g1
  obtain ⟨x2_0, x2_1, x2_2⟩ := id B1
  go_wp2_with fail
  refine (HRT.out _ _ nm).mono ?_
  rintro _ u2 ⟨q, hq, vr, rfl, nr, g2⟩
  clear x2_0 x2_1 x2_2
  have G2 : Ext _ u2 := g2
  replace B1 := B1.ext G2
  replace Z0 := Z0.ext G2
  replace E0 := E0.trans G2
  replace nm := nm.ext G2
  clear G2 g2
  obtain rfl := HUQ.out q hq
  obtain ⟨x3_0, x3_1, x3_2⟩ := id B1
  go_wp2_with fail
  refine (HMU.out _ _ _ nr nr).mono ?_
  rintro _ u3 ⟨vs, rfl, ns, g3⟩
  clear x3_0 x3_1 x3_2
  have G3 : Ext _ u3 := g3
  replace B1 := B1.ext G3
  replace Z0 := Z0.ext G3
  replace E0 := E0.trans G3
  replace nm := nm.ext G3
  replace nr := nr.ext G3
  clear G3 g3
  obtain ⟨x4_0, x4_1, x4_2⟩ := id B1
  go_wp2_with fail
  refine (HSM.out _ _ _ ns nm).mono ?_
  rintro _ u4 ⟨rfl, g4⟩
  clear x4_0 x4_1 x4_2
  have G4 : Ext _ u4 := g4
  replace B1 := B1.ext G4
  replace Z0 := Z0.ext G4
  replace E0 := E0.trans G4
  replace nr := nr.ext G4
  clear G4 g4
  obtain ⟨x5_0, x5_1, x5_2⟩ := id B1
  go_wp2_with fail
  refine (HMK.out _ _ nr).mono ?_
  rintro _ u5 ⟨vk, rfl, nk, g5⟩
  clear x5_0 x5_1 x5_2
  have G5 : Ext _ u5 := g5
  replace B1 := B1.ext G5
  replace Z0 := Z0.ext G5
  replace E0 := E0.trans G5
  clear G5 g5
  obtain ⟨y0, y1, y2⟩ := id B1
  go_wp2_with (go_at_call 138; refine (HC.out _ _ nk).mono ?_; rintro e w4 ⟨v4, rfl, n4, e4⟩; obtain ⟨b2, A2, l2, c2, ee2, rfl⟩ := n4.form; have Z2 := Z0.ext e4; have g0 := Z2.c0; have g1 := Z2.c1; have g2 := Z2.c2; have f0 := Z2.f 0; have f1 := Z2.f 1; have f2 := Z2.f 2)
  obtain ⟨k0, k1, k2, hD⟩ := Z2.done n4 (E0.trans e4) (by omega)
  exact bodyPost_ret (by simp [results, Tryz.results129, go_sem, k0, k1, k2]) rfl hD
set_option maxRecDepth 10000 in
set_option maxHeartbeats 1000000 in
theorem rirt_odd_no (w : World) (b : Bool) (A : Option Addr) (l c z r k K L : Nat) (E t : Int) (up : Bool) (d : Dyadic) (hl0 : ((l : Int) == 0) = false) (hN : N w (.slice A l c) z) (lz : Lt 100 z) (hz : z ≠ 0) (hL : bl z = L) (hK : 2 * k + 4 - L = K) (hk : k ≤ 1000) (hE : -5000 ≤ E ∧ E ≤ 5000)
    (ht : E = 2 * t + ((K : Int) + 1)) (hr : Sq (z * 2 ^ (K + 1)) r) (hx : r * r ≠ z * 2 ^ (K + 1)) (HC : Hid (∀ w' v, Dn w' v (dy ((2 * r + 1 : Nat) : Int) (t - 1)) → Calls Tryz.prog 138 #[v, .int .i64 k, .bool up] w' (RetD w' d))) :
    Calls Tryz.prog 129 #[.agg #[.bool b, .slice A l c, .int .i64 E], .int .i64 k, .bool up] w (RetD w d) := by
  have hL2 : L ≤ 2400 := by rw [← hL]; exact lz.bits
  obtain ⟨B, hB⟩ : ∃ B : Nat, B = 2400 := ⟨_, rfl⟩
  have hL1 : z < 2 ^ B := pow_more (bl_lt z) (by omega)
  obtain ⟨m, hm⟩ : ∃ m, z * 2 ^ (K + 1) = m := ⟨_, rfl⟩
  have hml : m < 2 ^ B * 2 ^ B := by
    rw [← hm]
    have h1 : z * 2 ^ (K + 1) < 2 ^ B * 2 ^ (K + 1) := Nat.mul_lt_mul_of_pos_right hL1 (Nat.two_pow_pos _)
    have h2 : 2 ^ B * 2 ^ (K + 1) ≤ 2 ^ B * 2 ^ B := Nat.mul_le_mul_left _ (Nat.pow_le_pow_right (by omega) (by omega))
    exact Nat.lt_of_lt_of_le h1 h2
  have hrl : r < 2 ^ B := hr.le (by rw [hm]; exact hml)
  have hlm : Lt 400 m := Lt.of_bits (Nat.le_trans (bl_of_lt (by rw [← Nat.pow_add] at hml; exact hml)) (by omega))
  have hlr : Lt 400 r := Lt.of_bits (Nat.le_trans (bl_of_lt hrl) (by omega))
  have HL := Lib.hid (fun (w' : World) (E' : Ext w w') => hL ▸ rlen_any w' _ z (hN.ext E') (lz.mono (by omega)))
  have HSH := Lib.hid (fun (w' : World) (E' : Ext w w') => rshl_K w' _ z ((K : Int) + 1) (K + 1) (by omega) (by omega) (hN.ext E') (lz.mono (by omega)) hz)
  rw [hm] at HSH hr hx
  have HRT := Lib.hid (fun w' v (h : N w' v m) => rroot_any w' v m h (hlm.mono (by omega)))
  have HUQ := Lib.hid (fun q (h : Sq m q) => hr.same h)
  have HMU := Lib.hid (fun w' va vb (ha : N w' va r) (hb : N w' vb r) => rmul_any w' va vb r r ha hb (hlr.mono (by omega)) (hlr.mono (by omega)))
  have HSM := Lib.hid (fun w' va vb (ha : N w' va (r * r)) (hb : N w' vb m) => rsame_nats w' va vb (r * r) m ha hb)
  rw [decide_eq_false hx] at HSM
  have hmz : m ≠ 0 := by
    rw [← hm]; exact Nat.mul_ne_zero hz (Nat.ne_of_gt (Nat.two_pow_pos _))
  have hr0 : r ≠ 0 := by
    rintro rfl
    have h1 := hr.2
    omega
  have hb2 : 2 * r + 1 < 2 ^ (B + 1) := by
    rw [Nat.pow_succ]; generalize 2 ^ B = C at *; omega
  have hl2 : Lt 400 (2 * r + 1) := Lt.of_bits (Nat.le_trans (bl_of_lt hb2) (by omega))
  have HS1 := Lib.hid (fun w' v (h : N w' v r) => rshl_K w' v r 1 1 (by omega) (by omega) h (hlr.mono (by omega)) hr0)
  rw [show r * 2 ^ 1 = 2 * r by omega] at HS1
  have HAD := Lib.hid (fun w' va vb (ha : N w' va (2 * r)) (hb : N w' vb 1) => radd_any w' va vb (2 * r) 1 ha hb (Lt.of_le (hl2.mono (by omega)) (by omega)) (Lt.of_le (hl2.mono (by omega)) (by omega)))
  have HMK := Lib.hid (fun w' v (h : N w' v (2 * r + 1)) => rmake_nn w' v (2 * r + 1) (t - 1) h hl2 (by omega))
  have hmx : max (2 * (k : Int) + 4 - (L : Int)) 0 = (K : Int) := by omega
  have hmod : ((E - (K : Int)).tmod 2 != 0) = true := by
    have h1 := Int.tmod_add_mul_tdiv (E - (K : Int)) 2
    have : (E - (K : Int)).tmod 2 ≠ 0 := by omega
    simpa using this
  have hdiv : (E - ((K : Int) + 1)).tdiv 2 = t := by rw [ht, show 2 * t + ((K : Int) + 1) - ((K : Int) + 1) = 2 * t by omega]; exact Int.mul_tdiv_cancel_left _ (by omega)
  have hK1 : K ≤ 2004 := by omega
  have hE1 : -10000 ≤ t := by omega
  have hE2 : t ≤ 10000 := by omega
  obtain ⟨hE3, hE4⟩ := hE
  have HMX := Lib.hid hmx
  clear hL hK hz hm hB hml hrl hlm hlr hr hx hL1 lz hN ht hmx hr0 hb2 hl2 hmz
  go_enter Tryz.func129, Tryz.ntmps129
  go_wp2_with fail
  refine (HL.out _ (((Ext.refl w).alloc _).alloc _)).mono ?_
  rintro _ _ ⟨rfl, rfl⟩
  go_upto_region 4 with fail
  generalize hW0 : ((w.alloc (.cells #[.bool b, .slice A l c, .int .i64 E] 26)).alloc (.cells #[.bool false, .slice none 0 0, .int .i64 0] 26)) = W0
  have B1 : Box W0 w.heap.size (.bool b) (.slice A l c) (.int .i64 E) := by rw [← hW0]; exact Box.at ((Ext.refl _).alloc _) rfl
  have Z0 : Zd W0 (w.heap.size + 1) := by rw [← hW0]; exact Zd.at (Ext.refl _) (by simp)
  have E0 : Ext w W0 := by rw [← hW0]; exact ((Ext.refl w).alloc _).alloc _
  clear hW0
  rw [HMX.out]
  obtain ⟨x1_0, x1_1, x1_2⟩ := id B1
  go_wp2_with fail
  refine (HSH.out _ E0).mono ?_
  rintro _ u1 ⟨vm, rfl, nm, g1⟩
  clear x1_0 x1_1 x1_2
  have G1 : Ext _ u1 := g1
  replace B1 := B1.ext G1
  replace Z0 := Z0.ext G1
  replace E0 := E0.trans G1
  clear G1 g1
  obtain ⟨x2_0, x2_1, x2_2⟩ := id B1
  go_wp2_with fail
  refine (HRT.out _ _ nm).mono ?_
  rintro _ u2 ⟨q, hq, vr, rfl, nr, g2⟩
  clear x2_0 x2_1 x2_2
  have G2 : Ext _ u2 := g2
  replace B1 := B1.ext G2
  replace Z0 := Z0.ext G2
  replace E0 := E0.trans G2
  replace nm := nm.ext G2
  clear G2 g2
  obtain rfl := HUQ.out q hq
  obtain ⟨x3_0, x3_1, x3_2⟩ := id B1
  go_wp2_with fail
  refine (HMU.out _ _ _ nr nr).mono ?_
  rintro _ u3 ⟨vs, rfl, ns, g3⟩
  clear x3_0 x3_1 x3_2
  have G3 : Ext _ u3 := g3
  replace B1 := B1.ext G3
  replace Z0 := Z0.ext G3
  replace E0 := E0.trans G3
  replace nm := nm.ext G3
  replace nr := nr.ext G3
  clear G3 g3
  obtain ⟨x4_0, x4_1, x4_2⟩ := id B1
  go_wp2_with fail
  refine (HSM.out _ _ _ ns nm).mono ?_
  rintro _ u4 ⟨rfl, g4⟩
  clear x4_0 x4_1 x4_2
  have G4 : Ext _ u4 := g4
  replace B1 := B1.ext G4
  replace Z0 := Z0.ext G4
  replace E0 := E0.trans G4
  replace nr := nr.ext G4
  clear G4 g4
  obtain ⟨x5_0, x5_1, x5_2⟩ := id B1
  go_wp2_with fail
  refine (HS1.out _ _ nr).mono ?_
  rintro _ u5 ⟨vt, rfl, nt, g5⟩
  clear x5_0 x5_1 x5_2
  have G5 : Ext _ u5 := g5
  replace B1 := B1.ext G5
  replace Z0 := Z0.ext G5
  replace E0 := E0.trans G5
  clear G5 g5
  obtain ⟨x6_0, x6_1, x6_2⟩ := id B1
  go_wp2_with fail
  refine (HAD.out _ _ _ (nt.ext ((Ext.refl _).alloc _)) (one_nat _ _)).mono ?_
  rintro _ u6 ⟨vu, rfl, nu, g6⟩
  clear x6_0 x6_1 x6_2
  have G6 : Ext _ u6 := ((Ext.refl _).alloc _).trans g6
  replace B1 := B1.ext G6
  replace Z0 := Z0.ext G6
  replace E0 := E0.trans G6
  clear G6 g6
  obtain ⟨x7_0, x7_1, x7_2⟩ := id B1
  go_wp2_with fail
  refine (HMK.out _ _ nu).mono ?_
  rintro _ u7 ⟨vk, rfl, nk, g7⟩
  clear x7_0 x7_1 x7_2
  have G7 : Ext _ u7 := g7
  replace B1 := B1.ext G7
  replace Z0 := Z0.ext G7
  replace E0 := E0.trans G7
  clear G7 g7
  obtain ⟨y0, y1, y2⟩ := id B1
  go_wp2_with (go_at_call 138; refine (HC.out _ _ nk).mono ?_; rintro e w4 ⟨v4, rfl, n4, e4⟩; obtain ⟨b2, A2, l2, c2, ee2, rfl⟩ := n4.form; have Z2 := Z0.ext e4; have g0 := Z2.c0; have g1 := Z2.c1; have g2 := Z2.c2; have f0 := Z2.f 0; have f1 := Z2.f 1; have f2 := Z2.f 2)
  obtain ⟨k0, k1, k2, hD⟩ := Z2.done n4 (E0.trans e4) (by omega)
  exact bodyPost_ret (by simp [results, Tryz.results129, go_sem, k0, k1, k2]) rfl hD
/-- What lies between two neighbours, of which the lower has so many bits: to numbers of few bits it stands as the root does. -/
theorem rt_yes {k r : Nat} {t : Int} {x y : Dyadic} (hk : 1 ≤ k) (hx : dy ((r * r : Nat) : Int) (2 * t) = x) (hy : dy (r : Int) t = y) : Rlo k x (clo k y) ∧ Rhi k x (chi k y) := by
  have h0 : 0 ≤ y := by rw [← hy]; exact dy_nn
  have hs : y * y = x := by rw [← hx, ← hy, dy_sq, Int.natCast_mul]
  refine ⟨(clo_spec y hk).root h0 (fun d _ hd => ?_), (chi_spec y hk).root h0 (fun d _ hd => ?_)⟩
  · rw [← hs]; exact ⟨fun h => le_of_sq h0 h, fun h => sq_le hd h⟩
  · rw [← hs]; exact ⟨fun h => le_of_sq hd h, fun h => sq_le h0 h⟩
theorem rt_no {k r : Nat} {t : Int} {x y : Dyadic} (hk : 1 ≤ k) (hr : 2 ^ k ≤ 2 * r) (h1 : dy ((r * r : Nat) : Int) (2 * t) < x) (h2 : x < dy (((r + 1) * (r + 1) : Nat) : Int) (2 * t)) (hy : dy ((2 * r + 1 : Nat) : Int) (t - 1) = y) : Rlo k x (clo k y) ∧ Rhi k x (chi k y) := by
  have e1 : dy (r : Int) t = dy ((2 * r : Nat) : Int) (t - 1) := by
    have := dy_up (r : Int) (t - 1) 1
    rw [show t - 1 + ((1 : Nat) : Int) = t by omega] at this
    rw [← this]; congr 1; omega
  have e2 : dy ((r : Int) + 1) t = dy ((2 * r + 2 : Nat) : Int) (t - 1) := by
    have := dy_up ((r : Int) + 1) (t - 1) 1
    rw [show t - 1 + ((1 : Nat) : Int) = t by omega] at this
    rw [← this]; congr 1; omega
  have a1 : dy (r : Int) t < y := by rw [e1, ← hy, dy_lt]; omega
  have a2 : y < dy ((r : Int) + 1) t := by rw [e2, ← hy, dy_lt]; omega
  have a0 : 0 ≤ dy (r : Int) t := dy_nn
  have h0 : 0 ≤ y := by grind
  have s1 : dy (r : Int) t * dy (r : Int) t < x := by rw [dy_sq]; have := h1; rw [Int.natCast_mul] at this; exact this
  have s2 : x < dy ((r : Int) + 1) t * dy ((r : Int) + 1) t := by
    rw [dy_sq]; have := h2; rw [Int.natCast_mul] at this; exact this
  have h9 : (2 : Int) ^ k ≤ 2 * (r : Int) := by
    have h8 : ((2 ^ k : Nat) : Int) ≤ ((2 * r : Nat) : Int) := Int.ofNat_le.2 hr
    rw [Int.natCast_pow] at h8; simpa using h8
  have g : ∀ d, Few k d → dy (r : Int) t < d → dy ((r : Int) + 1) t ≤ d := fun d hd h => gran hd h9 h
  have b0 : 0 ≤ dy ((r : Int) + 1) t := by grind
  refine ⟨(clo_spec y hk).root h0 (fun d hd d0 => ⟨fun h => ?_, fun h => ?_⟩), (chi_spec y hk).root h0 (fun d hd d0 => ⟨fun h => ?_, fun h => ?_⟩)⟩
  · by_cases q : dy (r : Int) t < d
    · have := sq_le b0 (g d hd q); grind
    · grind
  · by_cases q : dy (r : Int) t < d
    · have := g d hd q; grind
    · have := sq_le d0 (show d ≤ dy (r : Int) t by grind); grind
  · by_cases q : dy (r : Int) t < d
    · have := g d hd q; grind
    · have := sq_le d0 (show d ≤ dy (r : Int) t by grind); grind
  · have := g d hd (by grind)
    have := sq_le b0 this; grind
theorem dn_len {w : World} {A : Option Addr} {l c z : Nat} (hN : N w (.slice A l c) z) : ((l : Int) == 0) = decide (z = 0) := by
  obtain ⟨xs, ⟨A', c', hv, _⟩, nf, hz⟩ := hN
  simp only [Value.slice.injEq] at hv
  obtain ⟨_, rfl, _⟩ := hv
  by_cases h0 : xs = []
  · subst h0
    have : z = 0 := by simp [val] at hz; omega
    subst this; rfl
  · have h1 := nf.pos h0
    have h2 := bp_pos (xs.length - 1)
    have h3 : xs.length ≠ 0 := by intro h; exact h0 (List.length_eq_zero_iff.1 h)
    rw [decide_eq_false (by omega)]
    exact beq_eq_false_iff_ne.2 (by omega)
set_option maxRecDepth 4000 in
theorem rirt_zero (w : World) (b : Bool) (A : Option Addr) (l c : Nat) (E k : Int) (up : Bool) (d : Dyadic) (hl0 : ((l : Int) == 0) = true) (h : Dn w (.agg #[.bool b, .slice A l c, .int .i64 E]) d) :
    Calls Tryz.prog 129 #[.agg #[.bool b, .slice A l c, .int .i64 E], .int .i64 k, .bool up] w (RetD w d) := by
  obtain rfl : l = 0 := by have := eq_of_beq hl0; omega
  have HD := Lib.hid (fun (w' : World) (E' : Ext w w') => h.ext E')
  clear h hl0
  go_enter Tryz.func129, Tryz.ntmps129
  go_wp2
  refine bodyPost_ret (v := .agg #[.bool b, .slice A 0 c, .int .i64 E]) (by simp [results, Tryz.results129, go_sem]) rfl ?_
  exact ⟨_, rfl, HD.out _ (((Ext.refl w).alloc _).alloc _), ((Ext.refl w).alloc _).alloc _⟩
theorem rirt_any (w : World) (v : Value) (x : Dyadic) (n : Int) (k P Q : Nat) (up : Bool) (hn : n = (k : Int)) (h : Dn w v x) (h0 : 0 ≤ x) (r : Rg P Q x) (hb : P + Q ≤ 1000) (hk : 1 ≤ k) (hk2 : k ≤ 300) :
    Calls Tryz.prog 129 #[v, .int .i64 n, .bool up] w (RetD w (if up then rhi k x else rlo k x)) := by
  subst hn
  obtain ⟨A, l, c, z, E, rfl, hN, hc, rfl, hl, _⟩ := h.parts
  obtain ⟨b1, b2, b3⟩ := r.canon hc
  have hz : 0 ≤ z := by rw [← dy_zero E, dy_le] at h0; exact h0
  rw [decide_eq_false (by omega)] at h ⊢
  obtain ⟨m, hm⟩ : ∃ m : Nat, z.natAbs = m := ⟨_, rfl⟩
  obtain rfl : z = (m : Int) := by omega
  rw [Int.natAbs_natCast] at hN b3
  have hlen := dn_len hN
  by_cases hm0 : m = 0
  · subst hm0
    have ev : (if up then rhi k (dy ((0 : Nat) : Int) E) else rlo k (dy ((0 : Nat) : Int) E)) = dy ((0 : Nat) : Int) E := by
      rw [show dy ((0 : Nat) : Int) E = 0 from dy_zero E, (Rlo.zero k).is, (Rhi.zero k).is]; split <;> rfl
    rw [ev]
    exact rirt_zero w false A l c E k up _ hlen h
  · rw [decide_eq_false hm0] at hlen
    have lz : Lt 100 m := Lt.of_bits (Nat.le_trans (bl_of_lt b3) (by omega))
    obtain ⟨L, hL⟩ : ∃ L, bl m = L := ⟨_, rfl⟩
    have hL1 : 1 ≤ L := by rw [← hL]; exact bl_pos hm0
    have hL2 : L ≤ 1000 := by rw [← hL]; exact Nat.le_trans (bl_of_lt b3) hb
    have u1 := bl_le hm0
    rw [hL] at u1
    obtain ⟨B, hB⟩ : ∃ B : Nat, B = 1000 := ⟨_, rfl⟩
    have m1000 : m < 2 ^ B := pow_more b3 (by omega)
    obtain ⟨K, hK⟩ : ∃ K, 2 * k + 4 - L = K := ⟨_, rfl⟩
    have fin : ∀ (K' : Nat) (t : Int) (q : Nat), 2 * k + 4 ≤ L + K' → E = 2 * t + (K' : Int) → K' ≤ 605 → Sq (m * 2 ^ K') q →
        (q * q = m * 2 ^ K' → Hid (∀ w' v, Dn w' v (dy (q : Int) t) → Calls Tryz.prog 138 #[v, .int .i64 k, .bool up] w' (RetD w' (if up then rhi k (dy (m : Int) E) else rlo k (dy (m : Int) E))))) ∧
        (q * q ≠ m * 2 ^ K' → Hid (∀ w' v, Dn w' v (dy ((2 * q + 1 : Nat) : Int) (t - 1)) → Calls Tryz.prog 138 #[v, .int .i64 k, .bool up] w' (RetD w' (if up then rhi k (dy (m : Int) E) else rlo k (dy (m : Int) E))))) := by
      intro K' t q hK' hE hK2 hq
      have ev : dy (m : Int) E = dy ((m * 2 ^ K' : Nat) : Int) (2 * t) := by
        have := dy_up (m : Int) (2 * t) K'
        rw [hE, ← this, Int.natCast_mul, Int.natCast_pow]; rfl
      obtain ⟨C, hC⟩ : ∃ C : Nat, C = 803 := ⟨_, rfl⟩
      have hq2 : q < 2 ^ C := hq.le (by
        rw [← Nat.pow_add]
        have h5 : m * 2 ^ K' < 2 ^ B * 2 ^ K' := Nat.mul_lt_mul_of_pos_right m1000 (Nat.two_pow_pos _)
        rw [← Nat.pow_add] at h5
        exact Nat.lt_of_lt_of_le h5 (Nat.pow_le_pow_right (by omega) (by omega)))
      have hq3 : 2 * q + 1 < 2 ^ (C + 1) := by
        rw [Nat.pow_succ]; generalize 2 ^ C = U at *; omega
      have hlo : 2 ^ (2 * k + 3) ≤ m * 2 ^ K' := by
        have h5 : 2 ^ (L - 1) * 2 ^ K' ≤ m * 2 ^ K' := Nat.mul_le_mul_right _ u1
        rw [← Nat.pow_add] at h5
        exact Nat.le_trans (Nat.pow_le_pow_right (by omega) (by omega)) h5
      have hqk : 2 ^ k ≤ 2 * q := by
        rcases Nat.lt_or_ge q (2 ^ k) with s | s
        · exfalso
          have g1 := Nat.mul_le_mul (show q + 1 ≤ 2 ^ k from s) (show q + 1 ≤ 2 ^ k from s)
          have g2 := hq.2
          rw [← Nat.pow_add] at g1
          have g3 := Nat.pow_le_pow_right (show 0 < 2 by omega) (show k + k ≤ 2 * k + 3 by omega)
          exact absurd (Nat.lt_of_lt_of_le g2 (Nat.le_trans g1 (Nat.le_trans g3 hlo))) (Nat.lt_irrefl _)
        · exact Nat.le_trans s (Nat.le_mul_of_pos_left _ (by omega))
      have rgq : ∀ (j : Nat) (s : Int), j < 2 ^ (C + 1) → -900 ≤ s → s ≤ 600 → Rg 900 1500 (dy (j : Int) s) := fun j s h1 h2 h3 => by
        refine ⟨(j : Int) * 2 ^ (s + (900 : Nat)).toNat, dy_down _ _ _ (by omega), ?_⟩
        have p1 : (0 : Int) ≤ (j : Int) * 2 ^ (s + (900 : Nat)).toNat := Int.mul_nonneg (by omega) (Int.le_of_lt (pow2_pos _))
        obtain ⟨U, hU⟩ : ∃ U : Nat, 900 + 1500 = U := ⟨_, rfl⟩
        have p2 : j * 2 ^ (s + (900 : Nat)).toNat < 2 ^ U := by
          have p3 : j * 2 ^ (s + (900 : Nat)).toNat < 2 ^ (C + 1) * 2 ^ (s + (900 : Nat)).toNat := Nat.mul_lt_mul_of_pos_right h1 (Nat.two_pow_pos _)
          rw [← Nat.pow_add] at p3
          exact Nat.lt_of_lt_of_le p3 (Nat.pow_le_pow_right (by omega) (by omega))
        have p4 : ((j * 2 ^ (s + (900 : Nat)).toNat : Nat) : Int) < ((2 ^ U : Nat) : Int) := Int.ofNat_lt.2 p2
        rw [Int.natCast_mul, Int.natCast_pow, Int.natCast_pow] at p4
        rw [hU]
        exact ⟨Int.lt_of_lt_of_le (Int.neg_neg_of_pos (pow2_pos _)) p1, p4⟩
      have cutx : ∀ y, Rlo k (dy (m : Int) E) (clo k y) ∧ Rhi k (dy (m : Int) E) (chi k y) → Rg 900 1500 y → Hid (∀ w' v, Dn w' v y → Calls Tryz.prog 138 #[v, .int .i64 k, .bool up] w' (RetD w' (if up then rhi k (dy (m : Int) E) else rlo k (dy (m : Int) E)))) := fun y hy ry => Lib.hid (fun w' v hv => by
        cases up with
        | false => rw [if_neg (by decide), hy.1.is]; exact rcutl_any w' v y _ k 900 1500 rfl hv ry (by omega) hk (by omega)
        | true => rw [if_pos rfl, hy.2.is]; exact rcuth_any w' v y _ k 900 1500 rfl hv ry (by omega) hk (by omega))
      have hq4 : q < 2 ^ (C + 1) := pow_more hq2 (by omega)
      refine ⟨fun hx => cutx _ ?_ (rgq q t hq4 (by omega) (by omega)), fun hx => cutx _ ?_ (rgq (2 * q + 1) (t - 1) hq3 (by omega) (by omega))⟩
      · rw [ev, ← hx]; exact rt_yes hk rfl rfl
      · rw [ev]
        refine rt_no (r := q) hk hqk ?_ ?_ rfl
        · rw [dy_lt]; exact Int.ofNat_lt.2 (Nat.lt_of_le_of_ne hq.1 hx)
        · rw [dy_lt]; exact Int.ofNat_lt.2 hq.2
    rcases (by omega : (E - (K : Int)) % 2 = 0 ∨ (E - (K : Int)) % 2 = 1) with hp | hp
    · obtain ⟨t, ht⟩ : ∃ t, E = 2 * t + (K : Int) := ⟨(E - (K : Int)) / 2, by omega⟩
      obtain ⟨q, hq⟩ := sq_there (m * 2 ^ K)
      obtain ⟨f1, f2⟩ := fin K t q (by omega) ht (by omega) hq
      by_cases hx : q * q = m * 2 ^ K
      · exact rirt_even_yes w false A l c m q k K L E t up _ hlen hN lz hm0 hL hK (by omega) (by omega) ht hq hx (f1 hx)
      · exact rirt_even_no w false A l c m q k K L E t up _ hlen hN lz hm0 hL hK (by omega) (by omega) ht hq hx (f2 hx)
    · obtain ⟨t, ht⟩ : ∃ t, E = 2 * t + ((K : Int) + 1) := ⟨(E - (K : Int)) / 2, by omega⟩
      obtain ⟨q, hq⟩ := sq_there (m * 2 ^ (K + 1))
      obtain ⟨f1, f2⟩ := fin (K + 1) t q (by omega) (by omega) (by omega) hq
      by_cases hx : q * q = m * 2 ^ (K + 1)
      · exact rirt_odd_yes w false A l c m q k K L E t up _ hlen hN lz hm0 hL hK (by omega) (by omega) ht hq hx (f1 hx)
      · exact rirt_odd_no w false A l c m q k K L E t up _ hlen hN lz hm0 hL hK (by omega) (by omega) ht hq hx (f2 hx)
theorem rirtl_any (w : World) (v : Value) (x : Dyadic) (n : Int) (k P Q : Nat) (hn : n = (k : Int)) (h : Dn w v x) (h0 : 0 ≤ x) (r : Rg P Q x) (hb : P + Q ≤ 1000) (hk : 1 ≤ k) (hk2 : k ≤ 300) :
    Calls Tryz.prog 129 #[v, .int .i64 n, .bool false] w (RetD w (rlo k x)) := rirt_any w v x n k P Q false hn h h0 r hb hk hk2
theorem rirth_any (w : World) (v : Value) (x : Dyadic) (n : Int) (k P Q : Nat) (hn : n = (k : Int)) (h : Dn w v x) (h0 : 0 ≤ x) (r : Rg P Q x) (hb : P + Q ≤ 1000) (hk : 1 ≤ k) (hk2 : k ≤ 300) :
    Calls Tryz.prog 129 #[v, .int .i64 n, .bool true] w (RetD w (rhi k x)) := rirt_any w v x n k P Q true hn h h0 r hb hk hk2
set_option maxRecDepth 4000 in
set_option maxHeartbeats 1000000 in
theorem riroot_no (w : World) (va : Value) (l h : Dyadic) (j : Int) (k : Nat) (hj : j = (k : Int)) (ha : In w va l h) (h0 : l < 0) :
    Calls Tryz.prog 112 #[va, .int .i64 j] w (RetIB w 0 0 false) := by
  obtain ⟨ba, Aa, na, ca, ea, ba', Aa', na', ca', ea', rfl, a1, a2⟩ := ha
  subst hj
  obtain ⟨t, ht⟩ : ∃ t, cmpD l 0 = t := ⟨_, rfl⟩
  have ht0 : t < 0 := by rw [← ht]; exact (cmp_lt l 0).2 h0
  have HC := Lib.hid (fun (w' : World) (E : Ext w w') => ht ▸ rsign_any w' _ l (a1.ext E))
  clear ht
  go_enter Tryz.func112, Tryz.ntmps112
  go_wp2_with fail
  refine (HC.out _ (((Ext.refl w).alloc _).alloc _)).mono ?_
  rintro _ W0 ⟨rfl, e0⟩
  have E0 : Ext w W0 := (((Ext.refl w).alloc _).alloc _).trans e0
  have Ba : Bx W0 (w.heap.size) (.bool ba) (.slice Aa na ca) (.int .i64 ea) (.bool ba') (.slice Aa' na' ca') (.int .i64 ea') := Bx.at (((Ext.refl _).alloc _).trans e0) rfl
  have Z0 : Zi W0 (w.heap.size + 1) := Zi.at e0 (by simp)
  have NBa : (w.heap.size : Nat) ≠ w.heap.size + 1 := by omega
  clear e0 HC
  have g0 := Z0.c0
  have g1 := Z0.c1
  have g2 := Z0.c2
  have g3 := Z0.c3
  have g4 := Z0.c4
  have g5 := Z0.c5
  have f0 := Z0.f 0
  have f1 := Z0.f 1
  have f2 := Z0.f 2
  have f3 := Z0.f 3
  have f4 := Z0.f 4
  have f5 := Z0.f 5
  go_wp2
  obtain ⟨k0, k1, k2, k3, k4, k5, hD⟩ := Z0.done (Dn.zero W0) (Dn.zero W0) E0 (by omega)
  exact bodyPost_ret (by simp [results, Tryz.results112, go_sem, k0, k1, k2, k3, k4, k5]) rfl (RetIB.of hD)
set_option maxRecDepth 4000 in
set_option maxHeartbeats 1000000 in
theorem riroot_yes (w : World) (va : Value) (l h : Dyadic) (j : Int) (k P Q : Nat) (hj : j = (k : Int)) (ha : In w va l h) (h0 : 0 ≤ l) (h1 : 0 ≤ h) (r1 : Rg P Q l) (r2 : Rg P Q h) (hb : P + Q ≤ 1000) (hk : 1 ≤ k) (hk2 : k ≤ 300) :
    Calls Tryz.prog 112 #[va, .int .i64 j] w (RetIB w (rlo k l) (rhi k h) true) := by
  obtain ⟨ba, Aa, na, ca, ea, ba', Aa', na', ca', ea', rfl, a1, a2⟩ := ha
  subst hj
  obtain ⟨t, ht⟩ : ∃ t, cmpD l 0 = t := ⟨_, rfl⟩
  have ht0 : ¬ t < 0 := by rw [← ht]; exact cmpD_ng h0
  have HC := Lib.hid (fun (w' : World) (E : Ext w w') => ht ▸ rsign_any w' _ l (a1.ext E))
  clear ht
  go_enter Tryz.func112, Tryz.ntmps112
  go_wp2_with fail
  refine (HC.out _ (((Ext.refl w).alloc _).alloc _)).mono ?_
  rintro _ W0 ⟨rfl, e0⟩
  have E0 : Ext w W0 := (((Ext.refl w).alloc _).alloc _).trans e0
  have Ba : Bx W0 (w.heap.size) (.bool ba) (.slice Aa na ca) (.int .i64 ea) (.bool ba') (.slice Aa' na' ca') (.int .i64 ea') := Bx.at (((Ext.refl _).alloc _).trans e0) rfl
  have Z0 : Zi W0 (w.heap.size + 1) := Zi.at e0 (by simp)
  have NBa : (w.heap.size : Nat) ≠ w.heap.size + 1 := by omega
  clear e0 HC
  obtain ⟨Ba_0, Ba_1, Ba_2, Ba_3, Ba_4, Ba_5⟩ := id Ba
  replace a1 := a1.ext E0
  replace a2 := a2.ext E0
  go_wp2
  go_region_held3 (fun w' => (w'.cell? ⟨w.heap.size, 0, none⟩ = some (.bool ba) ∧ w'.cell? ⟨w.heap.size, 1, none⟩ = some (.slice Aa na ca) ∧ w'.cell? ⟨w.heap.size, 2, none⟩ = some (.int .i64 ea) ∧ w'.cell? ⟨w.heap.size, 3, none⟩ = some (.bool ba') ∧ w'.cell? ⟨w.heap.size, 4, none⟩ = some (.slice Aa' na' ca') ∧ w'.cell? ⟨w.heap.size, 5, none⟩ = some (.int .i64 ea'))) (first | (with_reducible exact bx6 (Ba.ext F2)) | (with_reducible exact bx6 (Ba.ext F1)) | (with_reducible exact bx6 (Zi.keep (Ba.ext F2) NBa)) | go_keep) (first | ((have hF2 := F1); (go_at_call 129); (refine (rirth_any _ _ h _ k P Q rfl (a2.ext F1) h1 r2 hb hk hk2).mono ?_); (rintro _ u2 ⟨v2, rfl, m2, e2⟩); (have F2 : Ext W0 u2 := F1.trans e2); (replace m1 := m1.ext e2); (obtain ⟨y1, Y1, p1, q1, x1, rfl⟩ := m1.form); (obtain ⟨y2, Y2, p2, q2, x2, rfl⟩ := m2.form); (have Z1 := Z0.ext F2); (have g0 := Z1.c0); (have f0 := Z1.f 0); (have g1 := Z1.c1); (have f1 := Z1.f 1); (have g2 := Z1.c2); (have f2 := Z1.f 2); (have g3 := Z1.c3); (have f3 := Z1.f 3); (have g4 := Z1.c4); (have f4 := Z1.f 4); (have g5 := Z1.c5); (have f5 := Z1.f 5)) | ((go_at_call 129); (refine (rirtl_any _ _ l _ k P Q rfl (a1.ext (Ext.refl W0).drew) h0 r1 hb hk hk2).mono ?_); (rintro _ u1 ⟨v1, rfl, m1, e1⟩); (have F1 : Ext W0 u1 := (Ext.refl W0).drew.trans e1)))
  go_wp2
  obtain ⟨k0, k1, k2, k3, k4, k5, hD⟩ := Z1.done m1 m2 (E0.trans F2) (by omega)
  exact bodyPost_ret (by simp [results, Tryz.results112, go_sem, k0, k1, k2, k3, k4, k5]) rfl (RetIB.of hD)

end Go.Proofs.YtomdbmjfehoodaaGreatDoor
