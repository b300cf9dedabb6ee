/- Walks of package ivl: Root. -/
import Derived.Test.YtimdglgianheiaaGreatDoorP5
namespace Go.Proofs.YtimdglgianheiaaGreatDoor
open Go.RowKit
def RetIB (w : World) (l h : Dyadic) (ok : Bool) (e : Ending) (w' : World) : Prop := ∃ v, e = .returned (.tuple #[v, .bool ok]) ∧ In w' v l h ∧ Ext w w'
theorem RetIB.of {w w' : World} {l h : Dyadic} {v : Value} {ok : Bool} (k : RetI w l h (.returned v) w') : RetIB w l h ok (.returned (.tuple #[v, .bool ok])) w' := by
  obtain ⟨v', hv, h1, h2⟩ := k
  injection hv with hv
  subst hv
  exact ⟨_, rfl, h1, h2⟩
theorem cmpD_ng {x : Dyadic} (h : 0 ≤ x) : ¬ cmpD x 0 < 0 := fun k => by have := (cmp_lt x 0).1 k; grind
set_option maxRecDepth 4000 in
set_option maxHeartbeats 1000000 in
theorem iroot_no (w : World) (va : Value) (l h : Dyadic) (j : Int) (k : Nat) (hj : j = (k : Int)) (ha : In w va l h) (h0 : l < 0) :
    Calls Tryz.prog 9 #[va, .int .i64 j] w (RetIB w 0 0 false) := by
  obtain ⟨ba, Aa, na, ca, ea, ba', Aa', na', ca', ea', rfl, a1, a2⟩ := ha
  subst hj
  obtain ⟨t, ht⟩ : ∃ t, cmpD l 0 = t := ⟨_, rfl⟩
  have ht0 : t < 0 := by rw [← ht]; exact (cmp_lt l 0).2 h0
  have HC := Lib.hid (fun (w' : World) (E : Ext w w') => ht ▸ signD_any w' _ l (a1.ext E))
  clear ht
  go_enter Tryz.func9, Tryz.ntmps9
  go_wp2_with fail
  refine (HC.out _ (((Ext.refl w).alloc _).alloc _)).mono ?_
  rintro _ W0 ⟨rfl, e0⟩
  have E0 : Ext w W0 := (((Ext.refl w).alloc _).alloc _).trans e0
  have Ba : Bx W0 (w.heap.size) (.bool ba) (.slice Aa na ca) (.int .i64 ea) (.bool ba') (.slice Aa' na' ca') (.int .i64 ea') := Bx.at (((Ext.refl _).alloc _).trans e0) rfl
  have Z0 : Zi W0 (w.heap.size + 1) := Zi.at e0 (by simp)
  have NBa : (w.heap.size : Nat) ≠ w.heap.size + 1 := by omega
  clear e0 HC
  have g0 := Z0.c0
  have g1 := Z0.c1
  have g2 := Z0.c2
  have g3 := Z0.c3
  have g4 := Z0.c4
  have g5 := Z0.c5
  have f0 := Z0.f 0
  have f1 := Z0.f 1
  have f2 := Z0.f 2
  have f3 := Z0.f 3
  have f4 := Z0.f 4
  have f5 := Z0.f 5
  go_wp2
  obtain ⟨k0, k1, k2, k3, k4, k5, hD⟩ := Z0.done (Dn.zero W0) (Dn.zero W0) E0 (by omega)
  exact bodyPost_ret (by simp [results, Tryz.results9, go_sem, k0, k1, k2, k3, k4, k5]) rfl (RetIB.of hD)
set_option maxRecDepth 4000 in
set_option maxHeartbeats 1000000 in
theorem iroot_yes (w : World) (va : Value) (l h : Dyadic) (j : Int) (k P Q : Nat) (hj : j = (k : Int)) (ha : In w va l h) (h0 : 0 ≤ l) (h1 : 0 ≤ h) (r1 : Rg P Q l) (r2 : Rg P Q h) (hb : P + Q ≤ 2000) (hk : 1 ≤ k) (hk2 : k ≤ 1000) (T : Tb w) :
    Calls Tryz.prog 9 #[va, .int .i64 j] w (RetIB w (rlo k l) (rhi k h) true) := by
  obtain ⟨ba, Aa, na, ca, ea, ba', Aa', na', ca', ea', rfl, a1, a2⟩ := ha
  subst hj
  obtain ⟨t, ht⟩ : ∃ t, cmpD l 0 = t := ⟨_, rfl⟩
  have ht0 : ¬ t < 0 := by rw [← ht]; exact cmpD_ng h0
  have HC := Lib.hid (fun (w' : World) (E : Ext w w') => ht ▸ signD_any w' _ l (a1.ext E))
  clear ht
  go_enter Tryz.func9, Tryz.ntmps9
  go_wp2_with fail
  refine (HC.out _ (((Ext.refl w).alloc _).alloc _)).mono ?_
  rintro _ W0 ⟨rfl, e0⟩
  have E0 : Ext w W0 := (((Ext.refl w).alloc _).alloc _).trans e0
  have Ba : Bx W0 (w.heap.size) (.bool ba) (.slice Aa na ca) (.int .i64 ea) (.bool ba') (.slice Aa' na' ca') (.int .i64 ea') := Bx.at (((Ext.refl _).alloc _).trans e0) rfl
  have Z0 : Zi W0 (w.heap.size + 1) := Zi.at e0 (by simp)
  have NBa : (w.heap.size : Nat) ≠ w.heap.size + 1 := by omega
  clear e0 HC
  obtain ⟨Ba_0, Ba_1, Ba_2, Ba_3, Ba_4, Ba_5⟩ := id Ba
  replace a1 := a1.ext E0
  replace a2 := a2.ext E0
  replace T := T.ext E0
  go_wp2
  go_region_held3 (fun w' => (w'.cell? ⟨w.heap.size, 0, none⟩ = some (.bool ba) ∧ w'.cell? ⟨w.heap.size, 1, none⟩ = some (.slice Aa na ca) ∧ w'.cell? ⟨w.heap.size, 2, none⟩ = some (.int .i64 ea) ∧ w'.cell? ⟨w.heap.size, 3, none⟩ = some (.bool ba') ∧ w'.cell? ⟨w.heap.size, 4, none⟩ = some (.slice Aa' na' ca') ∧ w'.cell? ⟨w.heap.size, 5, none⟩ = some (.int .i64 ea'))) (first | (with_reducible exact bx6 (Ba.ext F2)) | (with_reducible exact bx6 (Ba.ext F1)) | (with_reducible exact bx6 (Zi.keep (Ba.ext F2) NBa)) | go_keep) (first | ((have hF2 := F1); (go_at_call 37); (refine (rooth_any _ _ h _ k P Q rfl (a2.ext F1) h1 r2 hb hk hk2 (T.ext F1)).mono ?_); (rintro _ u2 ⟨v2, rfl, m2, e2⟩); (have F2 : Ext W0 u2 := F1.trans e2); (replace m1 := m1.ext e2); (obtain ⟨y1, Y1, p1, q1, x1, rfl⟩ := m1.form); (obtain ⟨y2, Y2, p2, q2, x2, rfl⟩ := m2.form); (have Z1 := Z0.ext F2); (have g0 := Z1.c0); (have f0 := Z1.f 0); (have g1 := Z1.c1); (have f1 := Z1.f 1); (have g2 := Z1.c2); (have f2 := Z1.f 2); (have g3 := Z1.c3); (have f3 := Z1.f 3); (have g4 := Z1.c4); (have f4 := Z1.f 4); (have g5 := Z1.c5); (have f5 := Z1.f 5)) | ((go_at_call 37); (refine (rootl_any _ _ l _ k P Q rfl (a1.ext (Ext.refl W0).drew) h0 r1 hb hk hk2 (T.ext (Ext.refl W0).drew)).mono ?_); (rintro _ u1 ⟨v1, rfl, m1, e1⟩); (have F1 : Ext W0 u1 := (Ext.refl W0).drew.trans e1)))
  go_wp2
  obtain ⟨k0, k1, k2, k3, k4, k5, hD⟩ := Z1.done m1 m2 (E0.trans F2) (by omega)
  exact bodyPost_ret (by simp [results, Tryz.results9, go_sem, k0, k1, k2, k3, k4, k5]) rfl (RetIB.of hD)

end Go.Proofs.YtimdglgianheiaaGreatDoor
