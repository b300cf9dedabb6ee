/- Walks of the document's answers on angles: parts, sums, opposites, times. -/
import Derived.Test.YtncopdgonbgaaaaDoorTR
namespace Go.Proofs.YtncopdgonbgaaaaDoor
open Go.RowKit
set_option linter.unusedVariables false
/-- At g lies an angle's variable. -/
structure B2 (w : World) (g : Nat) (x y : Value) : Prop where
  c0 : w.cell? ⟨g, 0, none⟩ = some x
  c1 : w.cell? ⟨g, 1, none⟩ = some y
theorem B2.ext {w w' : World} {g : Nat} {x y : Value} (h : B2 w g x y) (E : Ext w w') : B2 w' g x y := by
  have hg : g < w.heap.size := World.block_lt_of_cell? w _ h.c0
  exact ⟨(E.cell hg).trans h.c0, (E.cell hg).trans h.c1⟩
theorem B2.new (w : World) (x y : Value) (t : TypeId) : B2 (w.alloc (.cells #[x, y] t)) w.heap.size x y := ⟨by rw [World.cell?_alloc_new]; rfl, by rw [World.cell?_alloc_new]; rfl⟩
theorem B2.at {w w' : World} {x y : Value} {t : TypeId} {g : Nat} (E : Ext (w.alloc (.cells #[x, y] t)) w') (hg : w.heap.size = g) : B2 w' g x y := by
  subst hg; exact (B2.new w x y t).ext E
theorem b2 {w : World} {g : Nat} {x y : Value} (h : B2 w g x y) : w.cell? ⟨g, 0, none⟩ = some x ∧ w.cell? ⟨g, 1, none⟩ = some y := ⟨h.c0, h.c1⟩
theorem B2.off {w : World} {g g' : Nat} {x y a b : Value} (h : B2 w g x y) (hg : g ≠ g') : B2 ((w.setCell ⟨g', 0, none⟩ a).setCell ⟨g', 1, none⟩ b) g x y := by
  have o : ∀ j, ((w.setCell ⟨g', 0, none⟩ a).setCell ⟨g', 1, none⟩ b).cell? ⟨g, j, none⟩ = w.cell? ⟨g, j, none⟩ := fun j => by
    rw [World.cell?_setCell_other _ _ _ _ (fun e => hg (by injection e with e; exact e.symm)), World.cell?_setCell_other _ _ _ _ (fun e => hg (by injection e with e; exact e.symm))]
  exact ⟨(o 0).trans h.c0, (o 1).trans h.c1⟩
/-- At g lies a result's variable, with nothing in it yet. -/
structure Z2 (w : World) (g : Nat) : Prop where
  c0 : w.cell? ⟨g, 0, none⟩ = some (.int .i64 0)
  c1 : w.cell? ⟨g, 1, none⟩ = some (.int .i64 0)
  f : ∀ j, w.frozen? ⟨g, j, none⟩ = false
theorem Z2.ext {w w' : World} {g : Nat} (h : Z2 w g) (E : Ext w w') : Z2 w' g := by
  have hg : g < w.heap.size := World.block_lt_of_cell? w _ h.c0
  exact ⟨(E.cell hg).trans h.c0, (E.cell hg).trans h.c1, fun j => (E.frozen hg).trans (h.f j)⟩
theorem Z2.at {w w' : World} {t : TypeId} {g : Nat} (E : Ext (w.alloc (.cells #[.int .i64 0, .int .i64 0] t)) w') (hg : w.heap.size = g) : Z2 w' g := by
  subst hg
  exact Z2.ext ⟨by rw [World.cell?_alloc_new]; rfl, by rw [World.cell?_alloc_new]; rfl, fun j => by simp⟩ E
theorem Z2.done {w w2 : World} {g : Nat} {x y : Value} (h : Z2 w2 g) (E : Ext w w2) (hg : w.heap.size ≤ g) :
    ((w2.setCell ⟨g, 0, none⟩ x).setCell ⟨g, 1, none⟩ y).cell? ⟨g, 0, none⟩ = some x ∧ ((w2.setCell ⟨g, 0, none⟩ x).setCell ⟨g, 1, none⟩ y).cell? ⟨g, 1, none⟩ = some y ∧ Ext w ((w2.setCell ⟨g, 0, none⟩ x).setCell ⟨g, 1, none⟩ y) := by
  have o : ∀ (W : World) (i j : Nat) (v : Value), i ≠ j → (W.setCell ⟨g, i, none⟩ v).cell? ⟨g, j, none⟩ = W.cell? ⟨g, j, none⟩ := fun W i j v hij => World.cell?_setCell_other _ _ _ _ (fun h => hij (by injection h))
  exact ⟨by rw [o _ 1 0 _ (by omega)]; exact World.cell?_setCell_same _ _ _ h.c0, World.cell?_setCell_same _ _ _ (by rw [o _ 0 1 _ (by omega)]; exact h.c1), (E.setCell hg _).setCell hg _⟩
theorem fld0 (a b : Value) (W : World) : (Instr.field 23 (.agg #[a, b]) 0).run Tryd.prog W = .ok a W := by kernel_rfl
theorem fld1 (a b : Value) (W : World) : (Instr.field 23 (.agg #[a, b]) 1).run Tryd.prog W = .ok b W := by kernel_rfl
set_option maxRecDepth 4000 in
set_option maxHeartbeats 1000000 in
theorem rparts_any (w : World) (K k N : Int) (Q q j : Nat) (hK : -9223372036854775808 ≤ K ∧ K ≤ 9223372036854775807) (hQ : Q ≤ 40) (h : Fm (tv K Q) k q) (hN : N = ((q + j : Nat) : Int)) (hj : q + j ≤ 40) :
    Calls Tryd.prog 26 #[.agg #[.int .i64 K, .int .i64 Q], .int .i64 N] w (RetE w (.int .i64 (k * 2 ^ j))) := by
  have HF := Lib.hid (fun w' => rform_any w' K k Q q hK hQ h)
  have hw1 : IntKind.i64.wrap (N - (q : Int)) = (j : Int) := by rw [IntWalk.i64_in _ (by omega)]; omega
  have hw1' : wrap64 (N - (q : Int)) = (j : Int) := by unfold wrap64; omega
  have hr := parts_range h (show q ≤ q + j by omega) hj
  have hl := p2_le hj
  rw [p2_40] at hl
  rw [show q + j - q = j by omega] at hr
  have hw2 : IntKind.i64.wrap (k * 2 ^ j) = k * 2 ^ j := IntWalk.i64_in _ (by omega)
  have hw2' : wrap64 (k * 2 ^ j) = k * 2 ^ j := by unfold wrap64; omega
  have hj2 : j ≤ 40 := by omega
  have hf0 := fld0
  have hf1 := fld1
  clear hr hl h hN hj hK hQ
  go_enter Tryd.func26, Tryd.ntmps26
  go_wp2
  generalize hW0 : (w.alloc (.cells #[.int .i64 K, .int .i64 Q] 23)) = W0
  have B : B2 W0 (w.heap.size) (.int .i64 K) (.int .i64 (Q : Int)) := by rw [← hW0]; exact B2.at (Ext.refl _) (by simp)
  have E0 : Ext w W0 := by rw [← hW0]; exact ((Ext.refl w).alloc _)
  obtain ⟨B_0, B_1⟩ := id B
  clear hW0
  go_region_held3 (fun w' => (w'.cell? ⟨w.heap.size, 0, none⟩ = some (.int .i64 K) ∧ w'.cell? ⟨w.heap.size, 1, none⟩ = some (.int .i64 Q))) (first | (with_reducible exact b2 (B.ext F2)) | (with_reducible exact b2 (B.ext F1)) | go_keep) (first | ((have hF2 := F1); (go_at_call 17); (refine (HF.out _).mono ?_); (rintro _ u2 ⟨rfl, e2⟩); (have F2 : Ext W0 u2 := F1.trans e2)) | ((go_at_call 17); (refine (HF.out _).mono ?_); (rintro _ u1 ⟨rfl, e1⟩); (have F1 : Ext W0 u1 := (Ext.refl W0).drew.trans e1)))
  go_wp2
  go_ret
  exact ⟨rfl, E0.trans F2⟩
set_option maxRecDepth 4000 in
set_option maxHeartbeats 1000000 in
theorem radd2_le (w : World) (Ka Kb ka kb k : Int) (Qa Qb qa qb q : Nat) (hKa : -9223372036854775808 ≤ Ka ∧ Ka ≤ 9223372036854775807) (hKb : -9223372036854775808 ≤ Kb ∧ Kb ≤ 9223372036854775807) (hQa : Qa ≤ 40) (hQb : Qb ≤ 40) (ha : Fm (tv Ka Qa) ka qa) (hb : Fm (tv Kb Qb) kb qb) (h : Fm ((tv Ka Qa + tv Kb Qb) % 1099511627776) k q) (hle : Qa < Qb) :
    Calls Tryd.prog 19 #[.agg #[.int .i64 Ka, .int .i64 Qa], .agg #[.int .i64 Kb, .int .i64 Qb]] w (RetE w (.agg #[.int .i64 k, .int .i64 q])) := by
  have la := fm_le hQa ha
  have lb := fm_le hQb hb
  have pa := parts_range ha (show qa ≤ Qb by omega) (by omega)
  have pb := parts_range hb (show qb ≤ Qb by omega) (by omega)
  have va := fm_parts ha (show qa ≤ Qb by omega) (by omega)
  have vb := fm_parts hb (show qb ≤ Qb by omega) (by omega)
  have hl := p2_le (show Qb ≤ 40 by omega)
  rw [p2_40] at hl
  have HA := Lib.hid (fun w' => rparts_any w' Ka ka (Qb : Int) Qa qa (Qb - qa) hKa hQa ha (by omega) (by omega))
  have HB := Lib.hid (fun w' => rparts_any w' Kb kb (Qb : Int) Qb qb (Qb - qb) hKb hQb hb (by omega) (by omega))
  have ht := tv_add va vb
  rw [← ht] at h
  have HC := Lib.hid (fun w' => rform_any w' (ka * 2 ^ (Qb - qa) + kb * 2 ^ (Qb - qb)) k Qb q (by omega) (by omega) h)
  have hw : IntKind.i64.wrap (ka * 2 ^ (Qb - qa) + kb * 2 ^ (Qb - qb)) = ka * 2 ^ (Qb - qa) + kb * 2 ^ (Qb - qb) := IntWalk.i64_in _ (by omega)
  have hw' : wrap64 (ka * 2 ^ (Qb - qa) + kb * 2 ^ (Qb - qb)) = ka * 2 ^ (Qb - qa) + kb * 2 ^ (Qb - qb) := by unfold wrap64; omega
  have hmx : max (Qa : Int) (Qb : Int) = (Qb : Int) := by omega
  have h1 : Qa < Qb := by omega
  have h2 : (Qa : Int) < (Qb : Int) := by omega
  clear hKa hKb hQa hQb ha hb h la lb pa pb va vb hl ht hle
  generalize ka * 2 ^ (Qb - qa) = A at *
  generalize kb * 2 ^ (Qb - qb) = B at *
  go_enter Tryd.func19, Tryd.ntmps19
  go_wp2
  generalize hW0 : (((w.alloc (.cells #[.int .i64 Ka, .int .i64 Qa] 23)).alloc (.cells #[.int .i64 Kb, .int .i64 Qb] 23)).alloc (.cells #[.int .i64 0, .int .i64 0] 23)) = W0
  have Ba : B2 W0 (w.heap.size) (.int .i64 Ka) (.int .i64 (Qa : Int)) := by rw [← hW0]; exact B2.at (((Ext.refl _).alloc _).alloc _) (by simp)
  have Bb : B2 W0 (w.heap.size + 1) (.int .i64 Kb) (.int .i64 (Qb : Int)) := by rw [← hW0]; exact B2.at ((Ext.refl _).alloc _) (by simp)
  have Z0 : Z2 W0 (w.heap.size + 1 + 1) := by rw [← hW0]; exact Z2.at (Ext.refl _) (by simp)
  have E0 : Ext w W0 := by rw [← hW0]; exact ((((Ext.refl w).alloc _).alloc _).alloc _)
  obtain ⟨Ba_0, Ba_1⟩ := id Ba
  have NBa : (w.heap.size : Nat) ≠ w.heap.size + 1 + 1 := by omega
  obtain ⟨Bb_0, Bb_1⟩ := id Bb
  have NBb : (w.heap.size + 1 : Nat) ≠ w.heap.size + 1 + 1 := by omega
  clear hW0
  go_region_held3 (fun w' => (w'.cell? ⟨w.heap.size, 0, none⟩ = some (.int .i64 Ka) ∧ w'.cell? ⟨w.heap.size, 1, none⟩ = some (.int .i64 Qa)) ∧ (w'.cell? ⟨w.heap.size + 1, 0, none⟩ = some (.int .i64 Kb) ∧ w'.cell? ⟨w.heap.size + 1, 1, none⟩ = some (.int .i64 Qb))) (first | (with_reducible exact ⟨b2 (B2.off (Ba.ext F3) NBa), b2 (B2.off (Bb.ext F3) NBb)⟩) | (with_reducible exact ⟨b2 (Ba.ext F3), b2 (Bb.ext F3)⟩) | (with_reducible exact ⟨b2 (Ba.ext F2), b2 (Bb.ext F2)⟩) | (with_reducible exact ⟨b2 (Ba.ext F1), b2 (Bb.ext F1)⟩) | go_keep) (first | ((have hF3 := F2); (go_at_call 17); (refine (HC.out _).mono ?_); (rintro _ u3 ⟨rfl, e3⟩); (have F3 : Ext W0 u3 := F2.trans e3); (have Z1 := Z0.ext F3); (have g0 := Z1.c0); (have g1 := Z1.c1); (have f0 := Z1.f 0); (have f1 := Z1.f 1)) | ((have hF2 := F1); (go_at_call 26); (refine (HB.out _).mono ?_); (rintro _ u2 ⟨rfl, e2⟩); (have F2 : Ext W0 u2 := F1.trans e2)) | ((go_at_call 26); (refine (HA.out _).mono ?_); (rintro _ u1 ⟨rfl, e1⟩); (have F1 : Ext W0 u1 := (Ext.refl W0).drew.trans e1)))
  go_wp2
  obtain ⟨k0, k1, hD⟩ := Z1.done (E0.trans F3) (by omega)
  exact bodyPost_ret (by simp [results, Tryd.results19, go_sem, k0, k1]) rfl ⟨rfl, hD⟩
set_option maxRecDepth 4000 in
set_option maxHeartbeats 1000000 in
theorem radd2_ge (w : World) (Ka Kb ka kb k : Int) (Qa Qb qa qb q : Nat) (hKa : -9223372036854775808 ≤ Ka ∧ Ka ≤ 9223372036854775807) (hKb : -9223372036854775808 ≤ Kb ∧ Kb ≤ 9223372036854775807) (hQa : Qa ≤ 40) (hQb : Qb ≤ 40) (ha : Fm (tv Ka Qa) ka qa) (hb : Fm (tv Kb Qb) kb qb) (h : Fm ((tv Ka Qa + tv Kb Qb) % 1099511627776) k q) (hle : ¬ Qa < Qb) :
    Calls Tryd.prog 19 #[.agg #[.int .i64 Ka, .int .i64 Qa], .agg #[.int .i64 Kb, .int .i64 Qb]] w (RetE w (.agg #[.int .i64 k, .int .i64 q])) := by
  have la := fm_le hQa ha
  have lb := fm_le hQb hb
  have pa := parts_range ha (show qa ≤ Qa by omega) (by omega)
  have pb := parts_range hb (show qb ≤ Qa by omega) (by omega)
  have va := fm_parts ha (show qa ≤ Qa by omega) (by omega)
  have vb := fm_parts hb (show qb ≤ Qa by omega) (by omega)
  have hl := p2_le (show Qa ≤ 40 by omega)
  rw [p2_40] at hl
  have HA := Lib.hid (fun w' => rparts_any w' Ka ka (Qa : Int) Qa qa (Qa - qa) hKa hQa ha (by omega) (by omega))
  have HB := Lib.hid (fun w' => rparts_any w' Kb kb (Qa : Int) Qb qb (Qa - qb) hKb hQb hb (by omega) (by omega))
  have ht := tv_add va vb
  rw [← ht] at h
  have HC := Lib.hid (fun w' => rform_any w' (ka * 2 ^ (Qa - qa) + kb * 2 ^ (Qa - qb)) k Qa q (by omega) (by omega) h)
  have hw : IntKind.i64.wrap (ka * 2 ^ (Qa - qa) + kb * 2 ^ (Qa - qb)) = ka * 2 ^ (Qa - qa) + kb * 2 ^ (Qa - qb) := IntWalk.i64_in _ (by omega)
  have hw' : wrap64 (ka * 2 ^ (Qa - qa) + kb * 2 ^ (Qa - qb)) = ka * 2 ^ (Qa - qa) + kb * 2 ^ (Qa - qb) := by unfold wrap64; omega
  have hmx : max (Qa : Int) (Qb : Int) = (Qa : Int) := by omega
  have h1 : ¬ Qa < Qb := by omega
  have h2 : ¬ (Qa : Int) < (Qb : Int) := by omega
  clear hKa hKb hQa hQb ha hb h la lb pa pb va vb hl ht hle
  generalize ka * 2 ^ (Qa - qa) = A at *
  generalize kb * 2 ^ (Qa - qb) = B at *
  go_enter Tryd.func19, Tryd.ntmps19
  go_wp2
  generalize hW0 : (((w.alloc (.cells #[.int .i64 Ka, .int .i64 Qa] 23)).alloc (.cells #[.int .i64 Kb, .int .i64 Qb] 23)).alloc (.cells #[.int .i64 0, .int .i64 0] 23)) = W0
  have Ba : B2 W0 (w.heap.size) (.int .i64 Ka) (.int .i64 (Qa : Int)) := by rw [← hW0]; exact B2.at (((Ext.refl _).alloc _).alloc _) (by simp)
  have Bb : B2 W0 (w.heap.size + 1) (.int .i64 Kb) (.int .i64 (Qb : Int)) := by rw [← hW0]; exact B2.at ((Ext.refl _).alloc _) (by simp)
  have Z0 : Z2 W0 (w.heap.size + 1 + 1) := by rw [← hW0]; exact Z2.at (Ext.refl _) (by simp)
  have E0 : Ext w W0 := by rw [← hW0]; exact ((((Ext.refl w).alloc _).alloc _).alloc _)
  obtain ⟨Ba_0, Ba_1⟩ := id Ba
  have NBa : (w.heap.size : Nat) ≠ w.heap.size + 1 + 1 := by omega
  obtain ⟨Bb_0, Bb_1⟩ := id Bb
  have NBb : (w.heap.size + 1 : Nat) ≠ w.heap.size + 1 + 1 := by omega
  clear hW0
  go_region_held3 (fun w' => (w'.cell? ⟨w.heap.size, 0, none⟩ = some (.int .i64 Ka) ∧ w'.cell? ⟨w.heap.size, 1, none⟩ = some (.int .i64 Qa)) ∧ (w'.cell? ⟨w.heap.size + 1, 0, none⟩ = some (.int .i64 Kb) ∧ w'.cell? ⟨w.heap.size + 1, 1, none⟩ = some (.int .i64 Qb))) (first | (with_reducible exact ⟨b2 (B2.off (Ba.ext F3) NBa), b2 (B2.off (Bb.ext F3) NBb)⟩) | (with_reducible exact ⟨b2 (Ba.ext F3), b2 (Bb.ext F3)⟩) | (with_reducible exact ⟨b2 (Ba.ext F2), b2 (Bb.ext F2)⟩) | (with_reducible exact ⟨b2 (Ba.ext F1), b2 (Bb.ext F1)⟩) | go_keep) (first | ((have hF3 := F2); (go_at_call 17); (refine (HC.out _).mono ?_); (rintro _ u3 ⟨rfl, e3⟩); (have F3 : Ext W0 u3 := F2.trans e3); (have Z1 := Z0.ext F3); (have g0 := Z1.c0); (have g1 := Z1.c1); (have f0 := Z1.f 0); (have f1 := Z1.f 1)) | ((have hF2 := F1); (go_at_call 26); (refine (HB.out _).mono ?_); (rintro _ u2 ⟨rfl, e2⟩); (have F2 : Ext W0 u2 := F1.trans e2)) | ((go_at_call 26); (refine (HA.out _).mono ?_); (rintro _ u1 ⟨rfl, e1⟩); (have F1 : Ext W0 u1 := (Ext.refl W0).drew.trans e1)))
  go_wp2
  obtain ⟨k0, k1, hD⟩ := Z1.done (E0.trans F3) (by omega)
  exact bodyPost_ret (by simp [results, Tryd.results19, go_sem, k0, k1]) rfl ⟨rfl, hD⟩
theorem radd2_any (w : World) (Ka Kb ka kb k : Int) (Qa Qb qa qb q : Nat) (hKa : -9223372036854775808 ≤ Ka ∧ Ka ≤ 9223372036854775807) (hKb : -9223372036854775808 ≤ Kb ∧ Kb ≤ 9223372036854775807) (hQa : Qa ≤ 40) (hQb : Qb ≤ 40) (ha : Fm (tv Ka Qa) ka qa) (hb : Fm (tv Kb Qb) kb qb) (h : Fm ((tv Ka Qa + tv Kb Qb) % 1099511627776) k q) :
    Calls Tryd.prog 19 #[.agg #[.int .i64 Ka, .int .i64 Qa], .agg #[.int .i64 Kb, .int .i64 Qb]] w (RetE w (.agg #[.int .i64 k, .int .i64 q])) := by
  by_cases hle : Qa < Qb
  · exact radd2_le w Ka Kb ka kb k Qa Qb qa qb q hKa hKb hQa hQb ha hb h hle
  · exact radd2_ge w Ka Kb ka kb k Qa Qb qa qb q hKa hKb hQa hQb ha hb h hle
set_option maxRecDepth 4000 in
set_option maxHeartbeats 1000000 in
theorem rflip2_any (w : World) (K k : Int) (Q q : Nat) (hK : -9223372036854775807 ≤ K ∧ K ≤ 9223372036854775807) (hQ : Q ≤ 40) (h : Fm ((-tv K Q) % 1099511627776) k q) :
    Calls Tryd.prog 21 #[.agg #[.int .i64 K, .int .i64 Q]] w (RetE w (.agg #[.int .i64 k, .int .i64 q])) := by
  rw [← tv_neg] at h
  have HC := Lib.hid (fun w' => rform_any w' (-K) k Q q (by omega) hQ h)
  have hw : IntKind.i64.wrap (-K) = -K := IntWalk.i64_in _ (by omega)
  have hw' : wrap64 (-K) = -K := by unfold wrap64; omega
  clear h hQ hK
  go_enter Tryd.func21, Tryd.ntmps21
  go_wp2_with (go_at_call 17; refine (HC.out _).mono ?_; rintro _ w4 ⟨rfl, e4⟩; have Z1 : Z2 w4 (w.heap.size + 1) := Z2.at e4 (by simp); have g0 := Z1.c0; have g1 := Z1.c1; have f0 := Z1.f 0; have f1 := Z1.f 1)
  obtain ⟨k0, k1, hD⟩ := Z1.done ((((Ext.refl w).alloc _).alloc _).trans e4) (by omega)
  exact bodyPost_ret (by simp [results, Tryd.results21, go_sem, k0, k1]) rfl ⟨rfl, hD⟩
theorem wrap_same (x : Int) : IntKind.i64.wrap x = wrap64 x := by rw [IntKind.wrap_i64]; unfold wrap64; rfl
set_option maxRecDepth 4000 in
set_option maxHeartbeats 1000000 in
theorem rtimes_any (w : World) (K n kf k : Int) (Q qf q : Nat) (hK : -9223372036854775808 ≤ K ∧ K ≤ 9223372036854775807) (hQ : Q ≤ 40) (hn : -9223372036854775808 ≤ n ∧ n ≤ 9223372036854775807) (hf : Fm (tv K Q) kf qf) (h : Fm (n * tv K Q % 1099511627776) k q) :
    Calls Tryd.prog 23 #[.agg #[.int .i64 K, .int .i64 Q], .int .i64 n] w (RetE w (.agg #[.int .i64 k, .int .i64 q])) := by
  obtain ⟨f1, f2, f3, f4⟩ := hf.low
  have hp := p2_pos qf
  have hl := p2_le f3
  rw [p2_40] at hl
  have hw := two_pow_word (show qf ≤ 41 by omega)
  have hs := form_word (K := n) f3
  rw [← wrap_same] at hs
  have hs2 : (n % 2 ^ qf).tmod (2 ^ qf) = n % 2 ^ qf := by
    have a := Int.emod_nonneg n (Int.ne_of_gt hp)
    have b := Int.emod_lt_of_pos n hp
    rw [Int.tmod_eq_emod_of_nonneg a, Int.emod_eq_of_lt a b]
  have ht := tv_times (K := kf) (n := n) (v := tv K Q) f3 f4.symm
  rw [← ht, ← tv_wrap] at h
  have HA := Lib.hid (fun w' => rform_any w' K kf Q qf hK hQ hf)
  have HC := Lib.hid (fun w' => rform_any w' (IntKind.i64.wrap (kf * (n % 2 ^ qf))) k qf q (by rw [wrap_same]; unfold wrap64; omega) f3 (by rw [wrap_same]; exact h))
  have hp0 : ¬ (2 : Int) ^ qf = 0 := by omega
  clear hK hQ hn hf h f1 f4 ht hl
  generalize hB : n % 2 ^ qf = B at *
  clear hB
  go_enter Tryd.func23, Tryd.ntmps23
  go_wp2_with fail
  refine (HA.out _).mono ?_
  rintro _ w1 ⟨rfl, e1⟩
  go_wp2
  generalize hW0 : (w1.alloc (.cells #[.int .i64 kf, .int .i64 qf] 23)) = W0
  have Bf : B2 W0 w1.heap.size (.int .i64 kf) (.int .i64 (qf : Int)) := by rw [← hW0]; exact B2.at (Ext.refl _) rfl
  have Z0 : Z2 W0 (w.heap.size + 1) := by rw [← hW0]; exact Z2.at (e1.trans ((Ext.refl _).alloc _)) (by simp)
  have E0 : Ext w W0 := by rw [← hW0]; exact ((((Ext.refl w).alloc _).alloc _).trans e1).alloc _
  have NBf : (w1.heap.size : Nat) ≠ w.heap.size + 1 := by have := e1.size; simp only [World.size_alloc] at this; omega
  obtain ⟨Bf_0, Bf_1⟩ := id Bf
  clear hW0 e1
  go_region_held3 (fun w' => (w'.cell? ⟨w1.heap.size, 0, none⟩ = some (.int .i64 kf) ∧ w'.cell? ⟨w1.heap.size, 1, none⟩ = some (.int .i64 (qf : Int)))) (first | (with_reducible exact b2 (B2.off (Bf.ext F1) NBf)) | (with_reducible exact b2 (Bf.ext F1)) | go_keep) (first | ((go_at_call 17); (refine (HC.out _).mono ?_); (rintro _ u1 ⟨rfl, e1⟩); (have F1 : Ext W0 u1 := (Ext.refl W0).drew.trans e1); (have Z1 := Z0.ext F1); (have g0 := Z1.c0); (have g1 := Z1.c1); (have f0 := Z1.f 0); (have f1 := Z1.f 1)))
  go_wp2
  obtain ⟨k0, k1, hD⟩ := Z1.done (E0.trans F1) (by omega)
  exact bodyPost_ret (by simp [results, Tryd.results23, go_sem, k0, k1]) rfl ⟨rfl, hD⟩
/-- At g lies a part's variable, with nothing in it yet. -/
structure Z3 (w : World) (g : Nat) : Prop where
  c0 : w.cell? ⟨g, 0, none⟩ = some (.int .i64 0)
  c1 : w.cell? ⟨g, 1, none⟩ = some (.int .i64 0)
  c2 : w.cell? ⟨g, 2, none⟩ = some (.int .i64 0)
  f : ∀ j, w.frozen? ⟨g, j, none⟩ = false
theorem Z3.ext {w w' : World} {g : Nat} (h : Z3 w g) (E : Ext w w') : Z3 w' g := by
  have hg : g < w.heap.size := World.block_lt_of_cell? w _ h.c0
  exact ⟨(E.cell hg).trans h.c0, (E.cell hg).trans h.c1, (E.cell hg).trans h.c2, fun j => (E.frozen hg).trans (h.f j)⟩
theorem Z3.at {w w' : World} {t : TypeId} {g : Nat} (E : Ext (w.alloc (.cells #[.int .i64 0, .int .i64 0, .int .i64 0] t)) w') (hg : w.heap.size = g) : Z3 w' g := by
  subst hg
  exact Z3.ext ⟨by rw [World.cell?_alloc_new]; rfl, by rw [World.cell?_alloc_new]; rfl, by rw [World.cell?_alloc_new]; rfl, fun j => by simp⟩ E
theorem Z3.done {w w2 : World} {g : Nat} {x y z : Value} (h : Z3 w2 g) (E : Ext w w2) (hg : w.heap.size ≤ g) :
    let W := (((w2.setCell ⟨g, 0, none⟩ x).setCell ⟨g, 1, none⟩ y).setCell ⟨g, 2, none⟩ z)
    W.cell? ⟨g, 0, none⟩ = some x ∧ W.cell? ⟨g, 1, none⟩ = some y ∧ W.cell? ⟨g, 2, none⟩ = some z ∧ Ext w W := by
  have o : ∀ (W : World) (i j : Nat) (v : Value), i ≠ j → (W.setCell ⟨g, i, none⟩ v).cell? ⟨g, j, none⟩ = W.cell? ⟨g, j, none⟩ := fun W i j v hij => World.cell?_setCell_other _ _ _ _ (fun h => hij (by injection h))
  refine ⟨?_, ?_, ?_, ((E.setCell hg _).setCell hg _).setCell hg _⟩
  · rw [o _ 2 0 _ (by omega), o _ 1 0 _ (by omega)]; exact World.cell?_setCell_same _ _ _ h.c0
  · rw [o _ 2 1 _ (by omega)]; exact World.cell?_setCell_same _ _ _ (by rw [o _ 0 1 _ (by omega)]; exact h.c1)
  · exact World.cell?_setCell_same _ _ _ (by rw [o _ 1 2 _ (by omega), o _ 0 2 _ (by omega)]; exact h.c2)
/-- The eighth and the rest of the angle of v parts of 2^40. -/
def eighth (v : Int) : Int := v / 137438953472
def rest (v : Int) : Int := if eighth v % 2 = 0 then v - eighth v * 137438953472 else (eighth v + 1) * 137438953472 - v
theorem rest_range {v : Int} (h0 : 0 ≤ v) (h1 : v < 1099511627776) : 0 ≤ eighth v ∧ eighth v ≤ 7 ∧ 0 ≤ rest v ∧ rest v ≤ 137438953472 := by
  unfold rest eighth
  split <;> omega
theorem p2_37 : (2 : Int) ^ 37 = 137438953472 := by decide
theorem eighth_parts {v k : Int} {q M j : Nat} (h : Fm v k q) (hj : q + j = M) (hM : M ≤ 40) (h3 : 3 ≤ M) : k * 2 ^ j / 2 ^ (M - 3) = eighth v ∧ tv (k * 2 ^ j - eighth v * 2 ^ (M - 3)) M = (v - eighth v * 137438953472) % 1099511627776 ∧ tv ((eighth v + 1) * 2 ^ (M - 3) - k * 2 ^ j) M = ((eighth v + 1) * 137438953472 - v) % 1099511627776 := by
  have hv := fm_parts h (show q ≤ M by omega) hM
  rw [show M - q = j by omega] at hv
  have h37 : (2 : Int) ^ (M - 3) * 2 ^ (40 - M) = 137438953472 := by
    rw [← p2_add, show M - 3 + (40 - M) = 37 by omega]; decide
  have e1 : k * 2 ^ j / 2 ^ (M - 3) = eighth v := by
    unfold eighth
    rw [← hv, ← h37, Int.mul_ediv_mul_of_pos_left _ _ (p2_pos _)]
  refine ⟨e1, ?_, ?_⟩
  · unfold tv
    rw [Int.sub_mul, hv, Int.mul_assoc, h37]
  · unfold tv
    rw [Int.sub_mul, hv, Int.mul_assoc, h37]
set_option maxRecDepth 4000 in
set_option maxHeartbeats 1000000 in
theorem rsplit_even (w : World) (K kf k : Int) (Q qf q : Nat) (hK : -9223372036854775808 ≤ K ∧ K ≤ 9223372036854775807) (hQ : Q ≤ 40) (hf : Fm (tv K Q) kf qf) (hp : eighth (tv K Q) % 2 = 0) (h : Fm (rest (tv K Q)) k q) :
    Calls Tryd.prog 15 #[.agg #[.int .i64 K, .int .i64 Q]] w (RetE w (.agg #[.int .i64 (eighth (tv K Q)), .int .i64 k, .int .i64 q])) := by
  have hrg := tv_range K Q
  have hrr := rest_range hrg.1 hrg.2
  have hle := fm_le hQ hf
  have HP := Lib.hid (fun (w' : World) (M : Nat) (h1 : Q ≤ M) (h2 : M ≤ 40) => rparts_any w' K kf (M : Int) Q qf (M - qf) hK hQ hf (by omega) (by omega))
  have HE := Lib.hid (fun (M : Nat) (h1 : Q ≤ M) (h2 : M ≤ 40) (h3 : 3 ≤ M) => eighth_parts (j := M - qf) hf (by omega) h2 h3)
  have HR := Lib.hid (fun (M : Nat) (h1 : Q ≤ M) (h2 : M ≤ 40) => parts_range hf (show qf ≤ M by omega) h2)
  have hrest : rest (tv K Q) = tv K Q - eighth (tv K Q) * 137438953472 := if_pos hp
  generalize hv : tv K Q = v at *
  obtain ⟨e, he⟩ : ∃ e, eighth v = e := ⟨_, rfl⟩
  rw [he] at HE hp hrr hrest ⊢
  rw [hrest] at h hrr
  clear hrest hf hv he hK
  go_enter Tryd.func15, Tryd.ntmps15
  go_upto_region 1 with fail
  go_cut [3] from 7 (fun p wx => ∃ M : Nat, p = .int .i64 (M : Int) ∧ Q ≤ M ∧ 3 ≤ M ∧ M ≤ 40 ∧ wx = ((w.alloc (.cells #[.int .i64 K, .int .i64 Q] 23)).alloc (.cells #[.int .i64 0, .int .i64 0, .int .i64 0] 29)))
  case first =>
    by_cases hq : Q < 3
    · go_wp2_with fail
      go_meet
      case rel => exact ⟨3, rfl, by omega, by omega, by omega, rfl⟩
    · go_wp2_with fail
      go_meet
      case rel => exact ⟨Q, rfl, by omega, by omega, hQ, rfl⟩
  case rest =>
    obtain ⟨M, rfl, h1, h3, h4, rfl⟩ := hcut
    replace HP := Lib.hid (fun w' => HP.out w' M h1 h4)
    obtain ⟨e1, e2, e3⟩ := HE.out M h1 h4 h3
    obtain ⟨p1, p2⟩ := HR.out M h1 h4
    clear HE HR
    generalize kf * 2 ^ (M - qf) = A at *
    have hO : (2 : Int) ^ (M - 3) ≤ 137438953472 := by rw [← p2_37]; exact p2_le (by omega)
    have hO1 := p2_pos (M - 3)
    have hM := p2_le h4
    rw [p2_40] at hM
    have hw0 : ((M : Int) - 3).toNat = M - 3 := by omega
    have hw1 : wrap64 ((M : Int) - 3) = ((M - 3 : Nat) : Int) := by unfold wrap64; omega
    have hw2 := two_pow_word (show M - 3 ≤ 41 by omega)
    have hd : A.tdiv (2 ^ (M - 3)) = e := by rw [Int.tdiv_eq_ediv_of_nonneg p1]; exact e1
    generalize hOg : (2 : Int) ^ (M - 3) = O at *
    have hb : 0 ≤ e * O ∧ (e + 1) * O ≤ 8 * 137438953472 := by
      refine ⟨Int.mul_nonneg hrr.1 (Int.le_of_lt hO1), ?_⟩
      have a := Int.mul_le_mul_of_nonneg_left hO (show 0 ≤ e + 1 by omega)
      have b := Int.mul_le_mul_of_nonneg_right (show e + 1 ≤ 8 by omega) (show (0 : Int) ≤ 137438953472 by omega)
      omega
    have hb2 : (e + 1) * O = e * O + O := by rw [Int.add_mul, Int.one_mul]
    have hm0 : wrap64 e = e := by unfold wrap64; omega
    have hm1 : wrap64 (e * O) = e * O := by unfold wrap64; omega
    have hm2 : wrap64 ((e + 1) * O) = (e + 1) * O := by unfold wrap64; omega
    have hm3 : wrap64 (e + 1) = e + 1 := by unfold wrap64; omega
    have hm4 : wrap64 (A - e * O) = A - e * O := by unfold wrap64; omega
    have htm : e.tmod 2 = 0 := by rw [Int.tmod_eq_emod_of_nonneg hrr.1]; exact hp
    have HC := Lib.hid (fun w' => rform_any w' (A - e * O) k M q (by omega) h4 (by rw [e2, Int.emod_eq_of_lt hrr.2.2.1 (by omega)]; exact h))
    clear h1 e1 e2 e3 p1 p2 hO hM hb hb2 hrr h hp hle hrg
    go_wp2_with fail
    refine (HP.out _).mono ?_
    rintro _ w1 ⟨rfl, x1⟩
    go_wp2_with (go_at_call 17; refine (HC.out _).mono ?_; rintro _ w4 ⟨rfl, x4⟩; have Z1 : Z3 w4 (w.heap.size + 1) := Z3.at (x1.trans x4) (by simp); have g0 := Z1.c0; have g1 := Z1.c1; have g2 := Z1.c2; have f0 := Z1.f 0; have f1 := Z1.f 1; have f2 := Z1.f 2)
    obtain ⟨k0, k1, k2, hD⟩ := Z1.done (((((Ext.refl w).alloc _).alloc _).trans x1).trans x4) (by omega)
    exact bodyPost_ret (by simp [results, Tryd.results15, go_sem, k0, k1, k2]) rfl ⟨rfl, hD⟩
set_option maxRecDepth 4000 in
set_option maxHeartbeats 1000000 in
theorem rsplit_odd (w : World) (K kf k : Int) (Q qf q : Nat) (hK : -9223372036854775808 ≤ K ∧ K ≤ 9223372036854775807) (hQ : Q ≤ 40) (hf : Fm (tv K Q) kf qf) (hp : eighth (tv K Q) % 2 ≠ 0) (h : Fm (rest (tv K Q)) k q) :
    Calls Tryd.prog 15 #[.agg #[.int .i64 K, .int .i64 Q]] w (RetE w (.agg #[.int .i64 (eighth (tv K Q)), .int .i64 k, .int .i64 q])) := by
  have hrg := tv_range K Q
  have hrr := rest_range hrg.1 hrg.2
  have hle := fm_le hQ hf
  have HP := Lib.hid (fun (w' : World) (M : Nat) (h1 : Q ≤ M) (h2 : M ≤ 40) => rparts_any w' K kf (M : Int) Q qf (M - qf) hK hQ hf (by omega) (by omega))
  have HE := Lib.hid (fun (M : Nat) (h1 : Q ≤ M) (h2 : M ≤ 40) (h3 : 3 ≤ M) => eighth_parts (j := M - qf) hf (by omega) h2 h3)
  have HR := Lib.hid (fun (M : Nat) (h1 : Q ≤ M) (h2 : M ≤ 40) => parts_range hf (show qf ≤ M by omega) h2)
  have hrest : rest (tv K Q) = (eighth (tv K Q) + 1) * 137438953472 - tv K Q := if_neg hp
  generalize hv : tv K Q = v at *
  obtain ⟨e, he⟩ : ∃ e, eighth v = e := ⟨_, rfl⟩
  rw [he] at HE hp hrr hrest ⊢
  rw [hrest] at h hrr
  clear hrest hf hv he hK
  go_enter Tryd.func15, Tryd.ntmps15
  go_upto_region 1 with fail
  go_cut [3] from 7 (fun p wx => ∃ M : Nat, p = .int .i64 (M : Int) ∧ Q ≤ M ∧ 3 ≤ M ∧ M ≤ 40 ∧ wx = ((w.alloc (.cells #[.int .i64 K, .int .i64 Q] 23)).alloc (.cells #[.int .i64 0, .int .i64 0, .int .i64 0] 29)))
  case first =>
    by_cases hq : Q < 3
    · go_wp2_with fail
      go_meet
      case rel => exact ⟨3, rfl, by omega, by omega, by omega, rfl⟩
    · go_wp2_with fail
      go_meet
      case rel => exact ⟨Q, rfl, by omega, by omega, hQ, rfl⟩
  case rest =>
    obtain ⟨M, rfl, h1, h3, h4, rfl⟩ := hcut
    replace HP := Lib.hid (fun w' => HP.out w' M h1 h4)
    obtain ⟨e1, e2, e3⟩ := HE.out M h1 h4 h3
    obtain ⟨p1, p2⟩ := HR.out M h1 h4
    clear HE HR
    generalize kf * 2 ^ (M - qf) = A at *
    have hO : (2 : Int) ^ (M - 3) ≤ 137438953472 := by rw [← p2_37]; exact p2_le (by omega)
    have hO1 := p2_pos (M - 3)
    have hM := p2_le h4
    rw [p2_40] at hM
    have hw0 : ((M : Int) - 3).toNat = M - 3 := by omega
    have hw1 : wrap64 ((M : Int) - 3) = ((M - 3 : Nat) : Int) := by unfold wrap64; omega
    have hw2 := two_pow_word (show M - 3 ≤ 41 by omega)
    have hd : A.tdiv (2 ^ (M - 3)) = e := by rw [Int.tdiv_eq_ediv_of_nonneg p1]; exact e1
    generalize hOg : (2 : Int) ^ (M - 3) = O at *
    have hb : 0 ≤ e * O ∧ (e + 1) * O ≤ 8 * 137438953472 := by
      refine ⟨Int.mul_nonneg hrr.1 (Int.le_of_lt hO1), ?_⟩
      have a := Int.mul_le_mul_of_nonneg_left hO (show 0 ≤ e + 1 by omega)
      have b := Int.mul_le_mul_of_nonneg_right (show e + 1 ≤ 8 by omega) (show (0 : Int) ≤ 137438953472 by omega)
      omega
    have hb2 : (e + 1) * O = e * O + O := by rw [Int.add_mul, Int.one_mul]
    have hm0 : wrap64 e = e := by unfold wrap64; omega
    have hm1 : wrap64 (e * O) = e * O := by unfold wrap64; omega
    have hm2 : wrap64 ((e + 1) * O) = (e + 1) * O := by unfold wrap64; omega
    have hm3 : wrap64 (e + 1) = e + 1 := by unfold wrap64; omega
    have hm4 : wrap64 ((e + 1) * O - A) = (e + 1) * O - A := by unfold wrap64; omega
    have htm : (e.tmod 2 == 0) = false := by rw [Int.tmod_eq_emod_of_nonneg hrr.1]; exact beq_eq_false_iff_ne.2 hp
    have HC := Lib.hid (fun w' => rform_any w' ((e + 1) * O - A) k M q (by omega) h4 (by rw [e3, Int.emod_eq_of_lt hrr.2.2.1 (by omega)]; exact h))
    clear h1 e1 e2 e3 p1 p2 hO hM hb hb2 hrr h hp hle hrg
    go_wp2_with fail
    refine (HP.out _).mono ?_
    rintro _ w1 ⟨rfl, x1⟩
    go_wp2_with (go_at_call 17; refine (HC.out _).mono ?_; rintro _ w4 ⟨rfl, x4⟩; have Z1 : Z3 w4 (w.heap.size + 1) := Z3.at (x1.trans x4) (by simp); have g0 := Z1.c0; have g1 := Z1.c1; have g2 := Z1.c2; have f0 := Z1.f 0; have f1 := Z1.f 1; have f2 := Z1.f 2)
    obtain ⟨k0, k1, k2, hD⟩ := Z1.done (((((Ext.refl w).alloc _).alloc _).trans x1).trans x4) (by omega)
    exact bodyPost_ret (by simp [results, Tryd.results15, go_sem, k0, k1, k2]) rfl ⟨rfl, hD⟩
end Go.Proofs.YtncopdgonbgaaaaDoor
