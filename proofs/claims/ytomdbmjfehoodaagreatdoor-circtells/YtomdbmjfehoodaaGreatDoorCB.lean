/- Walks of package circ: the closure of cosine. -/
import Derived.Test.YtomdbmjfehoodaaGreatDoorCA
import Derived.Test.YtomdbmjfehoodaaGreatDoorVs
import Derived.Test.YtomdbmjfehoodaaGreatDoorRF
import Derived.Deep.Cut
set_option maxRecDepth 8000
namespace Go.Proofs.YtomdbmjfehoodaaGreatDoor
open Go.RowKit
set_option linter.unusedVariables false
set_option maxRecDepth 8000 in
set_option maxHeartbeats 2000000 in
theorem csize_any (w : World) (gc go gb : Nat) (lo hi : Dyadic) (k P : Nat) (bc : Bool) (Ac : Option Addr) (nc cc : Nat) (ec : Int) (bc' : Bool) (Ac' : Option Addr) (nc' cc' : Nat) (ec' : Int) (bo : Bool) (Ao : Option Addr) (no co : Nat) (eo : Int) (bo' : Bool) (Ao' : Option Addr) (no' co' : Nat) (eo' : Int)
    (Bc : Bx w gc (.bool bc) (.slice Ac nc cc) (.int .i64 ec) (.bool bc') (.slice Ac' nc' cc') (.int .i64 ec')) (Bo : Bx w go (.bool bo) (.slice Ao no co) (.int .i64 eo) (.bool bo') (.slice Ao' no' co') (.int .i64 eo')) (hb : w.cell? ⟨gb, 0, none⟩ = some (.int .i64 (k : Int)))
    (ic : In w (.agg #[.bool bc, .slice Ac nc cc, .int .i64 ec, .bool bc', .slice Ac' nc' cc', .int .i64 ec']) lo hi) (io : In w (.agg #[.bool bo, .slice Ao no co, .int .i64 eo, .bool bo', .slice Ao' no' co', .int .i64 eo']) 1 1) (r1 : Rg P 1 lo) (r2 : Rg P 1 hi) (s1 : Rg (P + 1) 1 ((lo + 1) * dy 1 (-1))) (s2 : Rg (P + 1) 1 ((hi + 1) * dy 1 (-1))) (h0 : 0 ≤ (lo + 1) * dy 1 (-1)) (h1 : 0 ≤ (hi + 1) * dy 1 (-1)) (hP : P ≤ 1900) (hk : 1 ≤ k) (hk2 : k ≤ 1000) (T : Tb w) :
    Calls Tryz.prog 70 #[.pointer (some ⟨gc, 0, none⟩), .pointer (some ⟨go, 0, none⟩), .pointer (some ⟨gb, 0, none⟩)] w (RetI w (rlo k ((lo + 1) * dy 1 (-1))) (rhi k ((hi + 1) * dy 1 (-1)))) := by
  have ro := rg_one P
  have a1 : Rg P 2 (lo + 1) := r1.add ro
  have a2 : Rg P 2 (hi + 1) := r2.add ro
  go_enter Tryz.func70, Tryz.ntmps70
  go_upto_region 1 with fail
  generalize hW0 : (w.alloc (.cells #[.bool false, .slice none 0 0, .int .i64 0, .bool false, .slice none 0 0, .int .i64 0] 33)) = W0
  have E0 : Ext w W0 := by rw [← hW0]; exact (Ext.refl w).alloc _
  have Z0 : Zi W0 w.heap.size := by rw [← hW0]; exact Zi.new _ _
  replace Bc := Bc.ext E0
  replace Bo := Bo.ext E0
  replace hb := cellx hb E0
  replace ic := ic.ext E0
  replace io := io.ext E0
  replace T := T.ext E0
  clear hW0
  go_cut [3, 4] from 1 (fun p3 px wx => p3 = .pointer (some ⟨w.heap.size, 0, none⟩) ∧ ∃ (gx : Nat) (x y z x' y' z' : Value), px = .pointer (some ⟨gx, 0, none⟩) ∧ Bx wx gx x y z x' y' z' ∧ In wx (.agg #[x, y, z, x', y', z']) (rlo k ((lo + 1) * dy 1 (-1))) (rhi k ((hi + 1) * dy 1 (-1))) ∧ Ext W0 wx)
  case first =>
    refine wp_region_held_drew (S := (fun w' => (w'.cell? ⟨gc, 0, none⟩ = some (.bool bc) ∧ w'.cell? ⟨gc, 1, none⟩ = some (.slice Ac nc cc) ∧ w'.cell? ⟨gc, 2, none⟩ = some (.int .i64 ec) ∧ w'.cell? ⟨gc, 3, none⟩ = some (.bool bc') ∧ w'.cell? ⟨gc, 4, none⟩ = some (.slice Ac' nc' cc') ∧ w'.cell? ⟨gc, 5, none⟩ = some (.int .i64 ec')) ∧ (w'.cell? ⟨go, 0, none⟩ = some (.bool bo) ∧ w'.cell? ⟨go, 1, none⟩ = some (.slice Ao no co) ∧ w'.cell? ⟨go, 2, none⟩ = some (.int .i64 eo) ∧ w'.cell? ⟨go, 3, none⟩ = some (.bool bo') ∧ w'.cell? ⟨go, 4, none⟩ = some (.slice Ao' no' co') ∧ w'.cell? ⟨go, 5, none⟩ = some (.int .i64 eo')) ∧ (w'.cell? ⟨gb, 0, none⟩ = some (.int .i64 (k : Int))))) (by as_aux_lemma => kernel_rfl) ⟨bx6 (Bc.ext (Ext.refl W0).drew), bx6 (Bo.ext (Ext.refl W0).drew), (cellx hb (Ext.refl W0).drew)⟩ (fun hHeld => ?_)
    have F0 : Ext W0 (World.drew W0) := (Ext.refl _).drew
    generalize hgen : World.drew W0 = V0 at *
    clear hgen
    refine wpAnyH_take (i := 0) (v := ?_) rfl (by as_aux_lemma => kernel_rfl) (by as_aux_lemma => kernel_rfl) (by as_aux_lemma => kernel_rfl) (fun _ _ _ h => h) (Or.inl ⟨by rfl, ?_⟩) (by assumption) ?_
    rotate_left
    · (intro w hSw; (try dsimp only at hSw); go_simp); (try with_reducible rfl)
    simp only [List.getElem_toArray, List.getElem_cons_zero, Act.put, List.setIfInBounds_toArray, List.set_cons_zero, List.set_cons_succ]
    refine wpAnyH_take (i := 1) (v := ?_) rfl (by as_aux_lemma => kernel_rfl) (by as_aux_lemma => kernel_rfl) (by as_aux_lemma => kernel_rfl) (fun _ _ _ h => h) (Or.inl ⟨by rfl, ?_⟩) (by assumption) ?_
    rotate_left
    · (intro w hSw; (try dsimp only at hSw); go_simp); (try with_reducible rfl)
    simp only [List.getElem_toArray, List.getElem_cons_zero, List.getElem_cons_succ, Act.put, List.setIfInBounds_toArray, List.set_cons_zero, List.set_cons_succ]
    refine wpAnyH_take (i := 4) (v := ?_) rfl (by as_aux_lemma => kernel_rfl) (by as_aux_lemma => kernel_rfl) (by as_aux_lemma => kernel_rfl) (fun _ _ _ h => h) (Or.inl ⟨by rfl, ?_⟩) (by assumption) ?_
    rotate_left
    · (intro w hSw; (try dsimp only at hSw); go_simp); (try with_reducible rfl)
    simp only [List.getElem_toArray, List.getElem_cons_zero, List.getElem_cons_succ, Act.put, List.setIfInBounds_toArray, List.set_cons_zero, List.set_cons_succ]
    refine wpAnyH_ready (rs := [2, 9]) (by as_aux_lemma => kernel_rfl) (by simp) ?_
    refine AllReadyH.cons rfl (fun K hK => ?_) (AllReadyH.cons rfl (fun K hK => ?_) AllReadyH.nil)
    · go_simp
      refine (iadd_any _ _ _ lo hi 1 1 P 1 (ic.ext F0) (io.ext F0) r1 r2 ro ro (by omega) (T.ext F0)).mono ?_
      rintro _ V1 ⟨vm1, rfl, m1, em1⟩
      have F1 : Ext W0 V1 := F0.trans em1
      refine hK.out _ _ ⟨bx6 (Bc.ext F1), bx6 (Bo.ext F1), (cellx hb F1)⟩ (fun hHeld => ?_)
      clear hK K em1
      refine wpAnyH_ready (rs := [3, 9]) (by as_aux_lemma => kernel_rfl) (by simp) ?_
      refine AllReadyH.cons rfl (fun K hK => ?_) (AllReadyH.cons rfl (fun K hK => ?_) AllReadyH.nil)
      · go_simp
        refine (ishift_any _ _ (lo + 1) (hi + 1) (-1) P 2 m1 a1 a2 (by omega) (by omega) (T.ext F1)).mono ?_
        rintro _ V2 ⟨vm2, rfl, m2, em2⟩
        have F2 : Ext W0 V2 := F1.trans em2
        replace m1 := m1.ext em2
        refine hK.out _ _ ⟨bx6 (Bc.ext F2), bx6 (Bo.ext F2), (cellx hb F2)⟩ (fun hHeld => ?_)
        clear hK K em2 F1
        refine wpAnyH_ready (rs := [5, 9]) (by as_aux_lemma => kernel_rfl) (by simp) ?_
        refine AllReadyH.cons rfl (fun K hK => ?_) (AllReadyH.cons rfl (fun K hK => ?_) AllReadyH.nil)
        · go_simp
          refine (iroot_yes _ _ _ _ _ k (P + 1) 1 rfl m2 h0 h1 s1 s2 (by omega) hk hk2 (T.ext F2)).mono ?_
          rintro _ V3 ⟨vm3, rfl, m3, em3⟩
          have F3 : Ext W0 V3 := F2.trans em3
          replace m1 := m1.ext em3
          replace m2 := m2.ext em3
          obtain ⟨bm3, Am3, lm3, cm3, jm3, bm3', Am3', lm3', cm3', jm3', rfl⟩ := m3.form
          refine hK.out _ _ ⟨bx6 (Bc.ext F3), bx6 (Bo.ext F3), (cellx hb F3)⟩ (fun hHeld => ?_)
          clear hK K em3 F2
          refine wpAnyH_take (i := 6) (v := ?_) rfl (by as_aux_lemma => kernel_rfl) (by as_aux_lemma => kernel_rfl) (by as_aux_lemma => kernel_rfl) (fun _ _ _ h => h) (Or.inl ⟨by rfl, ?_⟩) (by assumption) ?_
          rotate_left
          · (intro w hSw; (try dsimp only at hSw); go_simp); (try with_reducible rfl)
          simp only [List.getElem_toArray, List.getElem_cons_zero, List.getElem_cons_succ, Act.put, List.setIfInBounds_toArray, List.set_cons_zero, List.set_cons_succ]
          refine wpAnyH_take (i := 7) (v := ?_) rfl (by as_aux_lemma => kernel_rfl) (by as_aux_lemma => kernel_rfl) (by as_aux_lemma => kernel_rfl) (fun _ _ _ h => h) (Or.inl ⟨by rfl, ?_⟩) (by assumption) ?_
          rotate_left
          · (intro w hSw; (try dsimp only at hSw); go_simp); (try with_reducible rfl)
          simp only [List.getElem_toArray, List.getElem_cons_zero, List.getElem_cons_succ, Act.put, List.setIfInBounds_toArray, List.set_cons_zero, List.set_cons_succ]
          refine wpAnyH_take (i := 8) (v := ?_) rfl (by as_aux_lemma => kernel_rfl) (by as_aux_lemma => kernel_rfl) (by as_aux_lemma => kernel_rfl) (fun _ _ _ h => h) (Or.inl ⟨by rfl, ?_⟩) (by assumption) ?_
          rotate_left
          · (intro w hSw; (try dsimp only at hSw); go_simp); (try with_reducible rfl)
          simp only [List.getElem_toArray, List.getElem_cons_zero, List.getElem_cons_succ, Act.put, List.setIfInBounds_toArray, List.set_cons_zero, List.set_cons_succ]
          refine wpAnyH_ready (rs := [9]) (by as_aux_lemma => kernel_rfl) (by simp) ?_
          refine AllReadyH.cons rfl (fun K hK => ?_) AllReadyH.nil
          go_simp
          have eX : Ext V3 (V3.alloc (.cells #[.bool false, .slice none 0 0, .int .i64 0, .bool false, .slice none 0 0, .int .i64 0] 33)) := (Ext.refl _).alloc _
          have F4 : Ext W0 (V3.alloc (.cells #[.bool false, .slice none 0 0, .int .i64 0, .bool false, .slice none 0 0, .int .i64 0] 33)) := F3.trans eX
          refine hK.out _ _ ⟨bx6 (Bc.ext F4), bx6 (Bo.ext F4), (cellx hb F4)⟩ (fun hHeld => ?_)
          clear hK K
          replace m1 := m1.ext eX
          replace m2 := m2.ext eX
          replace m3 := m3.ext eX
          have X : Zi (V3.alloc (.cells #[.bool false, .slice none 0 0, .int .i64 0, .bool false, .slice none 0 0, .int .i64 0] 33)) V3.heap.size := Zi.new _ _
          have lX : W0.heap.size ≤ V3.heap.size := F3.size
          clear eX F3
          generalize hgen : V3.alloc (.cells #[.bool false, .slice none 0 0, .int .i64 0, .bool false, .slice none 0 0, .int .i64 0] 33) = V4 at *
          clear hgen
          generalize hgen : V3.heap.size = gX at *
          clear hgen
          refine wpAnyH_ready (rs := [10]) (by as_aux_lemma => kernel_rfl) (by simp) ?_
          refine AllReadyH.cons rfl (fun K hK => ?_) AllReadyH.nil
          have q0 := X.c0; have q1 := X.c1; have q2 := X.c2; have q3 := X.c3; have q4 := X.c4; have q5 := X.c5; have h0 := X.f 0; have h1 := X.f 1; have h2 := X.f 2; have h3 := X.f 3; have h4 := X.f 4; have h5 := X.f 5
          go_simp
          have F5 : Ext W0 (set6 V4 gX (.bool bm3) (.slice Am3 lm3 cm3) (.int .i64 jm3) (.bool bm3') (.slice Am3' lm3' cm3') (.int .i64 jm3')) := F4.set6 lX
          refine hK.out _ _ ⟨bx6 (Bc.ext F5), bx6 (Bo.ext F5), (cellx hb F5)⟩ (fun hHeld => ?_)
          clear hK K q0 q1 q2 q3 q4 q5 h0 h1 h2 h3 h4 h5
          replace m1 := X.off m1 (.bool bm3) (.slice Am3 lm3 cm3) (.int .i64 jm3) (.bool bm3') (.slice Am3' lm3' cm3') (.int .i64 jm3')
          replace m2 := X.off m2 (.bool bm3) (.slice Am3 lm3 cm3) (.int .i64 jm3) (.bool bm3') (.slice Am3' lm3' cm3') (.int .i64 jm3')
          replace m3 := X.off m3 (.bool bm3) (.slice Am3 lm3 cm3) (.int .i64 jm3) (.bool bm3') (.slice Am3' lm3' cm3') (.int .i64 jm3')
          have BX := X.put (.bool bm3) (.slice Am3 lm3 cm3) (.int .i64 jm3) (.bool bm3') (.slice Am3' lm3' cm3') (.int .i64 jm3')
          clear X
          obtain ⟨V5, hgen⟩ : ∃ V, (set6 V4 gX (.bool bm3) (.slice Am3 lm3 cm3) (.int .i64 jm3) (.bool bm3') (.slice Am3' lm3' cm3') (.int .i64 jm3')) = V := ⟨_, rfl⟩
          rw [hgen] at F5 m1 m2 m3 BX
          have hgen2 : ((((((V4.setCell ⟨gX, 0, none⟩ (.bool bm3)).setCell ⟨gX, 1, none⟩ (.slice Am3 lm3 cm3)).setCell ⟨gX, 2, none⟩ (.int .i64 jm3)).setCell ⟨gX, 3, none⟩ (.bool bm3')).setCell ⟨gX, 4, none⟩ (.slice Am3' lm3' cm3')).setCell ⟨gX, 5, none⟩ (.int .i64 jm3')) = V5 := hgen
          rw [hgen2] at hHeld ⊢
          clear hgen hgen2
          refine wpAnyH_take (i := 11) (v := ?_) rfl (by as_aux_lemma => kernel_rfl) (by as_aux_lemma => kernel_rfl) (by as_aux_lemma => kernel_rfl) (fun _ _ _ h => h) (Or.inl ⟨by rfl, ?_⟩) (by assumption) ?_
          rotate_left
          · (intro w hSw; (try dsimp only at hSw); go_simp); (try with_reducible rfl)
          simp only [List.getElem_toArray, List.getElem_cons_zero, List.getElem_cons_succ, Act.put, List.setIfInBounds_toArray, List.set_cons_zero, List.set_cons_succ]
          refine wpAnyH_done (by as_aux_lemma => kernel_rfl) ?_ _
          go_wp2_with fail
          go_meet
          case rel => exact ⟨rfl, _, _, _, _, _, _, _, rfl, BX, m3, F5⟩
        · go_simp
          have eX : Ext V2 (V2.alloc (.cells #[.bool false, .slice none 0 0, .int .i64 0, .bool false, .slice none 0 0, .int .i64 0] 33)) := (Ext.refl _).alloc _
          have F3 : Ext W0 (V2.alloc (.cells #[.bool false, .slice none 0 0, .int .i64 0, .bool false, .slice none 0 0, .int .i64 0] 33)) := F2.trans eX
          refine hK.out _ _ ⟨bx6 (Bc.ext F3), bx6 (Bo.ext F3), (cellx hb F3)⟩ (fun hHeld => ?_)
          clear hK K
          replace m1 := m1.ext eX
          replace m2 := m2.ext eX
          have X : Zi (V2.alloc (.cells #[.bool false, .slice none 0 0, .int .i64 0, .bool false, .slice none 0 0, .int .i64 0] 33)) V2.heap.size := Zi.new _ _
          have lX : W0.heap.size ≤ V2.heap.size := F2.size
          clear eX F2
          generalize hgen : V2.alloc (.cells #[.bool false, .slice none 0 0, .int .i64 0, .bool false, .slice none 0 0, .int .i64 0] 33) = V3 at *
          clear hgen
          generalize hgen : V2.heap.size = gX at *
          clear hgen
          refine wpAnyH_ready (rs := [5]) (by as_aux_lemma => kernel_rfl) (by simp) ?_
          refine AllReadyH.cons rfl (fun K hK => ?_) AllReadyH.nil
          go_simp
          refine (iroot_yes _ _ _ _ _ k (P + 1) 1 rfl m2 h0 h1 s1 s2 (by omega) hk hk2 (T.ext F3)).mono ?_
          rintro _ V4 ⟨vm3, rfl, m3, em3⟩
          have F4 : Ext W0 V4 := F3.trans em3
          replace m1 := m1.ext em3
          replace m2 := m2.ext em3
          replace X := X.ext em3
          obtain ⟨bm3, Am3, lm3, cm3, jm3, bm3', Am3', lm3', cm3', jm3', rfl⟩ := m3.form
          refine hK.out _ _ ⟨bx6 (Bc.ext F4), bx6 (Bo.ext F4), (cellx hb F4)⟩ (fun hHeld => ?_)
          clear hK K em3 F3
          refine wpAnyH_take (i := 6) (v := ?_) rfl (by as_aux_lemma => kernel_rfl) (by as_aux_lemma => kernel_rfl) (by as_aux_lemma => kernel_rfl) (fun _ _ _ h => h) (Or.inl ⟨by rfl, ?_⟩) (by assumption) ?_
          rotate_left
          · (intro w hSw; (try dsimp only at hSw); go_simp); (try with_reducible rfl)
          simp only [List.getElem_toArray, List.getElem_cons_zero, List.getElem_cons_succ, Act.put, List.setIfInBounds_toArray, List.set_cons_zero, List.set_cons_succ]
          refine wpAnyH_take (i := 7) (v := ?_) rfl (by as_aux_lemma => kernel_rfl) (by as_aux_lemma => kernel_rfl) (by as_aux_lemma => kernel_rfl) (fun _ _ _ h => h) (Or.inl ⟨by rfl, ?_⟩) (by assumption) ?_
          rotate_left
          · (intro w hSw; (try dsimp only at hSw); go_simp); (try with_reducible rfl)
          simp only [List.getElem_toArray, List.getElem_cons_zero, List.getElem_cons_succ, Act.put, List.setIfInBounds_toArray, List.set_cons_zero, List.set_cons_succ]
          refine wpAnyH_take (i := 8) (v := ?_) rfl (by as_aux_lemma => kernel_rfl) (by as_aux_lemma => kernel_rfl) (by as_aux_lemma => kernel_rfl) (fun _ _ _ h => h) (Or.inl ⟨by rfl, ?_⟩) (by assumption) ?_
          rotate_left
          · (intro w hSw; (try dsimp only at hSw); go_simp); (try with_reducible rfl)
          simp only [List.getElem_toArray, List.getElem_cons_zero, List.getElem_cons_succ, Act.put, List.setIfInBounds_toArray, List.set_cons_zero, List.set_cons_succ]
          refine wpAnyH_ready (rs := [10]) (by as_aux_lemma => kernel_rfl) (by simp) ?_
          refine AllReadyH.cons rfl (fun K hK => ?_) AllReadyH.nil
          have q0 := X.c0; have q1 := X.c1; have q2 := X.c2; have q3 := X.c3; have q4 := X.c4; have q5 := X.c5; have h0 := X.f 0; have h1 := X.f 1; have h2 := X.f 2; have h3 := X.f 3; have h4 := X.f 4; have h5 := X.f 5
          go_simp
          have F5 : Ext W0 (set6 V4 gX (.bool bm3) (.slice Am3 lm3 cm3) (.int .i64 jm3) (.bool bm3') (.slice Am3' lm3' cm3') (.int .i64 jm3')) := F4.set6 lX
          refine hK.out _ _ ⟨bx6 (Bc.ext F5), bx6 (Bo.ext F5), (cellx hb F5)⟩ (fun hHeld => ?_)
          clear hK K q0 q1 q2 q3 q4 q5 h0 h1 h2 h3 h4 h5
          replace m1 := X.off m1 (.bool bm3) (.slice Am3 lm3 cm3) (.int .i64 jm3) (.bool bm3') (.slice Am3' lm3' cm3') (.int .i64 jm3')
          replace m2 := X.off m2 (.bool bm3) (.slice Am3 lm3 cm3) (.int .i64 jm3) (.bool bm3') (.slice Am3' lm3' cm3') (.int .i64 jm3')
          replace m3 := X.off m3 (.bool bm3) (.slice Am3 lm3 cm3) (.int .i64 jm3) (.bool bm3') (.slice Am3' lm3' cm3') (.int .i64 jm3')
          have BX := X.put (.bool bm3) (.slice Am3 lm3 cm3) (.int .i64 jm3) (.bool bm3') (.slice Am3' lm3' cm3') (.int .i64 jm3')
          clear X
          obtain ⟨V5, hgen⟩ : ∃ V, (set6 V4 gX (.bool bm3) (.slice Am3 lm3 cm3) (.int .i64 jm3) (.bool bm3') (.slice Am3' lm3' cm3') (.int .i64 jm3')) = V := ⟨_, rfl⟩
          rw [hgen] at F5 m1 m2 m3 BX
          have hgen2 : ((((((V4.setCell ⟨gX, 0, none⟩ (.bool bm3)).setCell ⟨gX, 1, none⟩ (.slice Am3 lm3 cm3)).setCell ⟨gX, 2, none⟩ (.int .i64 jm3)).setCell ⟨gX, 3, none⟩ (.bool bm3')).setCell ⟨gX, 4, none⟩ (.slice Am3' lm3' cm3')).setCell ⟨gX, 5, none⟩ (.int .i64 jm3')) = V5 := hgen
          rw [hgen2] at hHeld ⊢
          clear hgen hgen2
          refine wpAnyH_take (i := 11) (v := ?_) rfl (by as_aux_lemma => kernel_rfl) (by as_aux_lemma => kernel_rfl) (by as_aux_lemma => kernel_rfl) (fun _ _ _ h => h) (Or.inl ⟨by rfl, ?_⟩) (by assumption) ?_
          rotate_left
          · (intro w hSw; (try dsimp only at hSw); go_simp); (try with_reducible rfl)
          simp only [List.getElem_toArray, List.getElem_cons_zero, List.getElem_cons_succ, Act.put, List.setIfInBounds_toArray, List.set_cons_zero, List.set_cons_succ]
          refine wpAnyH_done (by as_aux_lemma => kernel_rfl) ?_ _
          go_wp2_with fail
          go_meet
          case rel => exact ⟨rfl, _, _, _, _, _, _, _, rfl, BX, m3, F5⟩
      · go_simp
        have eX : Ext V1 (V1.alloc (.cells #[.bool false, .slice none 0 0, .int .i64 0, .bool false, .slice none 0 0, .int .i64 0] 33)) := (Ext.refl _).alloc _
        have F2 : Ext W0 (V1.alloc (.cells #[.bool false, .slice none 0 0, .int .i64 0, .bool false, .slice none 0 0, .int .i64 0] 33)) := F1.trans eX
        refine hK.out _ _ ⟨bx6 (Bc.ext F2), bx6 (Bo.ext F2), (cellx hb F2)⟩ (fun hHeld => ?_)
        clear hK K
        replace m1 := m1.ext eX
        have X : Zi (V1.alloc (.cells #[.bool false, .slice none 0 0, .int .i64 0, .bool false, .slice none 0 0, .int .i64 0] 33)) V1.heap.size := Zi.new _ _
        have lX : W0.heap.size ≤ V1.heap.size := F1.size
        clear eX F1
        generalize hgen : V1.alloc (.cells #[.bool false, .slice none 0 0, .int .i64 0, .bool false, .slice none 0 0, .int .i64 0] 33) = V2 at *
        clear hgen
        generalize hgen : V1.heap.size = gX at *
        clear hgen
        refine wpAnyH_ready (rs := [3]) (by as_aux_lemma => kernel_rfl) (by simp) ?_
        refine AllReadyH.cons rfl (fun K hK => ?_) AllReadyH.nil
        go_simp
        refine (ishift_any _ _ (lo + 1) (hi + 1) (-1) P 2 m1 a1 a2 (by omega) (by omega) (T.ext F2)).mono ?_
        rintro _ V3 ⟨vm2, rfl, m2, em2⟩
        have F3 : Ext W0 V3 := F2.trans em2
        replace m1 := m1.ext em2
        replace X := X.ext em2
        refine hK.out _ _ ⟨bx6 (Bc.ext F3), bx6 (Bo.ext F3), (cellx hb F3)⟩ (fun hHeld => ?_)
        clear hK K em2 F2
        refine wpAnyH_ready (rs := [5]) (by as_aux_lemma => kernel_rfl) (by simp) ?_
        refine AllReadyH.cons rfl (fun K hK => ?_) AllReadyH.nil
        go_simp
        refine (iroot_yes _ _ _ _ _ k (P + 1) 1 rfl m2 h0 h1 s1 s2 (by omega) hk hk2 (T.ext F3)).mono ?_
        rintro _ V4 ⟨vm3, rfl, m3, em3⟩
        have F4 : Ext W0 V4 := F3.trans em3
        replace m1 := m1.ext em3
        replace m2 := m2.ext em3
        replace X := X.ext em3
        obtain ⟨bm3, Am3, lm3, cm3, jm3, bm3', Am3', lm3', cm3', jm3', rfl⟩ := m3.form
        refine hK.out _ _ ⟨bx6 (Bc.ext F4), bx6 (Bo.ext F4), (cellx hb F4)⟩ (fun hHeld => ?_)
        clear hK K em3 F3
        refine wpAnyH_take (i := 6) (v := ?_) rfl (by as_aux_lemma => kernel_rfl) (by as_aux_lemma => kernel_rfl) (by as_aux_lemma => kernel_rfl) (fun _ _ _ h => h) (Or.inl ⟨by rfl, ?_⟩) (by assumption) ?_
        rotate_left
        · (intro w hSw; (try dsimp only at hSw); go_simp); (try with_reducible rfl)
        simp only [List.getElem_toArray, List.getElem_cons_zero, List.getElem_cons_succ, Act.put, List.setIfInBounds_toArray, List.set_cons_zero, List.set_cons_succ]
        refine wpAnyH_take (i := 7) (v := ?_) rfl (by as_aux_lemma => kernel_rfl) (by as_aux_lemma => kernel_rfl) (by as_aux_lemma => kernel_rfl) (fun _ _ _ h => h) (Or.inl ⟨by rfl, ?_⟩) (by assumption) ?_
        rotate_left
        · (intro w hSw; (try dsimp only at hSw); go_simp); (try with_reducible rfl)
        simp only [List.getElem_toArray, List.getElem_cons_zero, List.getElem_cons_succ, Act.put, List.setIfInBounds_toArray, List.set_cons_zero, List.set_cons_succ]
        refine wpAnyH_take (i := 8) (v := ?_) rfl (by as_aux_lemma => kernel_rfl) (by as_aux_lemma => kernel_rfl) (by as_aux_lemma => kernel_rfl) (fun _ _ _ h => h) (Or.inl ⟨by rfl, ?_⟩) (by assumption) ?_
        rotate_left
        · (intro w hSw; (try dsimp only at hSw); go_simp); (try with_reducible rfl)
        simp only [List.getElem_toArray, List.getElem_cons_zero, List.getElem_cons_succ, Act.put, List.setIfInBounds_toArray, List.set_cons_zero, List.set_cons_succ]
        refine wpAnyH_ready (rs := [10]) (by as_aux_lemma => kernel_rfl) (by simp) ?_
        refine AllReadyH.cons rfl (fun K hK => ?_) AllReadyH.nil
        have q0 := X.c0; have q1 := X.c1; have q2 := X.c2; have q3 := X.c3; have q4 := X.c4; have q5 := X.c5; have h0 := X.f 0; have h1 := X.f 1; have h2 := X.f 2; have h3 := X.f 3; have h4 := X.f 4; have h5 := X.f 5
        go_simp
        have F5 : Ext W0 (set6 V4 gX (.bool bm3) (.slice Am3 lm3 cm3) (.int .i64 jm3) (.bool bm3') (.slice Am3' lm3' cm3') (.int .i64 jm3')) := F4.set6 lX
        refine hK.out _ _ ⟨bx6 (Bc.ext F5), bx6 (Bo.ext F5), (cellx hb F5)⟩ (fun hHeld => ?_)
        clear hK K q0 q1 q2 q3 q4 q5 h0 h1 h2 h3 h4 h5
        replace m1 := X.off m1 (.bool bm3) (.slice Am3 lm3 cm3) (.int .i64 jm3) (.bool bm3') (.slice Am3' lm3' cm3') (.int .i64 jm3')
        replace m2 := X.off m2 (.bool bm3) (.slice Am3 lm3 cm3) (.int .i64 jm3) (.bool bm3') (.slice Am3' lm3' cm3') (.int .i64 jm3')
        replace m3 := X.off m3 (.bool bm3) (.slice Am3 lm3 cm3) (.int .i64 jm3) (.bool bm3') (.slice Am3' lm3' cm3') (.int .i64 jm3')
        have BX := X.put (.bool bm3) (.slice Am3 lm3 cm3) (.int .i64 jm3) (.bool bm3') (.slice Am3' lm3' cm3') (.int .i64 jm3')
        clear X
        obtain ⟨V5, hgen⟩ : ∃ V, (set6 V4 gX (.bool bm3) (.slice Am3 lm3 cm3) (.int .i64 jm3) (.bool bm3') (.slice Am3' lm3' cm3') (.int .i64 jm3')) = V := ⟨_, rfl⟩
        rw [hgen] at F5 m1 m2 m3 BX
        have hgen2 : ((((((V4.setCell ⟨gX, 0, none⟩ (.bool bm3)).setCell ⟨gX, 1, none⟩ (.slice Am3 lm3 cm3)).setCell ⟨gX, 2, none⟩ (.int .i64 jm3)).setCell ⟨gX, 3, none⟩ (.bool bm3')).setCell ⟨gX, 4, none⟩ (.slice Am3' lm3' cm3')).setCell ⟨gX, 5, none⟩ (.int .i64 jm3')) = V5 := hgen
        rw [hgen2] at hHeld ⊢
        clear hgen hgen2
        refine wpAnyH_take (i := 11) (v := ?_) rfl (by as_aux_lemma => kernel_rfl) (by as_aux_lemma => kernel_rfl) (by as_aux_lemma => kernel_rfl) (fun _ _ _ h => h) (Or.inl ⟨by rfl, ?_⟩) (by assumption) ?_
        rotate_left
        · (intro w hSw; (try dsimp only at hSw); go_simp); (try with_reducible rfl)
        simp only [List.getElem_toArray, List.getElem_cons_zero, List.getElem_cons_succ, Act.put, List.setIfInBounds_toArray, List.set_cons_zero, List.set_cons_succ]
        refine wpAnyH_done (by as_aux_lemma => kernel_rfl) ?_ _
        go_wp2_with fail
        go_meet
        case rel => exact ⟨rfl, _, _, _, _, _, _, _, rfl, BX, m3, F5⟩
    · go_simp
      have eX : Ext V0 (V0.alloc (.cells #[.bool false, .slice none 0 0, .int .i64 0, .bool false, .slice none 0 0, .int .i64 0] 33)) := (Ext.refl _).alloc _
      have F1 : Ext W0 (V0.alloc (.cells #[.bool false, .slice none 0 0, .int .i64 0, .bool false, .slice none 0 0, .int .i64 0] 33)) := F0.trans eX
      refine hK.out _ _ ⟨bx6 (Bc.ext F1), bx6 (Bo.ext F1), (cellx hb F1)⟩ (fun hHeld => ?_)
      clear hK K
      have X : Zi (V0.alloc (.cells #[.bool false, .slice none 0 0, .int .i64 0, .bool false, .slice none 0 0, .int .i64 0] 33)) V0.heap.size := Zi.new _ _
      have lX : W0.heap.size ≤ V0.heap.size := F0.size
      clear eX
      generalize hgen : V0.alloc (.cells #[.bool false, .slice none 0 0, .int .i64 0, .bool false, .slice none 0 0, .int .i64 0] 33) = V1 at *
      clear hgen
      generalize hgen : V0.heap.size = gX at *
      clear hgen
      refine wpAnyH_ready (rs := [2]) (by as_aux_lemma => kernel_rfl) (by simp) ?_
      refine AllReadyH.cons rfl (fun K hK => ?_) AllReadyH.nil
      go_simp
      refine (iadd_any _ _ _ lo hi 1 1 P 1 (ic.ext F1) (io.ext F1) r1 r2 ro ro (by omega) (T.ext F1)).mono ?_
      rintro _ V2 ⟨vm1, rfl, m1, em1⟩
      have F2 : Ext W0 V2 := F1.trans em1
      replace X := X.ext em1
      refine hK.out _ _ ⟨bx6 (Bc.ext F2), bx6 (Bo.ext F2), (cellx hb F2)⟩ (fun hHeld => ?_)
      clear hK K em1 F1
      refine wpAnyH_ready (rs := [3]) (by as_aux_lemma => kernel_rfl) (by simp) ?_
      refine AllReadyH.cons rfl (fun K hK => ?_) AllReadyH.nil
      go_simp
      refine (ishift_any _ _ (lo + 1) (hi + 1) (-1) P 2 m1 a1 a2 (by omega) (by omega) (T.ext F2)).mono ?_
      rintro _ V3 ⟨vm2, rfl, m2, em2⟩
      have F3 : Ext W0 V3 := F2.trans em2
      replace m1 := m1.ext em2
      replace X := X.ext em2
      refine hK.out _ _ ⟨bx6 (Bc.ext F3), bx6 (Bo.ext F3), (cellx hb F3)⟩ (fun hHeld => ?_)
      clear hK K em2 F2
      refine wpAnyH_ready (rs := [5]) (by as_aux_lemma => kernel_rfl) (by simp) ?_
      refine AllReadyH.cons rfl (fun K hK => ?_) AllReadyH.nil
      go_simp
      refine (iroot_yes _ _ _ _ _ k (P + 1) 1 rfl m2 h0 h1 s1 s2 (by omega) hk hk2 (T.ext F3)).mono ?_
      rintro _ V4 ⟨vm3, rfl, m3, em3⟩
      have F4 : Ext W0 V4 := F3.trans em3
      replace m1 := m1.ext em3
      replace m2 := m2.ext em3
      replace X := X.ext em3
      obtain ⟨bm3, Am3, lm3, cm3, jm3, bm3', Am3', lm3', cm3', jm3', rfl⟩ := m3.form
      refine hK.out _ _ ⟨bx6 (Bc.ext F4), bx6 (Bo.ext F4), (cellx hb F4)⟩ (fun hHeld => ?_)
      clear hK K em3 F3
      refine wpAnyH_take (i := 6) (v := ?_) rfl (by as_aux_lemma => kernel_rfl) (by as_aux_lemma => kernel_rfl) (by as_aux_lemma => kernel_rfl) (fun _ _ _ h => h) (Or.inl ⟨by rfl, ?_⟩) (by assumption) ?_
      rotate_left
      · (intro w hSw; (try dsimp only at hSw); go_simp); (try with_reducible rfl)
      simp only [List.getElem_toArray, List.getElem_cons_zero, List.getElem_cons_succ, Act.put, List.setIfInBounds_toArray, List.set_cons_zero, List.set_cons_succ]
      refine wpAnyH_take (i := 7) (v := ?_) rfl (by as_aux_lemma => kernel_rfl) (by as_aux_lemma => kernel_rfl) (by as_aux_lemma => kernel_rfl) (fun _ _ _ h => h) (Or.inl ⟨by rfl, ?_⟩) (by assumption) ?_
      rotate_left
      · (intro w hSw; (try dsimp only at hSw); go_simp); (try with_reducible rfl)
      simp only [List.getElem_toArray, List.getElem_cons_zero, List.getElem_cons_succ, Act.put, List.setIfInBounds_toArray, List.set_cons_zero, List.set_cons_succ]
      refine wpAnyH_take (i := 8) (v := ?_) rfl (by as_aux_lemma => kernel_rfl) (by as_aux_lemma => kernel_rfl) (by as_aux_lemma => kernel_rfl) (fun _ _ _ h => h) (Or.inl ⟨by rfl, ?_⟩) (by assumption) ?_
      rotate_left
      · (intro w hSw; (try dsimp only at hSw); go_simp); (try with_reducible rfl)
      simp only [List.getElem_toArray, List.getElem_cons_zero, List.getElem_cons_succ, Act.put, List.setIfInBounds_toArray, List.set_cons_zero, List.set_cons_succ]
      refine wpAnyH_ready (rs := [10]) (by as_aux_lemma => kernel_rfl) (by simp) ?_
      refine AllReadyH.cons rfl (fun K hK => ?_) AllReadyH.nil
      have q0 := X.c0; have q1 := X.c1; have q2 := X.c2; have q3 := X.c3; have q4 := X.c4; have q5 := X.c5; have h0 := X.f 0; have h1 := X.f 1; have h2 := X.f 2; have h3 := X.f 3; have h4 := X.f 4; have h5 := X.f 5
      go_simp
      have F5 : Ext W0 (set6 V4 gX (.bool bm3) (.slice Am3 lm3 cm3) (.int .i64 jm3) (.bool bm3') (.slice Am3' lm3' cm3') (.int .i64 jm3')) := F4.set6 lX
      refine hK.out _ _ ⟨bx6 (Bc.ext F5), bx6 (Bo.ext F5), (cellx hb F5)⟩ (fun hHeld => ?_)
      clear hK K q0 q1 q2 q3 q4 q5 h0 h1 h2 h3 h4 h5
      replace m1 := X.off m1 (.bool bm3) (.slice Am3 lm3 cm3) (.int .i64 jm3) (.bool bm3') (.slice Am3' lm3' cm3') (.int .i64 jm3')
      replace m2 := X.off m2 (.bool bm3) (.slice Am3 lm3 cm3) (.int .i64 jm3) (.bool bm3') (.slice Am3' lm3' cm3') (.int .i64 jm3')
      replace m3 := X.off m3 (.bool bm3) (.slice Am3 lm3 cm3) (.int .i64 jm3) (.bool bm3') (.slice Am3' lm3' cm3') (.int .i64 jm3')
      have BX := X.put (.bool bm3) (.slice Am3 lm3 cm3) (.int .i64 jm3) (.bool bm3') (.slice Am3' lm3' cm3') (.int .i64 jm3')
      clear X
      obtain ⟨V5, hgen⟩ : ∃ V, (set6 V4 gX (.bool bm3) (.slice Am3 lm3 cm3) (.int .i64 jm3) (.bool bm3') (.slice Am3' lm3' cm3') (.int .i64 jm3')) = V := ⟨_, rfl⟩
      rw [hgen] at F5 m1 m2 m3 BX
      have hgen2 : ((((((V4.setCell ⟨gX, 0, none⟩ (.bool bm3)).setCell ⟨gX, 1, none⟩ (.slice Am3 lm3 cm3)).setCell ⟨gX, 2, none⟩ (.int .i64 jm3)).setCell ⟨gX, 3, none⟩ (.bool bm3')).setCell ⟨gX, 4, none⟩ (.slice Am3' lm3' cm3')).setCell ⟨gX, 5, none⟩ (.int .i64 jm3')) = V5 := hgen
      rw [hgen2] at hHeld ⊢
      clear hgen hgen2
      refine wpAnyH_take (i := 11) (v := ?_) rfl (by as_aux_lemma => kernel_rfl) (by as_aux_lemma => kernel_rfl) (by as_aux_lemma => kernel_rfl) (fun _ _ _ h => h) (Or.inl ⟨by rfl, ?_⟩) (by assumption) ?_
      rotate_left
      · (intro w hSw; (try dsimp only at hSw); go_simp); (try with_reducible rfl)
      simp only [List.getElem_toArray, List.getElem_cons_zero, List.getElem_cons_succ, Act.put, List.setIfInBounds_toArray, List.set_cons_zero, List.set_cons_succ]
      refine wpAnyH_done (by as_aux_lemma => kernel_rfl) ?_ _
      go_wp2_with fail
      go_meet
      case rel => exact ⟨rfl, _, _, _, _, _, _, _, rfl, BX, m3, F5⟩
  case rest =>
    obtain ⟨rfl, gx, x, y, z, x', y', z', rfl, B, I, E⟩ := hcut
    obtain ⟨q0, q1, q2, q3, q4, q5⟩ := id B
    have hI := I
    obtain ⟨bi, Ai, li, ci, ji, bi', Ai', li', ci', ji', hv, I1, I2⟩ := hI
    simp only [Value.agg.injEq, Array.mk.injEq, List.cons.injEq, and_true] at hv
    obtain ⟨rfl, rfl, rfl, rfl, rfl, rfl⟩ := hv
    have Z1 := Z0.ext E
    have g0 := Z1.c0; have f0 := Z1.f 0
    have g1 := Z1.c1; have f1 := Z1.f 1
    have g2 := Z1.c2; have f2 := Z1.f 2
    have g3 := Z1.c3; have f3 := Z1.f 3
    have g4 := Z1.c4; have f4 := Z1.f 4
    have g5 := Z1.c5; have f5 := Z1.f 5
    go_wp2
    obtain ⟨k0, k1, k2, k3, k4, k5, hD⟩ := Z1.done I1 I2 (E0.trans E) (by omega)
    exact bodyPost_ret (by simp [results, Tryz.results70, go_sem, k0, k1, k2, k3, k4, k5]) rfl hD
end Go.Proofs.YtomdbmjfehoodaaGreatDoor
