/- The walk of between. -/
import Derived.Test.YtimdglgianheiaaDoorPE
namespace Go.Proofs.YtimdglgianheiaaDoor
open Go.RowKit
theorem Zd.off {w : World} {g g' : Nat} {a b c : Value} (h : Zd w g) (hg : g ≠ g') : Zd (((w.setCell ⟨g', 0, none⟩ a).setCell ⟨g', 1, none⟩ b).setCell ⟨g', 2, none⟩ c) g := by
  have o : ∀ j, (((w.setCell ⟨g', 0, none⟩ a).setCell ⟨g', 1, none⟩ b).setCell ⟨g', 2, none⟩ c).cell? ⟨g, j, none⟩ = w.cell? ⟨g, j, none⟩ := fun j => set3_other (p := ⟨g, j, none⟩) hg
  exact ⟨(o 0).trans h.c0, (o 1).trans h.c1, (o 2).trans h.c2, fun j => (o _).trans (h.c3 j), fun j => by simp only [World.frozen?_setCell]; exact h.f j⟩
theorem rshiftx_any (w : World) (v : Value) (x : Dyadic) (k : Int) (P Q : Nat) (h : Dn w v x) (r : Rg P Q x) (hb : P + Q ≤ 9600) (hk : -400000 ≤ k ∧ k ≤ 400000) : Calls Tryd.prog 19 #[v, .int .i64 k] w (RetD w (x * dy 1 k)) := by
  obtain ⟨z, e, rfl, hc⟩ := canon_of x
  obtain ⟨b1, b2, b3⟩ := r.canon hc
  rw [dy_shift]
  exact rshift_any w v z e k h hc (Lt.of_bits (Nat.le_trans (bl_of_lt b3) (by omega))) (by omega) hk
/-- The number so many parts of 256 above the lower end. -/
def btw (l h : Dyadic) (n : Int) : Dyadic := l + (h + -l) * dy n 0 * dy 1 (-8)
set_option maxRecDepth 100000 in
set_option maxHeartbeats 4000000 in
theorem between_any (w : World) (va : Value) (l h : Dyadic) (n : Int) (ha : In w va l h) (rl : Rg 200 392 l) (rh : Rg 200 392 h) (hn : 0 ≤ n ∧ n ≤ 255) :
    Calls Tryd.prog 10 #[va, .int .u8 n] w (RetD w (btw l h n)) := by
  obtain ⟨ba, Aa, na, ca, ea, ba', Aa', na', ca', ea', rfl, a1, a2⟩ := ha
  have hw : IntKind.i64.wrap n = n := IntWalk.i64_in _ (by omega)
  have q1 : Rg 200 393 (h + -l) := rh.add rl.neg
  have q2 : Rg 0 9 (dy n 0) := Rg.int (by constructor <;> omega)
  have q3 : Rg 200 402 ((h + -l) * dy n 0) := q1.mul q2
  have q4 : Rg 208 411 ((h + -l) * dy n 0 * dy 1 (-8)) := q3.mul (Rg.pow (K := 8) (by omega))
  have q5 : Rg 208 411 l := rl.mono (by omega) (by omega)
  unfold btw
  go_enter Tryd.func10, Tryd.ntmps10
  go_wp2
  generalize hW0 : ((w.alloc (.cells #[.bool ba, .slice Aa na ca, .int .i64 ea, .bool ba', .slice Aa' na' ca', .int .i64 ea'] 26)).alloc (.cells #[.bool false, .slice none 0 0, .int .i64 0] 24)) = W0
  have Ba : Bx W0 (w.heap.size) (.bool ba) (.slice Aa na ca) (.int .i64 ea) (.bool ba') (.slice Aa' na' ca') (.int .i64 ea') := by rw [← hW0]; exact Bx.at ((Ext.refl _).alloc _) rfl
  have Z0 : Zd W0 (w.heap.size + 1) := by rw [← hW0]; exact Zd.at (Ext.refl _) (by simp)
  have E0 : Ext w W0 := by rw [← hW0]; exact ((Ext.refl w).alloc _).alloc _
  have hs0 : W0.heap.size = w.heap.size + 1 + 1 := by rw [← hW0]; simp
  replace a1 := a1.ext E0
  replace a2 := a2.ext E0
  have HS0 := Lib.hid hs0
  clear hW0 hs0
  obtain ⟨Ba_0, Ba_1, Ba_2, Ba_3, Ba_4, Ba_5⟩ := id Ba
  refine wp_region_held_drew (S := (fun w' => w'.cell? ⟨w.heap.size, 0, none⟩ = some (.bool ba) ∧ w'.cell? ⟨w.heap.size, 1, none⟩ = some (.slice Aa na ca) ∧ w'.cell? ⟨w.heap.size, 2, none⟩ = some (.int .i64 ea) ∧ w'.cell? ⟨w.heap.size, 3, none⟩ = some (.bool ba') ∧ w'.cell? ⟨w.heap.size, 4, none⟩ = some (.slice Aa' na' ca') ∧ w'.cell? ⟨w.heap.size, 5, none⟩ = some (.int .i64 ea'))) (by kernel_rfl) (bx6 (Ba.ext (Ext.refl W0).drew)) (fun hHeld => ?_)
  refine wpAnyH_take (i := 0) (v := ?_) rfl (by as_aux_lemma => kernel_rfl) (by as_aux_lemma => kernel_rfl) (by as_aux_lemma => kernel_rfl) (fun _ _ _ h => h) (Or.inl ⟨by rfl, ?_⟩) (by assumption) ?_
  rotate_left
  · (intro w hSw; (try dsimp only at hSw); go_simp); (try with_reducible rfl)
  simp only [List.getElem_toArray, List.getElem_cons_zero, Act.put, List.setIfInBounds_toArray, List.set_cons_zero, List.set_cons_succ]
  refine wpAnyH_take (i := 1) (v := ?_) rfl (by as_aux_lemma => kernel_rfl) (by as_aux_lemma => kernel_rfl) (by as_aux_lemma => kernel_rfl) (fun _ _ _ h => h) (Or.inl ⟨by rfl, ?_⟩) (by assumption) ?_
  rotate_left
  · (intro w hSw; (try dsimp only at hSw); go_simp); (try with_reducible rfl)
  simp only [List.getElem_toArray, List.getElem_cons_zero, List.getElem_cons_succ, Act.put, List.setIfInBounds_toArray, List.set_cons_zero, List.set_cons_succ]
  refine wpAnyH_take (i := 2) (v := ?_) rfl (by as_aux_lemma => kernel_rfl) (by as_aux_lemma => kernel_rfl) (by as_aux_lemma => kernel_rfl) (fun _ _ _ h => h) (Or.inl ⟨by rfl, ?_⟩) (by assumption) ?_
  rotate_left
  · (intro w hSw; (try dsimp only at hSw); go_simp); (try with_reducible rfl)
  simp only [List.getElem_toArray, List.getElem_cons_zero, List.getElem_cons_succ, Act.put, List.setIfInBounds_toArray, List.set_cons_zero, List.set_cons_succ]
  refine wpAnyH_take (i := 4) (v := ?_) rfl (by as_aux_lemma => kernel_rfl) (by as_aux_lemma => kernel_rfl) (by as_aux_lemma => kernel_rfl) (fun _ _ _ h => h) (Or.inl ⟨by rfl, ?_⟩) (by assumption) ?_
  rotate_left
  · (intro w hSw; (try dsimp only at hSw); go_simp); (try with_reducible rfl)
  simp only [List.getElem_toArray, List.getElem_cons_zero, List.getElem_cons_succ, Act.put, List.setIfInBounds_toArray, List.set_cons_zero, List.set_cons_succ]
  refine wpAnyH_take (i := 5) (v := ?_) rfl (by as_aux_lemma => kernel_rfl) (by as_aux_lemma => kernel_rfl) (by as_aux_lemma => kernel_rfl) (fun _ _ _ h => h) (Or.inl ⟨by rfl, ?_⟩) (by assumption) ?_
  rotate_left
  · (intro w hSw; (try dsimp only at hSw); go_simp); (try with_reducible rfl)
  simp only [List.getElem_toArray, List.getElem_cons_zero, List.getElem_cons_succ, Act.put, List.setIfInBounds_toArray, List.set_cons_zero, List.set_cons_succ]
  refine wpAnyH_ready (rs := [3, 10]) (by as_aux_lemma => kernel_rfl) (by simp) ?_
  refine AllReadyH.cons rfl (fun K hK => ?_) (AllReadyH.cons rfl (fun K hK => ?_) AllReadyH.nil)
  · go_simp
    refine (rwide_any _ _ l h 200 392 ((In.mk a1 a2).ext (Ext.refl W0).drew) rl rh (by omega)).mono ?_
    rintro _ u1 ⟨v1, rfl, m1, e1⟩
    have F1 : Ext W0 u1 := (Ext.refl W0).drew.trans e1
    refine hK.out _ _ (bx6 (Ba.ext F1)) (fun hHeld => ?_)
    clear hK K e1
    refine wpAnyH_ready (rs := [6, 10]) (by as_aux_lemma => kernel_rfl) (by simp) ?_
    refine AllReadyH.cons rfl (fun K hK => ?_) (AllReadyH.cons rfl (fun K hK => ?_) AllReadyH.nil)
    · go_simp
      refine (rofD_any _ n (by omega)).mono ?_
      rintro _ u2 ⟨v2, rfl, m2, e2⟩
      have F2 : Ext W0 u2 := F1.trans e2
      replace m1 := m1.ext e2
      refine hK.out _ _ (bx6 (Ba.ext F2)) (fun hHeld => ?_)
      clear hK K e2
      refine wpAnyH_ready (rs := [7, 10]) (by as_aux_lemma => kernel_rfl) (by simp) ?_
      refine AllReadyH.cons rfl (fun K hK => ?_) (AllReadyH.cons rfl (fun K hK => ?_) AllReadyH.nil)
      · go_simp
        refine (rmulD_any _ _ _ (h + -l) (dy n 0) 200 393 0 9 m1 m2 q1 q2 (by omega) (by omega)).mono ?_
        rintro _ u3 ⟨v3, rfl, m3, e3⟩
        have F3 : Ext W0 u3 := F2.trans e3
        refine hK.out _ _ (bx6 (Ba.ext F3)) (fun hHeld => ?_)
        clear hK K e3
        refine wpAnyH_ready (rs := [8, 10]) (by as_aux_lemma => kernel_rfl) (by simp) ?_
        refine AllReadyH.cons rfl (fun K hK => ?_) (AllReadyH.cons rfl (fun K hK => ?_) AllReadyH.nil)
        · go_simp
          refine (rshiftx_any _ _ ((h + -l) * dy n 0) (-8) 200 402 m3 q3 (by omega) (by omega)).mono ?_
          rintro _ u4 ⟨v4, rfl, m4, e4⟩
          have F4 : Ext W0 u4 := F3.trans e4
          refine hK.out _ _ (bx6 (Ba.ext F4)) (fun hHeld => ?_)
          clear hK K e4
          refine wpAnyH_ready (rs := [9, 10]) (by as_aux_lemma => kernel_rfl) (by simp) ?_
          refine AllReadyH.cons rfl (fun K hK => ?_) (AllReadyH.cons rfl (fun K hK => ?_) AllReadyH.nil)
          · go_simp
            refine (raddD_any _ _ _ l ((h + -l) * dy n 0 * dy 1 (-8)) 208 411 (a1.ext F4) m4 q5 q4 (by omega)).mono ?_
            rintro _ u5 ⟨v5, rfl, m5, e5⟩
            have F5 : Ext W0 u5 := F4.trans e5
            obtain ⟨y5, Y5, p5, q5_, x5, rfl⟩ := m5.form
            refine hK.out _ _ (bx6 (Ba.ext F5)) (fun hHeld => ?_)
            clear hK K e5
            refine wpAnyH_ready (rs := [10]) (by as_aux_lemma => kernel_rfl) (by simp) ?_
            refine AllReadyH.cons rfl (fun K hK => ?_) AllReadyH.nil
            go_simp
            refine hK.out _ _ (bx6 (Ba.ext (F5.alloc _))) (fun hHeld => ?_)
            clear hK K
            refine wpAnyH_ready (rs := [11]) (by as_aux_lemma => kernel_rfl) (by simp) ?_
            refine AllReadyH.cons rfl (fun K hK => ?_) AllReadyH.nil
            go_simp
            have eD : Ext W0 (u5.alloc (.cells #[.bool y5, .slice Y5 p5 q5_, .int .i64 x5] 24)) := F5.alloc _
            have nD := m5.ext ((Ext.refl u5).alloc (.cells #[.bool y5, .slice Y5 p5 q5_, .int .i64 x5] 24))
            have B5 : Box (u5.alloc (.cells #[.bool y5, .slice Y5 p5 q5_, .int .i64 x5] 24)) u5.heap.size (.bool y5) (.slice Y5 p5 q5_) (.int .i64 x5) := Box.new _ _ _ _ _
            have Zr := Z0.ext eD
            refine hK.out _ _ (bx6 (Ba.ext eD)) (fun hHeld => ?_)
            clear hK K
            refine wpAnyH_done (by as_aux_lemma => kernel_rfl) ?_ _
            generalize (u5.alloc (.cells #[.bool y5, .slice Y5 p5 q5_, .int .i64 x5] 24)) = WW at *
            obtain ⟨k0, k1, k2⟩ := id B5
            have g0 := Zr.c0
            have g1 := Zr.c1
            have g2 := Zr.c2
            have f0 := Zr.f 0
            have f1 := Zr.f 1
            have f2 := Zr.f 2
            have HN := Lib.hid (Zr.done nD (E0.trans eD) (by omega))
            go_wp2
            obtain ⟨h0, h1, h2, hR⟩ := HN.out
            exact bodyPost_ret (by simp [results, Tryd.results10, go_sem, h0, h1, h2]) rfl hR
          · go_simp
            refine hK.out _ _ (bx6 (Ba.ext (F4.alloc _))) (fun hHeld => ?_)
            clear hK K
            have Fa : Ext W0 _ := F4.alloc (.cells #[.bool false, .slice none 0 0, .int .i64 0] 24)
            have Zm : Zd _ u4.heap.size := Zd.new (u4) 24
            replace m4 := m4.ext ((Ext.refl _).alloc (.cells #[.bool false, .slice none 0 0, .int .i64 0] 24))
            refine wpAnyH_ready (rs := [9]) (by as_aux_lemma => kernel_rfl) (by simp) ?_
            refine AllReadyH.cons rfl (fun K hK => ?_) AllReadyH.nil
            go_simp
            refine (raddD_any _ _ _ l ((h + -l) * dy n 0 * dy 1 (-8)) 208 411 (a1.ext Fa) m4 q5 q4 (by omega)).mono ?_
            rintro _ u5 ⟨v5, rfl, m5, e5⟩
            have F5 : Ext W0 u5 := Fa.trans e5
            obtain ⟨y5, Y5, p5, q5_, x5, rfl⟩ := m5.form
            replace Zm := Zm.ext e5
            refine hK.out _ _ (bx6 (Ba.ext F5)) (fun hHeld => ?_)
            clear hK K e5
            have g0 := Zm.c0
            have g1 := Zm.c1
            have g2 := Zm.c2
            have f0 := Zm.f 0
            have f1 := Zm.f 1
            have f2 := Zm.f 2
            have hg : W0.heap.size ≤ u4.heap.size := by have := (F4).size; simp at this ⊢; try omega
            have Zr := (Z0.ext F5).off (a := .bool y5) (b := .slice Y5 p5 q5_) (c := .int .i64 x5) (show w.heap.size + 1 ≠ u4.heap.size by have := HS0.out; omega)
            obtain ⟨k0, k1, k2, hD⟩ := Zm.done m5 F5 hg
            obtain ⟨vv, hvv, nD, eD⟩ := hD
            injection hvv with hvv
            subst hvv
            refine wpAnyH_ready (rs := [11]) (by as_aux_lemma => kernel_rfl) (by simp) ?_
            refine AllReadyH.cons rfl (fun K hK => ?_) AllReadyH.nil
            go_simp
            refine hK.out _ _ (bx6 (Ba.ext eD)) (fun hHeld => ?_)
            clear hK K
            refine wpAnyH_done (by as_aux_lemma => kernel_rfl) ?_ _
            clear g0 g1 g2 f0 f1 f2
            have g0 := Zr.c0
            have g1 := Zr.c1
            have g2 := Zr.c2
            have f0 := Zr.f 0
            have f1 := Zr.f 1
            have f2 := Zr.f 2
            have HN := Lib.hid (Zr.done nD (E0.trans eD) (by omega))
            skip
            go_wp2
            obtain ⟨h0, h1, h2, hR⟩ := HN.out
            exact bodyPost_ret (by simp [results, Tryd.results10, go_sem, h0, h1, h2]) rfl hR
        · go_simp
          refine hK.out _ _ (bx6 (Ba.ext (F3.alloc _))) (fun hHeld => ?_)
          clear hK K
          have Fa : Ext W0 _ := F3.alloc (.cells #[.bool false, .slice none 0 0, .int .i64 0] 24)
          have Zm : Zd _ u3.heap.size := Zd.new (u3) 24
          replace m3 := m3.ext ((Ext.refl _).alloc (.cells #[.bool false, .slice none 0 0, .int .i64 0] 24))
          refine wpAnyH_ready (rs := [8]) (by as_aux_lemma => kernel_rfl) (by simp) ?_
          refine AllReadyH.cons rfl (fun K hK => ?_) AllReadyH.nil
          go_simp
          refine (rshiftx_any _ _ ((h + -l) * dy n 0) (-8) 200 402 m3 q3 (by omega) (by omega)).mono ?_
          rintro _ u4 ⟨v4, rfl, m4, e4⟩
          have F4 : Ext W0 u4 := Fa.trans e4
          replace Zm := Zm.ext e4
          refine hK.out _ _ (bx6 (Ba.ext F4)) (fun hHeld => ?_)
          clear hK K e4
          refine wpAnyH_ready (rs := [9]) (by as_aux_lemma => kernel_rfl) (by simp) ?_
          refine AllReadyH.cons rfl (fun K hK => ?_) AllReadyH.nil
          go_simp
          refine (raddD_any _ _ _ l ((h + -l) * dy n 0 * dy 1 (-8)) 208 411 (a1.ext F4) m4 q5 q4 (by omega)).mono ?_
          rintro _ u5 ⟨v5, rfl, m5, e5⟩
          have F5 : Ext W0 u5 := F4.trans e5
          obtain ⟨y5, Y5, p5, q5_, x5, rfl⟩ := m5.form
          replace Zm := Zm.ext e5
          refine hK.out _ _ (bx6 (Ba.ext F5)) (fun hHeld => ?_)
          clear hK K e5
          have g0 := Zm.c0
          have g1 := Zm.c1
          have g2 := Zm.c2
          have f0 := Zm.f 0
          have f1 := Zm.f 1
          have f2 := Zm.f 2
          have hg : W0.heap.size ≤ u3.heap.size := by have := (F3).size; simp at this ⊢; try omega
          have Zr := (Z0.ext F5).off (a := .bool y5) (b := .slice Y5 p5 q5_) (c := .int .i64 x5) (show w.heap.size + 1 ≠ u3.heap.size by have := HS0.out; omega)
          obtain ⟨k0, k1, k2, hD⟩ := Zm.done m5 F5 hg
          obtain ⟨vv, hvv, nD, eD⟩ := hD
          injection hvv with hvv
          subst hvv
          refine wpAnyH_ready (rs := [11]) (by as_aux_lemma => kernel_rfl) (by simp) ?_
          refine AllReadyH.cons rfl (fun K hK => ?_) AllReadyH.nil
          go_simp
          refine hK.out _ _ (bx6 (Ba.ext eD)) (fun hHeld => ?_)
          clear hK K
          refine wpAnyH_done (by as_aux_lemma => kernel_rfl) ?_ _
          clear g0 g1 g2 f0 f1 f2
          have g0 := Zr.c0
          have g1 := Zr.c1
          have g2 := Zr.c2
          have f0 := Zr.f 0
          have f1 := Zr.f 1
          have f2 := Zr.f 2
          have HN := Lib.hid (Zr.done nD (E0.trans eD) (by omega))
          skip
          go_wp2
          obtain ⟨h0, h1, h2, hR⟩ := HN.out
          exact bodyPost_ret (by simp [results, Tryd.results10, go_sem, h0, h1, h2]) rfl hR
      · go_simp
        refine hK.out _ _ (bx6 (Ba.ext (F2.alloc _))) (fun hHeld => ?_)
        clear hK K
        have Fa : Ext W0 _ := F2.alloc (.cells #[.bool false, .slice none 0 0, .int .i64 0] 24)
        have Zm : Zd _ u2.heap.size := Zd.new (u2) 24
        replace m1 := m1.ext ((Ext.refl _).alloc (.cells #[.bool false, .slice none 0 0, .int .i64 0] 24))
        replace m2 := m2.ext ((Ext.refl _).alloc (.cells #[.bool false, .slice none 0 0, .int .i64 0] 24))
        refine wpAnyH_ready (rs := [7]) (by as_aux_lemma => kernel_rfl) (by simp) ?_
        refine AllReadyH.cons rfl (fun K hK => ?_) AllReadyH.nil
        go_simp
        refine (rmulD_any _ _ _ (h + -l) (dy n 0) 200 393 0 9 m1 m2 q1 q2 (by omega) (by omega)).mono ?_
        rintro _ u3 ⟨v3, rfl, m3, e3⟩
        have F3 : Ext W0 u3 := Fa.trans e3
        replace Zm := Zm.ext e3
        refine hK.out _ _ (bx6 (Ba.ext F3)) (fun hHeld => ?_)
        clear hK K e3
        refine wpAnyH_ready (rs := [8]) (by as_aux_lemma => kernel_rfl) (by simp) ?_
        refine AllReadyH.cons rfl (fun K hK => ?_) AllReadyH.nil
        go_simp
        refine (rshiftx_any _ _ ((h + -l) * dy n 0) (-8) 200 402 m3 q3 (by omega) (by omega)).mono ?_
        rintro _ u4 ⟨v4, rfl, m4, e4⟩
        have F4 : Ext W0 u4 := F3.trans e4
        replace Zm := Zm.ext e4
        refine hK.out _ _ (bx6 (Ba.ext F4)) (fun hHeld => ?_)
        clear hK K e4
        refine wpAnyH_ready (rs := [9]) (by as_aux_lemma => kernel_rfl) (by simp) ?_
        refine AllReadyH.cons rfl (fun K hK => ?_) AllReadyH.nil
        go_simp
        refine (raddD_any _ _ _ l ((h + -l) * dy n 0 * dy 1 (-8)) 208 411 (a1.ext F4) m4 q5 q4 (by omega)).mono ?_
        rintro _ u5 ⟨v5, rfl, m5, e5⟩
        have F5 : Ext W0 u5 := F4.trans e5
        obtain ⟨y5, Y5, p5, q5_, x5, rfl⟩ := m5.form
        replace Zm := Zm.ext e5
        refine hK.out _ _ (bx6 (Ba.ext F5)) (fun hHeld => ?_)
        clear hK K e5
        have g0 := Zm.c0
        have g1 := Zm.c1
        have g2 := Zm.c2
        have f0 := Zm.f 0
        have f1 := Zm.f 1
        have f2 := Zm.f 2
        have hg : W0.heap.size ≤ u2.heap.size := by have := (F2).size; simp at this ⊢; try omega
        have Zr := (Z0.ext F5).off (a := .bool y5) (b := .slice Y5 p5 q5_) (c := .int .i64 x5) (show w.heap.size + 1 ≠ u2.heap.size by have := HS0.out; omega)
        obtain ⟨k0, k1, k2, hD⟩ := Zm.done m5 F5 hg
        obtain ⟨vv, hvv, nD, eD⟩ := hD
        injection hvv with hvv
        subst hvv
        refine wpAnyH_ready (rs := [11]) (by as_aux_lemma => kernel_rfl) (by simp) ?_
        refine AllReadyH.cons rfl (fun K hK => ?_) AllReadyH.nil
        go_simp
        refine hK.out _ _ (bx6 (Ba.ext eD)) (fun hHeld => ?_)
        clear hK K
        refine wpAnyH_done (by as_aux_lemma => kernel_rfl) ?_ _
        clear g0 g1 g2 f0 f1 f2
        have g0 := Zr.c0
        have g1 := Zr.c1
        have g2 := Zr.c2
        have f0 := Zr.f 0
        have f1 := Zr.f 1
        have f2 := Zr.f 2
        have HN := Lib.hid (Zr.done nD (E0.trans eD) (by omega))
        skip
        go_wp2
        obtain ⟨h0, h1, h2, hR⟩ := HN.out
        exact bodyPost_ret (by simp [results, Tryd.results10, go_sem, h0, h1, h2]) rfl hR
    · go_simp
      refine hK.out _ _ (bx6 (Ba.ext (F1.alloc _))) (fun hHeld => ?_)
      clear hK K
      have Fa : Ext W0 _ := F1.alloc (.cells #[.bool false, .slice none 0 0, .int .i64 0] 24)
      have Zm : Zd _ u1.heap.size := Zd.new (u1) 24
      replace m1 := m1.ext ((Ext.refl _).alloc (.cells #[.bool false, .slice none 0 0, .int .i64 0] 24))
      refine wpAnyH_ready (rs := [6]) (by as_aux_lemma => kernel_rfl) (by simp) ?_
      refine AllReadyH.cons rfl (fun K hK => ?_) AllReadyH.nil
      go_simp
      refine (rofD_any _ n (by omega)).mono ?_
      rintro _ u2 ⟨v2, rfl, m2, e2⟩
      have F2 : Ext W0 u2 := Fa.trans e2
      replace m1 := m1.ext e2
      replace Zm := Zm.ext e2
      refine hK.out _ _ (bx6 (Ba.ext F2)) (fun hHeld => ?_)
      clear hK K e2
      refine wpAnyH_ready (rs := [7]) (by as_aux_lemma => kernel_rfl) (by simp) ?_
      refine AllReadyH.cons rfl (fun K hK => ?_) AllReadyH.nil
      go_simp
      refine (rmulD_any _ _ _ (h + -l) (dy n 0) 200 393 0 9 m1 m2 q1 q2 (by omega) (by omega)).mono ?_
      rintro _ u3 ⟨v3, rfl, m3, e3⟩
      have F3 : Ext W0 u3 := F2.trans e3
      replace Zm := Zm.ext e3
      refine hK.out _ _ (bx6 (Ba.ext F3)) (fun hHeld => ?_)
      clear hK K e3
      refine wpAnyH_ready (rs := [8]) (by as_aux_lemma => kernel_rfl) (by simp) ?_
      refine AllReadyH.cons rfl (fun K hK => ?_) AllReadyH.nil
      go_simp
      refine (rshiftx_any _ _ ((h + -l) * dy n 0) (-8) 200 402 m3 q3 (by omega) (by omega)).mono ?_
      rintro _ u4 ⟨v4, rfl, m4, e4⟩
      have F4 : Ext W0 u4 := F3.trans e4
      replace Zm := Zm.ext e4
      refine hK.out _ _ (bx6 (Ba.ext F4)) (fun hHeld => ?_)
      clear hK K e4
      refine wpAnyH_ready (rs := [9]) (by as_aux_lemma => kernel_rfl) (by simp) ?_
      refine AllReadyH.cons rfl (fun K hK => ?_) AllReadyH.nil
      go_simp
      refine (raddD_any _ _ _ l ((h + -l) * dy n 0 * dy 1 (-8)) 208 411 (a1.ext F4) m4 q5 q4 (by omega)).mono ?_
      rintro _ u5 ⟨v5, rfl, m5, e5⟩
      have F5 : Ext W0 u5 := F4.trans e5
      obtain ⟨y5, Y5, p5, q5_, x5, rfl⟩ := m5.form
      replace Zm := Zm.ext e5
      refine hK.out _ _ (bx6 (Ba.ext F5)) (fun hHeld => ?_)
      clear hK K e5
      have g0 := Zm.c0
      have g1 := Zm.c1
      have g2 := Zm.c2
      have f0 := Zm.f 0
      have f1 := Zm.f 1
      have f2 := Zm.f 2
      have hg : W0.heap.size ≤ u1.heap.size := by have := (F1).size; simp at this ⊢; try omega
      have Zr := (Z0.ext F5).off (a := .bool y5) (b := .slice Y5 p5 q5_) (c := .int .i64 x5) (show w.heap.size + 1 ≠ u1.heap.size by have := HS0.out; omega)
      obtain ⟨k0, k1, k2, hD⟩ := Zm.done m5 F5 hg
      obtain ⟨vv, hvv, nD, eD⟩ := hD
      injection hvv with hvv
      subst hvv
      refine wpAnyH_ready (rs := [11]) (by as_aux_lemma => kernel_rfl) (by simp) ?_
      refine AllReadyH.cons rfl (fun K hK => ?_) AllReadyH.nil
      go_simp
      refine hK.out _ _ (bx6 (Ba.ext eD)) (fun hHeld => ?_)
      clear hK K
      refine wpAnyH_done (by as_aux_lemma => kernel_rfl) ?_ _
      clear g0 g1 g2 f0 f1 f2
      have g0 := Zr.c0
      have g1 := Zr.c1
      have g2 := Zr.c2
      have f0 := Zr.f 0
      have f1 := Zr.f 1
      have f2 := Zr.f 2
      have HN := Lib.hid (Zr.done nD (E0.trans eD) (by omega))
      skip
      go_wp2
      obtain ⟨h0, h1, h2, hR⟩ := HN.out
      exact bodyPost_ret (by simp [results, Tryd.results10, go_sem, h0, h1, h2]) rfl hR
  · go_simp
    refine hK.out _ _ (bx6 (Ba.ext ((Ext.refl W0).drew.alloc _))) (fun hHeld => ?_)
    clear hK K
    have Fa : Ext W0 _ := (Ext.refl W0).drew.alloc (.cells #[.bool false, .slice none 0 0, .int .i64 0] 24)
    have Zm : Zd _ W0.heap.size := Zd.new (W0.drew) 24
    refine wpAnyH_ready (rs := [3]) (by as_aux_lemma => kernel_rfl) (by simp) ?_
    refine AllReadyH.cons rfl (fun K hK => ?_) AllReadyH.nil
    go_simp
    refine (rwide_any _ _ l h 200 392 ((In.mk a1 a2).ext Fa) rl rh (by omega)).mono ?_
    rintro _ u1 ⟨v1, rfl, m1, e1⟩
    have F1 : Ext W0 u1 := Fa.trans e1
    replace Zm := Zm.ext e1
    refine hK.out _ _ (bx6 (Ba.ext F1)) (fun hHeld => ?_)
    clear hK K e1
    refine wpAnyH_ready (rs := [6]) (by as_aux_lemma => kernel_rfl) (by simp) ?_
    refine AllReadyH.cons rfl (fun K hK => ?_) AllReadyH.nil
    go_simp
    refine (rofD_any _ n (by omega)).mono ?_
    rintro _ u2 ⟨v2, rfl, m2, e2⟩
    have F2 : Ext W0 u2 := F1.trans e2
    replace m1 := m1.ext e2
    replace Zm := Zm.ext e2
    refine hK.out _ _ (bx6 (Ba.ext F2)) (fun hHeld => ?_)
    clear hK K e2
    refine wpAnyH_ready (rs := [7]) (by as_aux_lemma => kernel_rfl) (by simp) ?_
    refine AllReadyH.cons rfl (fun K hK => ?_) AllReadyH.nil
    go_simp
    refine (rmulD_any _ _ _ (h + -l) (dy n 0) 200 393 0 9 m1 m2 q1 q2 (by omega) (by omega)).mono ?_
    rintro _ u3 ⟨v3, rfl, m3, e3⟩
    have F3 : Ext W0 u3 := F2.trans e3
    replace Zm := Zm.ext e3
    refine hK.out _ _ (bx6 (Ba.ext F3)) (fun hHeld => ?_)
    clear hK K e3
    refine wpAnyH_ready (rs := [8]) (by as_aux_lemma => kernel_rfl) (by simp) ?_
    refine AllReadyH.cons rfl (fun K hK => ?_) AllReadyH.nil
    go_simp
    refine (rshiftx_any _ _ ((h + -l) * dy n 0) (-8) 200 402 m3 q3 (by omega) (by omega)).mono ?_
    rintro _ u4 ⟨v4, rfl, m4, e4⟩
    have F4 : Ext W0 u4 := F3.trans e4
    replace Zm := Zm.ext e4
    refine hK.out _ _ (bx6 (Ba.ext F4)) (fun hHeld => ?_)
    clear hK K e4
    refine wpAnyH_ready (rs := [9]) (by as_aux_lemma => kernel_rfl) (by simp) ?_
    refine AllReadyH.cons rfl (fun K hK => ?_) AllReadyH.nil
    go_simp
    refine (raddD_any _ _ _ l ((h + -l) * dy n 0 * dy 1 (-8)) 208 411 (a1.ext F4) m4 q5 q4 (by omega)).mono ?_
    rintro _ u5 ⟨v5, rfl, m5, e5⟩
    have F5 : Ext W0 u5 := F4.trans e5
    obtain ⟨y5, Y5, p5, q5_, x5, rfl⟩ := m5.form
    replace Zm := Zm.ext e5
    refine hK.out _ _ (bx6 (Ba.ext F5)) (fun hHeld => ?_)
    clear hK K e5
    have g0 := Zm.c0
    have g1 := Zm.c1
    have g2 := Zm.c2
    have f0 := Zm.f 0
    have f1 := Zm.f 1
    have f2 := Zm.f 2
    have hg : W0.heap.size ≤ W0.heap.size := by have := ((Ext.refl W0).drew).size; simp at this ⊢; try omega
    have Zr := (Z0.ext F5).off (a := .bool y5) (b := .slice Y5 p5 q5_) (c := .int .i64 x5) (show w.heap.size + 1 ≠ W0.heap.size by have := HS0.out; omega)
    obtain ⟨k0, k1, k2, hD⟩ := Zm.done m5 F5 hg
    obtain ⟨vv, hvv, nD, eD⟩ := hD
    injection hvv with hvv
    subst hvv
    refine wpAnyH_ready (rs := [11]) (by as_aux_lemma => kernel_rfl) (by simp) ?_
    refine AllReadyH.cons rfl (fun K hK => ?_) AllReadyH.nil
    go_simp
    refine hK.out _ _ (bx6 (Ba.ext eD)) (fun hHeld => ?_)
    clear hK K
    refine wpAnyH_done (by as_aux_lemma => kernel_rfl) ?_ _
    clear g0 g1 g2 f0 f1 f2
    have g0 := Zr.c0
    have g1 := Zr.c1
    have g2 := Zr.c2
    have f0 := Zr.f 0
    have f1 := Zr.f 1
    have f2 := Zr.f 2
    have HN := Lib.hid (Zr.done nD (E0.trans eD) (by omega))
    skip
    go_wp2
    obtain ⟨h0, h1, h2, hR⟩ := HN.out
    exact bodyPost_ret (by simp [results, Tryd.results10, go_sem, h0, h1, h2]) rfl hR
end Go.Proofs.YtimdglgianheiaaDoor
