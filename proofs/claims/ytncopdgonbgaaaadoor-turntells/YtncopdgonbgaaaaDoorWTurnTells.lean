/- The walk of TurnTells. -/
import Derived.Test.YtncopdgonbgaaaaDoorTL
namespace Go.Proofs.YtncopdgonbgaaaaDoor
open Go.RowKit
set_option linter.unusedVariables false
theorem rright_lit (w : World) (K Q : Int) (r : Bool) (hr : rightT K Q = r) (hK : -9223372036854775808 ≤ K ∧ K ≤ 9223372036854775807) (hQ : -9223372036854775808 ≤ Q ∧ Q ≤ 9223372036854775807) : Calls Tryd.prog 13 #[.agg #[.int .i64 K, .int .i64 Q]] w (RetE w (.bool r)) := by
  subst hr; exact rrightT_any w K Q hK hQ
theorem rplace_lit (w : World) (e : Int) (a b c : Bool) (ha : plSwap e = a) (hb : plCos e = b) (hc : plSin e = c) : Calls Tryd.prog 11 #[.int .i64 e] w (RetE w (.tuple #[.bool a, .bool b, .bool c])) := by
  subst ha hb hc; exact rplace_any w e
theorem rsplit_any (w : World) (K k e : Int) (Q q : Nat) (hK : -9223372036854775808 ≤ K ∧ K ≤ 9223372036854775807) (hQ : Q ≤ 40) (he : eighth (tv K Q) = e) (h : Fm (rest (tv K Q)) k q) :
    Calls Tryd.prog 15 #[.agg #[.int .i64 K, .int .i64 Q]] w (RetE w (.agg #[.int .i64 e, .int .i64 k, .int .i64 q])) := by
  subst he
  obtain ⟨kf, qf, hf⟩ := fm_there (tv_range K Q).1 (tv_range K Q).2
  by_cases hp : eighth (tv K Q) % 2 = 0
  · exact rsplit_even w K kf k Q qf q hK hQ hf hp h
  · exact rsplit_odd w K kf k Q qf q hK hQ hf hp h
set_option maxRecDepth 100000 in
set_option maxHeartbeats 4000000 in
theorem tells_noa (w : World) (T0 : Tu w) (Kx Qx : Int) (hKx : -9223372036854775808 ≤ Kx ∧ Kx ≤ 9223372036854775807) (hQx : -9223372036854775808 ≤ Qx ∧ Qx ≤ 9223372036854775807) (Ka Qa : Int) (hKa : -9223372036854775808 ≤ Ka ∧ Ka ≤ 9223372036854775807) (hQa : -9223372036854775808 ≤ Qa ∧ Qa ≤ 9223372036854775807) (Kb Qb : Int) (hKb : -9223372036854775808 ≤ Kb ∧ Kb ≤ 9223372036854775807) (hQb : -9223372036854775808 ≤ Qb ∧ Qb ≤ 9223372036854775807) (n : Int) (hn : -9223372036854775808 ≤ n ∧ n ≤ 9223372036854775807) (e : Int) (ra : rightT Ka Qa = false) :
    Calls Tryd.prog 3 #[.agg #[.int .i64 Kx, .int .i64 Qx], .agg #[.int .i64 Ka, .int .i64 Qa], .agg #[.int .i64 Kb, .int .i64 Qb], .int .i64 n, .int .i64 e] w (RetE w (.bool true)) := by
  obtain ⟨s, hs⟩ : ∃ s, plSwap e = s := ⟨_, rfl⟩
  obtain ⟨c, hc⟩ : ∃ c, plCos e = c := ⟨_, rfl⟩
  obtain ⟨z, hz⟩ : ∃ z, plSin e = z := ⟨_, rfl⟩
  have HP := Lib.hid (fun w' (T' : Tu w') => tplace_lit w' T'.pl e s c z hs hc hz)
  have HRP := Lib.hid (fun w' => rplace_lit w' e s c z hs hc hz)
  obtain ⟨rx, hrx⟩ : ∃ r, rightT Kx Qx = r := ⟨_, rfl⟩
  have HX1 := Lib.hid (fun w' => tright_lit w' Kx Qx rx hrx hKx hQx)
  have HX2 := Lib.hid (fun w' => rright_lit w' Kx Qx rx hrx hKx hQx)
  have Ha := Lib.hid (fun w' => rright_lit w' Ka Qa false ra hKa hQa)
  clear hKx hQx hKa hQa hKb hQb hn hs hc hz hrx ra
  have T := Lib.hid T0
  clear T0
  go_enter Tryd.func3, Tryd.ntmps3
  go_wp2_with fail
  refine (headT_any _ (T.out.ext ((((Ext.refl w).alloc _).alloc _).alloc _))).mono ?_
  rintro _ w1 ⟨rfl, f1⟩
  have Bx : B2 w1 (w.heap.size) (.int .i64 Kx) (.int .i64 Qx) := B2.at ((((Ext.refl _).alloc _).alloc _).trans f1) (by simp)
  have Ba : B2 w1 (w.heap.size + 1) (.int .i64 Ka) (.int .i64 Qa) := B2.at (((Ext.refl _).alloc _).trans f1) (by simp)
  have Bb : B2 w1 (w.heap.size + 1 + 1) (.int .i64 Kb) (.int .i64 Qb) := B2.at ((Ext.refl _).trans f1) (by simp)
  have e1 : Ext w w1 := ((((Ext.refl w).alloc _).alloc _).alloc _).trans f1
  have E1 : Ext w w1 := e1
  clear f1
  obtain ⟨Bx_0, Bx_1⟩ := id Bx
  have Bx_l := World.block_lt_of_cell? _ _ Bx_0
  obtain ⟨Ba_0, Ba_1⟩ := id Ba
  have Ba_l := World.block_lt_of_cell? _ _ Ba_0
  obtain ⟨Bb_0, Bb_1⟩ := id Bb
  have Bb_l := World.block_lt_of_cell? _ _ Bb_0
  go_wp2_with fail
  refine (HP.out _ (T.out.ext (E1.trans (Ext.refl w1)))).mono ?_
  rintro _ w2 ⟨rfl, f2⟩
  clear Bx_0 Bx_1 Bx_l Ba_0 Ba_1 Ba_l Bb_0 Bb_1 Bb_l
  have e2 : Ext w1 w2 := (Ext.refl w1).trans f2
  replace Bx := Bx.ext e2
  replace Ba := Ba.ext e2
  replace Bb := Bb.ext e2
  have E2 : Ext w w2 := E1.trans e2
  clear f2
  go_wp2_with fail
  refine (HRP.out _).mono ?_
  rintro _ w3 ⟨rfl, f3⟩
  have e3 : Ext w2 w3 := (Ext.refl w2).trans f3
  replace Bx := Bx.ext e3
  replace Ba := Ba.ext e3
  replace Bb := Bb.ext e3
  have E3 : Ext w w3 := E2.trans e3
  clear f3
  obtain ⟨Bx_0, Bx_1⟩ := id Bx
  have Bx_l := World.block_lt_of_cell? _ _ Bx_0
  go_wp2
  refine wp_region_held_drew (S := (fun w' => (w'.cell? ⟨w.heap.size, 0, none⟩ = some (.int .i64 Kx) ∧ w'.cell? ⟨w.heap.size, 1, none⟩ = some (.int .i64 Qx)) ∧ (w'.cell? ⟨w.heap.size + 1, 0, none⟩ = some (.int .i64 Ka) ∧ w'.cell? ⟨w.heap.size + 1, 1, none⟩ = some (.int .i64 Qa)) ∧ (w'.cell? ⟨w.heap.size + 1 + 1, 0, none⟩ = some (.int .i64 Kb) ∧ w'.cell? ⟨w.heap.size + 1 + 1, 1, none⟩ = some (.int .i64 Qb)))) (by as_aux_lemma => kernel_rfl) ⟨b2 (Bx.ext (Ext.refl w3).drew), b2 (Ba.ext (Ext.refl w3).drew), b2 (Bb.ext (Ext.refl w3).drew)⟩ (fun hHeld => ?_)
  refine wpAnyH_take (i := 0) (v := ?_) rfl (by as_aux_lemma => kernel_rfl) (by as_aux_lemma => kernel_rfl) (by as_aux_lemma => kernel_rfl) (fun _ _ _ h => h) (Or.inl ⟨by rfl, ?_⟩) (by assumption) ?_
  rotate_left
  · (intro w hSw; (try dsimp only at hSw); go_simp); (try with_reducible rfl)
  simp only [List.getElem_toArray, List.getElem_cons_zero, Act.put, List.setIfInBounds_toArray, List.set_cons_zero, List.set_cons_succ]
  refine wpAnyH_take (i := 2) (v := ?_) rfl (by as_aux_lemma => kernel_rfl) (by as_aux_lemma => kernel_rfl) (by as_aux_lemma => kernel_rfl) (fun _ _ _ h => h) (Or.inl ⟨by rfl, ?_⟩) (by assumption) ?_
  rotate_left
  · (intro w hSw; (try dsimp only at hSw); go_simp); (try with_reducible rfl)
  simp only [List.getElem_toArray, List.getElem_cons_zero, List.getElem_cons_succ, Act.put, List.setIfInBounds_toArray, List.set_cons_zero, List.set_cons_succ]
  refine wpAnyH_ready (rs := [1]) (by as_aux_lemma => kernel_rfl) (by simp) ?_
  refine AllReadyH.cons rfl (fun K hK => ?_) AllReadyH.nil
  go_simp
  refine (HX1.out _).mono ?_
  rintro _ ur1 ⟨rfl, eur1⟩
  have Fr1 : Ext w3 ur1 := (Ext.refl w3).drew.trans eur1
  refine hK.out _ _ ⟨b2 (Bx.ext Fr1), b2 (Ba.ext Fr1), b2 (Bb.ext Fr1)⟩ (fun hHeld => ?_)
  clear hK K eur1
  refine wpAnyH_ready (rs := [3]) (by as_aux_lemma => kernel_rfl) (by simp) ?_
  refine AllReadyH.cons rfl (fun K hK => ?_) AllReadyH.nil
  go_simp
  refine (HX2.out _).mono ?_
  rintro _ ur2 ⟨rfl, eur2⟩
  have Fr2 : Ext w3 ur2 := Fr1.trans eur2
  refine hK.out _ _ ⟨b2 (Bx.ext Fr2), b2 (Ba.ext Fr2), b2 (Bb.ext Fr2)⟩ (fun hHeld => ?_)
  clear hK K eur2 Fr1
  refine wpAnyH_take (i := 4) (v := ?_) rfl (by as_aux_lemma => kernel_rfl) (by as_aux_lemma => kernel_rfl) (by as_aux_lemma => kernel_rfl) (fun _ _ _ h => h) (Or.inl ⟨by rfl, ?_⟩) (by assumption) ?_
  rotate_left
  · (intro w hSw; (try dsimp only at hSw); go_simp); (try with_reducible rfl)
  simp only [List.getElem_toArray, List.getElem_cons_zero, List.getElem_cons_succ, Act.put, List.setIfInBounds_toArray, List.set_cons_zero, List.set_cons_succ]
  refine wpAnyH_take (i := 5) (v := ?_) rfl (by as_aux_lemma => kernel_rfl) (by as_aux_lemma => kernel_rfl) (by as_aux_lemma => kernel_rfl) (fun _ _ _ h => h) (Or.inl ⟨by rfl, ?_⟩) (by assumption) ?_
  rotate_left
  · (intro w hSw; (try dsimp only at hSw); go_simp); (try with_reducible rfl)
  simp only [List.getElem_toArray, List.getElem_cons_zero, List.getElem_cons_succ, Act.put, List.setIfInBounds_toArray, List.set_cons_zero, List.set_cons_succ]
  refine wpAnyH_take (i := 6) (v := ?_) rfl (by as_aux_lemma => kernel_rfl) (by as_aux_lemma => kernel_rfl) (by as_aux_lemma => kernel_rfl) (fun _ _ _ h => h) (Or.inl ⟨by rfl, ?_⟩) (by assumption) ?_
  rotate_left
  · (intro w hSw; (try dsimp only at hSw); go_simp); (try with_reducible rfl)
  simp only [List.getElem_toArray, List.getElem_cons_zero, List.getElem_cons_succ, Act.put, List.setIfInBounds_toArray, List.set_cons_zero, List.set_cons_succ]
  refine wpAnyH_take (i := 7) (v := ?_) rfl (by as_aux_lemma => kernel_rfl) (by as_aux_lemma => kernel_rfl) (by as_aux_lemma => kernel_rfl) (fun _ _ _ h => h) (Or.inl ⟨by rfl, ?_⟩) (by assumption) ?_
  rotate_left
  · (intro w hSw; (try dsimp only at hSw); go_simp); (try with_reducible rfl)
  simp only [List.getElem_toArray, List.getElem_cons_zero, List.getElem_cons_succ, Act.put, List.setIfInBounds_toArray, List.set_cons_zero, List.set_cons_succ]
  refine wpAnyH_take (i := 8) (v := ?_) rfl (by as_aux_lemma => kernel_rfl) (by as_aux_lemma => kernel_rfl) (by as_aux_lemma => kernel_rfl) (fun _ _ _ h => h) (Or.inl ⟨by rfl, ?_⟩) (by assumption) ?_
  rotate_left
  · (intro w hSw; (try dsimp only at hSw); go_simp); (try with_reducible rfl)
  simp only [List.getElem_toArray, List.getElem_cons_zero, List.getElem_cons_succ, Act.put, List.setIfInBounds_toArray, List.set_cons_zero, List.set_cons_succ]
  refine wpAnyH_take (i := 9) (v := ?_) rfl (by as_aux_lemma => kernel_rfl) (by as_aux_lemma => kernel_rfl) (by as_aux_lemma => kernel_rfl) (fun _ _ _ h => h) (Or.inl ⟨by rfl, ?_⟩) (by assumption) ?_
  rotate_left
  · (intro w hSw; (try dsimp only at hSw); go_simp); (try with_reducible rfl)
  simp only [List.getElem_toArray, List.getElem_cons_zero, List.getElem_cons_succ, Act.put, List.setIfInBounds_toArray, List.set_cons_zero, List.set_cons_succ]
  refine wpAnyH_take (i := 10) (v := ?_) rfl (by as_aux_lemma => kernel_rfl) (by as_aux_lemma => kernel_rfl) (by as_aux_lemma => kernel_rfl) (fun _ _ _ h => h) (Or.inl ⟨by rfl, ?_⟩) (by assumption) ?_
  rotate_left
  · (intro w hSw; (try dsimp only at hSw); go_simp); (try with_reducible rfl)
  simp only [List.getElem_toArray, List.getElem_cons_zero, List.getElem_cons_succ, Act.put, List.setIfInBounds_toArray, List.set_cons_zero, List.set_cons_succ]
  refine wpAnyH_take (i := 11) (v := ?_) rfl (by as_aux_lemma => kernel_rfl) (by as_aux_lemma => kernel_rfl) (by as_aux_lemma => kernel_rfl) (fun _ _ _ h => h) (Or.inl ⟨by rfl, ?_⟩) (by assumption) ?_
  rotate_left
  · (intro w hSw; (try dsimp only at hSw); go_simp); (try with_reducible rfl)
  simp only [List.getElem_toArray, List.getElem_cons_zero, List.getElem_cons_succ, Act.put, List.setIfInBounds_toArray, List.set_cons_zero, List.set_cons_succ]
  refine wpAnyH_take (i := 12) (v := ?_) rfl (by as_aux_lemma => kernel_rfl) (by as_aux_lemma => kernel_rfl) (by as_aux_lemma => kernel_rfl) (fun _ _ _ h => h) (Or.inl ⟨by rfl, ?_⟩) (by assumption) ?_
  rotate_left
  · (intro w hSw; (try dsimp only at hSw); go_simp); (try with_reducible rfl)
  simp only [List.getElem_toArray, List.getElem_cons_zero, List.getElem_cons_succ, Act.put, List.setIfInBounds_toArray, List.set_cons_zero, List.set_cons_succ]
  refine wpAnyH_take (i := 13) (v := ?_) rfl (by as_aux_lemma => kernel_rfl) (by as_aux_lemma => kernel_rfl) (by as_aux_lemma => kernel_rfl) (fun _ _ _ h => h) (Or.inl ⟨by rfl, ?_⟩) (by assumption) ?_
  rotate_left
  · (intro w hSw; (try dsimp only at hSw); go_simp); (try with_reducible rfl)
  simp only [List.getElem_toArray, List.getElem_cons_zero, List.getElem_cons_succ, Act.put, List.setIfInBounds_toArray, List.set_cons_zero, List.set_cons_succ]
  refine wpAnyH_take (i := 14) (v := ?_) rfl (by as_aux_lemma => kernel_rfl) (by as_aux_lemma => kernel_rfl) (by as_aux_lemma => kernel_rfl) (fun _ _ _ h => h) (Or.inl ⟨by rfl, ?_⟩) (by assumption) ?_
  rotate_left
  · (intro w hSw; (try dsimp only at hSw); go_simp); (try with_reducible rfl)
  simp only [List.getElem_toArray, List.getElem_cons_zero, List.getElem_cons_succ, Act.put, List.setIfInBounds_toArray, List.set_cons_zero, List.set_cons_succ]
  refine wpAnyH_take (i := 15) (v := ?_) rfl (by as_aux_lemma => kernel_rfl) (by as_aux_lemma => kernel_rfl) (by as_aux_lemma => kernel_rfl) (fun _ _ _ h => h) (Or.inl ⟨by rfl, ?_⟩) (by assumption) ?_
  rotate_left
  · (intro w hSw; (try dsimp only at hSw); go_simp); (try with_reducible rfl)
  simp only [List.getElem_toArray, List.getElem_cons_zero, List.getElem_cons_succ, Act.put, List.setIfInBounds_toArray, List.set_cons_zero, List.set_cons_succ]
  refine wpAnyH_take (i := 16) (v := ?_) rfl (by as_aux_lemma => kernel_rfl) (by as_aux_lemma => kernel_rfl) (by as_aux_lemma => kernel_rfl) (fun _ _ _ h => h) (Or.inl ⟨by rfl, ?_⟩) (by assumption) ?_
  rotate_left
  · (intro w hSw; (try dsimp only at hSw); go_simp); (try with_reducible rfl)
  simp only [List.getElem_toArray, List.getElem_cons_zero, List.getElem_cons_succ, Act.put, List.setIfInBounds_toArray, List.set_cons_zero, List.set_cons_succ]
  refine wpAnyH_take (i := 17) (v := ?_) rfl (by as_aux_lemma => kernel_rfl) (by as_aux_lemma => kernel_rfl) (by as_aux_lemma => kernel_rfl) (fun _ _ _ h => h) (Or.inl ⟨by rfl, ?_⟩) (by assumption) ?_
  rotate_left
  · (intro w hSw; (try dsimp only at hSw); go_simp); (try with_reducible rfl)
  simp only [List.getElem_toArray, List.getElem_cons_zero, List.getElem_cons_succ, Act.put, List.setIfInBounds_toArray, List.set_cons_zero, List.set_cons_succ]
  refine wpAnyH_take (i := 18) (v := ?_) rfl (by as_aux_lemma => kernel_rfl) (by as_aux_lemma => kernel_rfl) (by as_aux_lemma => kernel_rfl) (fun _ _ _ h => h) (Or.inl ⟨by rfl, ?_⟩) (by assumption) ?_
  rotate_left
  · (intro w hSw; (try dsimp only at hSw); go_simp); (try with_reducible rfl)
  simp only [List.getElem_toArray, List.getElem_cons_zero, List.getElem_cons_succ, Act.put, List.setIfInBounds_toArray, List.set_cons_zero, List.set_cons_succ]
  refine wpAnyH_take (i := 19) (v := ?_) rfl (by as_aux_lemma => kernel_rfl) (by as_aux_lemma => kernel_rfl) (by as_aux_lemma => kernel_rfl) (fun _ _ _ h => h) (Or.inl ⟨by rfl, ?_⟩) (by assumption) ?_
  rotate_left
  · (intro w hSw; (try dsimp only at hSw); go_simp); (try with_reducible rfl)
  simp only [List.getElem_toArray, List.getElem_cons_zero, List.getElem_cons_succ, Act.put, List.setIfInBounds_toArray, List.set_cons_zero, List.set_cons_succ]
  refine wpAnyH_done (by as_aux_lemma => kernel_rfl) ?_ _
  clear Bx_0 Bx_1 Bx_l
  replace Bx := Bx.ext Fr2
  replace Ba := Ba.ext Fr2
  replace Bb := Bb.ext Fr2
  have Er := E3.trans Fr2
  clear Fr2 hHeld
  skip
  obtain ⟨Ba_0, Ba_1⟩ := id Ba
  have Ba_l := World.block_lt_of_cell? _ _ Ba_0
  go_wp2_with fail
  refine (Ha.out _).mono ?_
  rintro _ w4 ⟨rfl, f4⟩
  clear Ba_0 Ba_1 Ba_l
  have e4 : Ext ur2 w4 := (Ext.refl ur2).trans f4
  replace Bx := Bx.ext e4
  replace Ba := Ba.ext e4
  replace Bb := Bb.ext e4
  have E4 : Ext w w4 := Er.trans e4
  clear f4
  go_wp2
  go_ret
  exact ⟨rfl, E4⟩
set_option maxRecDepth 100000 in
set_option maxHeartbeats 4000000 in
theorem tells_nob (w : World) (T0 : Tu w) (Kx Qx : Int) (hKx : -9223372036854775808 ≤ Kx ∧ Kx ≤ 9223372036854775807) (hQx : -9223372036854775808 ≤ Qx ∧ Qx ≤ 9223372036854775807) (Ka Qa : Int) (hKa : -9223372036854775808 ≤ Ka ∧ Ka ≤ 9223372036854775807) (hQa : -9223372036854775808 ≤ Qa ∧ Qa ≤ 9223372036854775807) (Kb Qb : Int) (hKb : -9223372036854775808 ≤ Kb ∧ Kb ≤ 9223372036854775807) (hQb : -9223372036854775808 ≤ Qb ∧ Qb ≤ 9223372036854775807) (n : Int) (hn : -9223372036854775808 ≤ n ∧ n ≤ 9223372036854775807) (e : Int) (ra : rightT Ka Qa = true) (rb : rightT Kb Qb = false) :
    Calls Tryd.prog 3 #[.agg #[.int .i64 Kx, .int .i64 Qx], .agg #[.int .i64 Ka, .int .i64 Qa], .agg #[.int .i64 Kb, .int .i64 Qb], .int .i64 n, .int .i64 e] w (RetE w (.bool true)) := by
  obtain ⟨s, hs⟩ : ∃ s, plSwap e = s := ⟨_, rfl⟩
  obtain ⟨c, hc⟩ : ∃ c, plCos e = c := ⟨_, rfl⟩
  obtain ⟨z, hz⟩ : ∃ z, plSin e = z := ⟨_, rfl⟩
  have HP := Lib.hid (fun w' (T' : Tu w') => tplace_lit w' T'.pl e s c z hs hc hz)
  have HRP := Lib.hid (fun w' => rplace_lit w' e s c z hs hc hz)
  obtain ⟨rx, hrx⟩ : ∃ r, rightT Kx Qx = r := ⟨_, rfl⟩
  have HX1 := Lib.hid (fun w' => tright_lit w' Kx Qx rx hrx hKx hQx)
  have HX2 := Lib.hid (fun w' => rright_lit w' Kx Qx rx hrx hKx hQx)
  have Ha := Lib.hid (fun w' => rright_lit w' Ka Qa true ra hKa hQa)
  have Hb := Lib.hid (fun w' => rright_lit w' Kb Qb false rb hKb hQb)
  clear hKx hQx hKa hQa hKb hQb hn hs hc hz hrx ra rb
  have T := Lib.hid T0
  clear T0
  go_enter Tryd.func3, Tryd.ntmps3
  go_wp2_with fail
  refine (headT_any _ (T.out.ext ((((Ext.refl w).alloc _).alloc _).alloc _))).mono ?_
  rintro _ w1 ⟨rfl, f1⟩
  have Bx : B2 w1 (w.heap.size) (.int .i64 Kx) (.int .i64 Qx) := B2.at ((((Ext.refl _).alloc _).alloc _).trans f1) (by simp)
  have Ba : B2 w1 (w.heap.size + 1) (.int .i64 Ka) (.int .i64 Qa) := B2.at (((Ext.refl _).alloc _).trans f1) (by simp)
  have Bb : B2 w1 (w.heap.size + 1 + 1) (.int .i64 Kb) (.int .i64 Qb) := B2.at ((Ext.refl _).trans f1) (by simp)
  have e1 : Ext w w1 := ((((Ext.refl w).alloc _).alloc _).alloc _).trans f1
  have E1 : Ext w w1 := e1
  clear f1
  obtain ⟨Bx_0, Bx_1⟩ := id Bx
  have Bx_l := World.block_lt_of_cell? _ _ Bx_0
  obtain ⟨Ba_0, Ba_1⟩ := id Ba
  have Ba_l := World.block_lt_of_cell? _ _ Ba_0
  obtain ⟨Bb_0, Bb_1⟩ := id Bb
  have Bb_l := World.block_lt_of_cell? _ _ Bb_0
  go_wp2_with fail
  refine (HP.out _ (T.out.ext (E1.trans (Ext.refl w1)))).mono ?_
  rintro _ w2 ⟨rfl, f2⟩
  clear Bx_0 Bx_1 Bx_l Ba_0 Ba_1 Ba_l Bb_0 Bb_1 Bb_l
  have e2 : Ext w1 w2 := (Ext.refl w1).trans f2
  replace Bx := Bx.ext e2
  replace Ba := Ba.ext e2
  replace Bb := Bb.ext e2
  have E2 : Ext w w2 := E1.trans e2
  clear f2
  go_wp2_with fail
  refine (HRP.out _).mono ?_
  rintro _ w3 ⟨rfl, f3⟩
  have e3 : Ext w2 w3 := (Ext.refl w2).trans f3
  replace Bx := Bx.ext e3
  replace Ba := Ba.ext e3
  replace Bb := Bb.ext e3
  have E3 : Ext w w3 := E2.trans e3
  clear f3
  obtain ⟨Bx_0, Bx_1⟩ := id Bx
  have Bx_l := World.block_lt_of_cell? _ _ Bx_0
  go_wp2
  refine wp_region_held_drew (S := (fun w' => (w'.cell? ⟨w.heap.size, 0, none⟩ = some (.int .i64 Kx) ∧ w'.cell? ⟨w.heap.size, 1, none⟩ = some (.int .i64 Qx)) ∧ (w'.cell? ⟨w.heap.size + 1, 0, none⟩ = some (.int .i64 Ka) ∧ w'.cell? ⟨w.heap.size + 1, 1, none⟩ = some (.int .i64 Qa)) ∧ (w'.cell? ⟨w.heap.size + 1 + 1, 0, none⟩ = some (.int .i64 Kb) ∧ w'.cell? ⟨w.heap.size + 1 + 1, 1, none⟩ = some (.int .i64 Qb)))) (by as_aux_lemma => kernel_rfl) ⟨b2 (Bx.ext (Ext.refl w3).drew), b2 (Ba.ext (Ext.refl w3).drew), b2 (Bb.ext (Ext.refl w3).drew)⟩ (fun hHeld => ?_)
  refine wpAnyH_take (i := 0) (v := ?_) rfl (by as_aux_lemma => kernel_rfl) (by as_aux_lemma => kernel_rfl) (by as_aux_lemma => kernel_rfl) (fun _ _ _ h => h) (Or.inl ⟨by rfl, ?_⟩) (by assumption) ?_
  rotate_left
  · (intro w hSw; (try dsimp only at hSw); go_simp); (try with_reducible rfl)
  simp only [List.getElem_toArray, List.getElem_cons_zero, Act.put, List.setIfInBounds_toArray, List.set_cons_zero, List.set_cons_succ]
  refine wpAnyH_take (i := 2) (v := ?_) rfl (by as_aux_lemma => kernel_rfl) (by as_aux_lemma => kernel_rfl) (by as_aux_lemma => kernel_rfl) (fun _ _ _ h => h) (Or.inl ⟨by rfl, ?_⟩) (by assumption) ?_
  rotate_left
  · (intro w hSw; (try dsimp only at hSw); go_simp); (try with_reducible rfl)
  simp only [List.getElem_toArray, List.getElem_cons_zero, List.getElem_cons_succ, Act.put, List.setIfInBounds_toArray, List.set_cons_zero, List.set_cons_succ]
  refine wpAnyH_ready (rs := [1]) (by as_aux_lemma => kernel_rfl) (by simp) ?_
  refine AllReadyH.cons rfl (fun K hK => ?_) AllReadyH.nil
  go_simp
  refine (HX1.out _).mono ?_
  rintro _ ur1 ⟨rfl, eur1⟩
  have Fr1 : Ext w3 ur1 := (Ext.refl w3).drew.trans eur1
  refine hK.out _ _ ⟨b2 (Bx.ext Fr1), b2 (Ba.ext Fr1), b2 (Bb.ext Fr1)⟩ (fun hHeld => ?_)
  clear hK K eur1
  refine wpAnyH_ready (rs := [3]) (by as_aux_lemma => kernel_rfl) (by simp) ?_
  refine AllReadyH.cons rfl (fun K hK => ?_) AllReadyH.nil
  go_simp
  refine (HX2.out _).mono ?_
  rintro _ ur2 ⟨rfl, eur2⟩
  have Fr2 : Ext w3 ur2 := Fr1.trans eur2
  refine hK.out _ _ ⟨b2 (Bx.ext Fr2), b2 (Ba.ext Fr2), b2 (Bb.ext Fr2)⟩ (fun hHeld => ?_)
  clear hK K eur2 Fr1
  refine wpAnyH_take (i := 4) (v := ?_) rfl (by as_aux_lemma => kernel_rfl) (by as_aux_lemma => kernel_rfl) (by as_aux_lemma => kernel_rfl) (fun _ _ _ h => h) (Or.inl ⟨by rfl, ?_⟩) (by assumption) ?_
  rotate_left
  · (intro w hSw; (try dsimp only at hSw); go_simp); (try with_reducible rfl)
  simp only [List.getElem_toArray, List.getElem_cons_zero, List.getElem_cons_succ, Act.put, List.setIfInBounds_toArray, List.set_cons_zero, List.set_cons_succ]
  refine wpAnyH_take (i := 5) (v := ?_) rfl (by as_aux_lemma => kernel_rfl) (by as_aux_lemma => kernel_rfl) (by as_aux_lemma => kernel_rfl) (fun _ _ _ h => h) (Or.inl ⟨by rfl, ?_⟩) (by assumption) ?_
  rotate_left
  · (intro w hSw; (try dsimp only at hSw); go_simp); (try with_reducible rfl)
  simp only [List.getElem_toArray, List.getElem_cons_zero, List.getElem_cons_succ, Act.put, List.setIfInBounds_toArray, List.set_cons_zero, List.set_cons_succ]
  refine wpAnyH_take (i := 6) (v := ?_) rfl (by as_aux_lemma => kernel_rfl) (by as_aux_lemma => kernel_rfl) (by as_aux_lemma => kernel_rfl) (fun _ _ _ h => h) (Or.inl ⟨by rfl, ?_⟩) (by assumption) ?_
  rotate_left
  · (intro w hSw; (try dsimp only at hSw); go_simp); (try with_reducible rfl)
  simp only [List.getElem_toArray, List.getElem_cons_zero, List.getElem_cons_succ, Act.put, List.setIfInBounds_toArray, List.set_cons_zero, List.set_cons_succ]
  refine wpAnyH_take (i := 7) (v := ?_) rfl (by as_aux_lemma => kernel_rfl) (by as_aux_lemma => kernel_rfl) (by as_aux_lemma => kernel_rfl) (fun _ _ _ h => h) (Or.inl ⟨by rfl, ?_⟩) (by assumption) ?_
  rotate_left
  · (intro w hSw; (try dsimp only at hSw); go_simp); (try with_reducible rfl)
  simp only [List.getElem_toArray, List.getElem_cons_zero, List.getElem_cons_succ, Act.put, List.setIfInBounds_toArray, List.set_cons_zero, List.set_cons_succ]
  refine wpAnyH_take (i := 8) (v := ?_) rfl (by as_aux_lemma => kernel_rfl) (by as_aux_lemma => kernel_rfl) (by as_aux_lemma => kernel_rfl) (fun _ _ _ h => h) (Or.inl ⟨by rfl, ?_⟩) (by assumption) ?_
  rotate_left
  · (intro w hSw; (try dsimp only at hSw); go_simp); (try with_reducible rfl)
  simp only [List.getElem_toArray, List.getElem_cons_zero, List.getElem_cons_succ, Act.put, List.setIfInBounds_toArray, List.set_cons_zero, List.set_cons_succ]
  refine wpAnyH_take (i := 9) (v := ?_) rfl (by as_aux_lemma => kernel_rfl) (by as_aux_lemma => kernel_rfl) (by as_aux_lemma => kernel_rfl) (fun _ _ _ h => h) (Or.inl ⟨by rfl, ?_⟩) (by assumption) ?_
  rotate_left
  · (intro w hSw; (try dsimp only at hSw); go_simp); (try with_reducible rfl)
  simp only [List.getElem_toArray, List.getElem_cons_zero, List.getElem_cons_succ, Act.put, List.setIfInBounds_toArray, List.set_cons_zero, List.set_cons_succ]
  refine wpAnyH_take (i := 10) (v := ?_) rfl (by as_aux_lemma => kernel_rfl) (by as_aux_lemma => kernel_rfl) (by as_aux_lemma => kernel_rfl) (fun _ _ _ h => h) (Or.inl ⟨by rfl, ?_⟩) (by assumption) ?_
  rotate_left
  · (intro w hSw; (try dsimp only at hSw); go_simp); (try with_reducible rfl)
  simp only [List.getElem_toArray, List.getElem_cons_zero, List.getElem_cons_succ, Act.put, List.setIfInBounds_toArray, List.set_cons_zero, List.set_cons_succ]
  refine wpAnyH_take (i := 11) (v := ?_) rfl (by as_aux_lemma => kernel_rfl) (by as_aux_lemma => kernel_rfl) (by as_aux_lemma => kernel_rfl) (fun _ _ _ h => h) (Or.inl ⟨by rfl, ?_⟩) (by assumption) ?_
  rotate_left
  · (intro w hSw; (try dsimp only at hSw); go_simp); (try with_reducible rfl)
  simp only [List.getElem_toArray, List.getElem_cons_zero, List.getElem_cons_succ, Act.put, List.setIfInBounds_toArray, List.set_cons_zero, List.set_cons_succ]
  refine wpAnyH_take (i := 12) (v := ?_) rfl (by as_aux_lemma => kernel_rfl) (by as_aux_lemma => kernel_rfl) (by as_aux_lemma => kernel_rfl) (fun _ _ _ h => h) (Or.inl ⟨by rfl, ?_⟩) (by assumption) ?_
  rotate_left
  · (intro w hSw; (try dsimp only at hSw); go_simp); (try with_reducible rfl)
  simp only [List.getElem_toArray, List.getElem_cons_zero, List.getElem_cons_succ, Act.put, List.setIfInBounds_toArray, List.set_cons_zero, List.set_cons_succ]
  refine wpAnyH_take (i := 13) (v := ?_) rfl (by as_aux_lemma => kernel_rfl) (by as_aux_lemma => kernel_rfl) (by as_aux_lemma => kernel_rfl) (fun _ _ _ h => h) (Or.inl ⟨by rfl, ?_⟩) (by assumption) ?_
  rotate_left
  · (intro w hSw; (try dsimp only at hSw); go_simp); (try with_reducible rfl)
  simp only [List.getElem_toArray, List.getElem_cons_zero, List.getElem_cons_succ, Act.put, List.setIfInBounds_toArray, List.set_cons_zero, List.set_cons_succ]
  refine wpAnyH_take (i := 14) (v := ?_) rfl (by as_aux_lemma => kernel_rfl) (by as_aux_lemma => kernel_rfl) (by as_aux_lemma => kernel_rfl) (fun _ _ _ h => h) (Or.inl ⟨by rfl, ?_⟩) (by assumption) ?_
  rotate_left
  · (intro w hSw; (try dsimp only at hSw); go_simp); (try with_reducible rfl)
  simp only [List.getElem_toArray, List.getElem_cons_zero, List.getElem_cons_succ, Act.put, List.setIfInBounds_toArray, List.set_cons_zero, List.set_cons_succ]
  refine wpAnyH_take (i := 15) (v := ?_) rfl (by as_aux_lemma => kernel_rfl) (by as_aux_lemma => kernel_rfl) (by as_aux_lemma => kernel_rfl) (fun _ _ _ h => h) (Or.inl ⟨by rfl, ?_⟩) (by assumption) ?_
  rotate_left
  · (intro w hSw; (try dsimp only at hSw); go_simp); (try with_reducible rfl)
  simp only [List.getElem_toArray, List.getElem_cons_zero, List.getElem_cons_succ, Act.put, List.setIfInBounds_toArray, List.set_cons_zero, List.set_cons_succ]
  refine wpAnyH_take (i := 16) (v := ?_) rfl (by as_aux_lemma => kernel_rfl) (by as_aux_lemma => kernel_rfl) (by as_aux_lemma => kernel_rfl) (fun _ _ _ h => h) (Or.inl ⟨by rfl, ?_⟩) (by assumption) ?_
  rotate_left
  · (intro w hSw; (try dsimp only at hSw); go_simp); (try with_reducible rfl)
  simp only [List.getElem_toArray, List.getElem_cons_zero, List.getElem_cons_succ, Act.put, List.setIfInBounds_toArray, List.set_cons_zero, List.set_cons_succ]
  refine wpAnyH_take (i := 17) (v := ?_) rfl (by as_aux_lemma => kernel_rfl) (by as_aux_lemma => kernel_rfl) (by as_aux_lemma => kernel_rfl) (fun _ _ _ h => h) (Or.inl ⟨by rfl, ?_⟩) (by assumption) ?_
  rotate_left
  · (intro w hSw; (try dsimp only at hSw); go_simp); (try with_reducible rfl)
  simp only [List.getElem_toArray, List.getElem_cons_zero, List.getElem_cons_succ, Act.put, List.setIfInBounds_toArray, List.set_cons_zero, List.set_cons_succ]
  refine wpAnyH_take (i := 18) (v := ?_) rfl (by as_aux_lemma => kernel_rfl) (by as_aux_lemma => kernel_rfl) (by as_aux_lemma => kernel_rfl) (fun _ _ _ h => h) (Or.inl ⟨by rfl, ?_⟩) (by assumption) ?_
  rotate_left
  · (intro w hSw; (try dsimp only at hSw); go_simp); (try with_reducible rfl)
  simp only [List.getElem_toArray, List.getElem_cons_zero, List.getElem_cons_succ, Act.put, List.setIfInBounds_toArray, List.set_cons_zero, List.set_cons_succ]
  refine wpAnyH_take (i := 19) (v := ?_) rfl (by as_aux_lemma => kernel_rfl) (by as_aux_lemma => kernel_rfl) (by as_aux_lemma => kernel_rfl) (fun _ _ _ h => h) (Or.inl ⟨by rfl, ?_⟩) (by assumption) ?_
  rotate_left
  · (intro w hSw; (try dsimp only at hSw); go_simp); (try with_reducible rfl)
  simp only [List.getElem_toArray, List.getElem_cons_zero, List.getElem_cons_succ, Act.put, List.setIfInBounds_toArray, List.set_cons_zero, List.set_cons_succ]
  refine wpAnyH_done (by as_aux_lemma => kernel_rfl) ?_ _
  clear Bx_0 Bx_1 Bx_l
  replace Bx := Bx.ext Fr2
  replace Ba := Ba.ext Fr2
  replace Bb := Bb.ext Fr2
  have Er := E3.trans Fr2
  clear Fr2 hHeld
  skip
  obtain ⟨Ba_0, Ba_1⟩ := id Ba
  have Ba_l := World.block_lt_of_cell? _ _ Ba_0
  go_wp2_with fail
  refine (Ha.out _).mono ?_
  rintro _ w4 ⟨rfl, f4⟩
  clear Ba_0 Ba_1 Ba_l
  have e4 : Ext ur2 w4 := (Ext.refl ur2).trans f4
  replace Bx := Bx.ext e4
  replace Ba := Ba.ext e4
  replace Bb := Bb.ext e4
  have E4 : Ext w w4 := Er.trans e4
  clear f4
  obtain ⟨Bb_0, Bb_1⟩ := id Bb
  have Bb_l := World.block_lt_of_cell? _ _ Bb_0
  go_wp2_with fail
  refine (Hb.out _).mono ?_
  rintro _ w5 ⟨rfl, f5⟩
  clear Bb_0 Bb_1 Bb_l
  have e5 : Ext w4 w5 := (Ext.refl w4).trans f5
  replace Bx := Bx.ext e5
  replace Ba := Ba.ext e5
  replace Bb := Bb.ext e5
  have E5 : Ext w w5 := E4.trans e5
  clear f5
  go_wp2
  go_ret
  exact ⟨rfl, E5⟩
set_option maxRecDepth 100000 in
set_option maxHeartbeats 4000000 in
theorem tells_in (w : World) (T0 : Tu w) (Kx Qx : Int) (hKx : -9223372036854775808 ≤ Kx ∧ Kx ≤ 9223372036854775807) (hQx : -9223372036854775808 ≤ Qx ∧ Qx ≤ 9223372036854775807) (Ka : Int) (Qa : Nat) (hKa : -1099511627776 ≤ Ka ∧ Ka ≤ 1099511627776) (hQa : Qa ≤ 40) (Kb : Int) (Qb : Nat) (hKb : -1099511627776 ≤ Kb ∧ Kb ≤ 1099511627776) (hQb : Qb ≤ 40) (n : Int) (hn : -9223372036854775808 ≤ n ∧ n ≤ 9223372036854775807) (e : Int) (hr : -1048576 ≤ n ∧ n ≤ 1048576) :
    Calls Tryd.prog 3 #[.agg #[.int .i64 Kx, .int .i64 Qx], .agg #[.int .i64 Ka, .int .i64 Qa], .agg #[.int .i64 Kb, .int .i64 Qb], .int .i64 n, .int .i64 e] w (RetE w (.bool true)) := by
  obtain ⟨s, hs⟩ : ∃ s, plSwap e = s := ⟨_, rfl⟩
  obtain ⟨c, hc⟩ : ∃ c, plCos e = c := ⟨_, rfl⟩
  obtain ⟨z, hz⟩ : ∃ z, plSin e = z := ⟨_, rfl⟩
  have HP := Lib.hid (fun w' (T' : Tu w') => tplace_lit w' T'.pl e s c z hs hc hz)
  have HRP := Lib.hid (fun w' => rplace_lit w' e s c z hs hc hz)
  obtain ⟨rx, hrx⟩ : ∃ r, rightT Kx Qx = r := ⟨_, rfl⟩
  have HX1 := Lib.hid (fun w' => tright_lit w' Kx Qx rx hrx hKx hQx)
  have HX2 := Lib.hid (fun w' => rright_lit w' Kx Qx rx hrx hKx hQx)
  have ra : rightT Ka Qa = true := rightT_iff.2 (by omega)
  have Ha := Lib.hid (fun w' => rright_lit w' Ka Qa true ra (by omega) (by omega))
  have rb : rightT Kb Qb = true := rightT_iff.2 (by omega)
  have Hb := Lib.hid (fun w' => rright_lit w' Kb Qb true rb (by omega) (by omega))
  have va := tv_range Ka Qa
  have vb := tv_range Kb Qb
  obtain ⟨q0, q1, q2, q3⟩ := rest_range va.1 va.2
  obtain ⟨kr, qr, h⟩ : ∃ k q, Fm (rest (tv Ka Qa)) k q := fm_there q2 (by omega)
  obtain ⟨ki, qi, hi⟩ := fm_there va.1 va.2
  obtain ⟨kj, qj, hj⟩ := fm_there vb.1 vb.2
  obtain ⟨f, hf⟩ : ∃ f, eighth (tv Ka Qa) = f := ⟨_, rfl⟩
  obtain ⟨kd, qd, hd⟩ : ∃ k q, Fm ((tv Ka Qa + tv Kb Qb) % 1099511627776) k q := fm_there (by omega) (by omega)
  obtain ⟨kf, qf, hfl⟩ : ∃ k q, Fm ((-tv Ka Qa) % 1099511627776) k q := fm_there (by omega) (by omega)
  obtain ⟨km, qm, hm⟩ : ∃ k q, Fm (n * tv Ka Qa % 1099511627776) k q := fm_there (by omega) (by omega)
  have HS1 := Lib.hid (fun w' (T' : Tu w') => tsplit_any w' T'.tb Ka kr f Qa qr hKa hQa hf h)
  have HS2 := Lib.hid (fun w' => rsplit_any w' Ka kr f Qa qr (by omega) hQa hf h)
  have HF1 := Lib.hid (fun w' (T' : Tu w') => tform_any w' T'.tb Ka ki Qa qi hKa hQa hi)
  have HF2 := Lib.hid (fun w' => rform_any w' Ka ki Qa qi (by omega) hQa hi)
  have HA1 := Lib.hid (fun w' (T' : Tu w') => tadd_any w' T'.tb Ka Kb kd Qa Qb qd hKa hKb hQa hQb hd)
  have HA2 := Lib.hid (fun w' => radd2_any w' Ka Kb ki kj kd Qa Qb qi qj qd (by omega) (by omega) hQa hQb hi hj hd)
  have HL1 := Lib.hid (fun w' (T' : Tu w') => tflip_any w' T'.tb Ka kf Qa qf hKa hQa hfl)
  have HL2 := Lib.hid (fun w' => rflip2_any w' Ka kf Qa qf (by omega) hQa hfl)
  have HM1 := Lib.hid (fun w' (T' : Tu w') => ttimes_any w' T'.tb Ka n km Qa qm hKa hQa hm)
  have HM2 := Lib.hid (fun w' => rtimes_any w' Ka n ki km Qa qi qm (by omega) hQa hn hi hm)
  have HJ := Lib.hid (fun w' (T' : Tu w') => tjoin_any w' T'.tb (tv Ka Qa) f kr ki qr qi va hf h hi)
  have g1 : ¬ n < -1048576 := by omega
  have g2 : ¬ 1048576 < n := by omega
  have g1d : decide (n < -1048576) = false := decide_eq_false g1
  have g2d : decide (1048576 < n) = false := decide_eq_false g2
  clear va vb q0 q1 q2 q3 h hi hj hf hd hfl hm hKx hQx hKa hQa hKb hQb hs hc hz hrx ra rb
  have T := Lib.hid T0
  clear T0
  go_enter Tryd.func3, Tryd.ntmps3
  go_wp2_with fail
  refine (headT_any _ (T.out.ext ((((Ext.refl w).alloc _).alloc _).alloc _))).mono ?_
  rintro _ w1 ⟨rfl, f1⟩
  have Bx : B2 w1 (w.heap.size) (.int .i64 Kx) (.int .i64 Qx) := B2.at ((((Ext.refl _).alloc _).alloc _).trans f1) (by simp)
  have Ba : B2 w1 (w.heap.size + 1) (.int .i64 Ka) (.int .i64 (Qa : Int)) := B2.at (((Ext.refl _).alloc _).trans f1) (by simp)
  have Bb : B2 w1 (w.heap.size + 1 + 1) (.int .i64 Kb) (.int .i64 (Qb : Int)) := B2.at ((Ext.refl _).trans f1) (by simp)
  have e1 : Ext w w1 := ((((Ext.refl w).alloc _).alloc _).alloc _).trans f1
  have E1 : Ext w w1 := e1
  clear f1
  obtain ⟨Bx_0, Bx_1⟩ := id Bx
  have Bx_l := World.block_lt_of_cell? _ _ Bx_0
  obtain ⟨Ba_0, Ba_1⟩ := id Ba
  have Ba_l := World.block_lt_of_cell? _ _ Ba_0
  obtain ⟨Bb_0, Bb_1⟩ := id Bb
  have Bb_l := World.block_lt_of_cell? _ _ Bb_0
  go_wp2_with fail
  refine (HP.out _ (T.out.ext (E1.trans (Ext.refl w1)))).mono ?_
  rintro _ w2 ⟨rfl, f2⟩
  clear Bx_0 Bx_1 Bx_l Ba_0 Ba_1 Ba_l Bb_0 Bb_1 Bb_l
  have e2 : Ext w1 w2 := (Ext.refl w1).trans f2
  replace Bx := Bx.ext e2
  replace Ba := Ba.ext e2
  replace Bb := Bb.ext e2
  have E2 : Ext w w2 := E1.trans e2
  clear f2
  go_wp2_with fail
  refine (HRP.out _).mono ?_
  rintro _ w3 ⟨rfl, f3⟩
  have e3 : Ext w2 w3 := (Ext.refl w2).trans f3
  replace Bx := Bx.ext e3
  replace Ba := Ba.ext e3
  replace Bb := Bb.ext e3
  have E3 : Ext w w3 := E2.trans e3
  clear f3
  obtain ⟨Bx_0, Bx_1⟩ := id Bx
  have Bx_l := World.block_lt_of_cell? _ _ Bx_0
  go_wp2
  refine wp_region_held_drew (S := (fun w' => (w'.cell? ⟨w.heap.size, 0, none⟩ = some (.int .i64 Kx) ∧ w'.cell? ⟨w.heap.size, 1, none⟩ = some (.int .i64 Qx)) ∧ (w'.cell? ⟨w.heap.size + 1, 0, none⟩ = some (.int .i64 Ka) ∧ w'.cell? ⟨w.heap.size + 1, 1, none⟩ = some (.int .i64 (Qa : Int))) ∧ (w'.cell? ⟨w.heap.size + 1 + 1, 0, none⟩ = some (.int .i64 Kb) ∧ w'.cell? ⟨w.heap.size + 1 + 1, 1, none⟩ = some (.int .i64 (Qb : Int))))) (by as_aux_lemma => kernel_rfl) ⟨b2 (Bx.ext (Ext.refl w3).drew), b2 (Ba.ext (Ext.refl w3).drew), b2 (Bb.ext (Ext.refl w3).drew)⟩ (fun hHeld => ?_)
  refine wpAnyH_take (i := 0) (v := ?_) rfl (by as_aux_lemma => kernel_rfl) (by as_aux_lemma => kernel_rfl) (by as_aux_lemma => kernel_rfl) (fun _ _ _ h => h) (Or.inl ⟨by rfl, ?_⟩) (by assumption) ?_
  rotate_left
  · (intro w hSw; (try dsimp only at hSw); go_simp); (try with_reducible rfl)
  simp only [List.getElem_toArray, List.getElem_cons_zero, Act.put, List.setIfInBounds_toArray, List.set_cons_zero, List.set_cons_succ]
  refine wpAnyH_take (i := 2) (v := ?_) rfl (by as_aux_lemma => kernel_rfl) (by as_aux_lemma => kernel_rfl) (by as_aux_lemma => kernel_rfl) (fun _ _ _ h => h) (Or.inl ⟨by rfl, ?_⟩) (by assumption) ?_
  rotate_left
  · (intro w hSw; (try dsimp only at hSw); go_simp); (try with_reducible rfl)
  simp only [List.getElem_toArray, List.getElem_cons_zero, List.getElem_cons_succ, Act.put, List.setIfInBounds_toArray, List.set_cons_zero, List.set_cons_succ]
  refine wpAnyH_ready (rs := [1]) (by as_aux_lemma => kernel_rfl) (by simp) ?_
  refine AllReadyH.cons rfl (fun K hK => ?_) AllReadyH.nil
  go_simp
  refine (HX1.out _).mono ?_
  rintro _ ur1 ⟨rfl, eur1⟩
  have Fr1 : Ext w3 ur1 := (Ext.refl w3).drew.trans eur1
  refine hK.out _ _ ⟨b2 (Bx.ext Fr1), b2 (Ba.ext Fr1), b2 (Bb.ext Fr1)⟩ (fun hHeld => ?_)
  clear hK K eur1
  refine wpAnyH_ready (rs := [3]) (by as_aux_lemma => kernel_rfl) (by simp) ?_
  refine AllReadyH.cons rfl (fun K hK => ?_) AllReadyH.nil
  go_simp
  refine (HX2.out _).mono ?_
  rintro _ ur2 ⟨rfl, eur2⟩
  have Fr2 : Ext w3 ur2 := Fr1.trans eur2
  refine hK.out _ _ ⟨b2 (Bx.ext Fr2), b2 (Ba.ext Fr2), b2 (Bb.ext Fr2)⟩ (fun hHeld => ?_)
  clear hK K eur2 Fr1
  refine wpAnyH_take (i := 4) (v := ?_) rfl (by as_aux_lemma => kernel_rfl) (by as_aux_lemma => kernel_rfl) (by as_aux_lemma => kernel_rfl) (fun _ _ _ h => h) (Or.inl ⟨by rfl, ?_⟩) (by assumption) ?_
  rotate_left
  · (intro w hSw; (try dsimp only at hSw); go_simp); (try with_reducible rfl)
  simp only [List.getElem_toArray, List.getElem_cons_zero, List.getElem_cons_succ, Act.put, List.setIfInBounds_toArray, List.set_cons_zero, List.set_cons_succ]
  refine wpAnyH_take (i := 5) (v := ?_) rfl (by as_aux_lemma => kernel_rfl) (by as_aux_lemma => kernel_rfl) (by as_aux_lemma => kernel_rfl) (fun _ _ _ h => h) (Or.inl ⟨by rfl, ?_⟩) (by assumption) ?_
  rotate_left
  · (intro w hSw; (try dsimp only at hSw); go_simp); (try with_reducible rfl)
  simp only [List.getElem_toArray, List.getElem_cons_zero, List.getElem_cons_succ, Act.put, List.setIfInBounds_toArray, List.set_cons_zero, List.set_cons_succ]
  refine wpAnyH_take (i := 6) (v := ?_) rfl (by as_aux_lemma => kernel_rfl) (by as_aux_lemma => kernel_rfl) (by as_aux_lemma => kernel_rfl) (fun _ _ _ h => h) (Or.inl ⟨by rfl, ?_⟩) (by assumption) ?_
  rotate_left
  · (intro w hSw; (try dsimp only at hSw); go_simp); (try with_reducible rfl)
  simp only [List.getElem_toArray, List.getElem_cons_zero, List.getElem_cons_succ, Act.put, List.setIfInBounds_toArray, List.set_cons_zero, List.set_cons_succ]
  refine wpAnyH_take (i := 7) (v := ?_) rfl (by as_aux_lemma => kernel_rfl) (by as_aux_lemma => kernel_rfl) (by as_aux_lemma => kernel_rfl) (fun _ _ _ h => h) (Or.inl ⟨by rfl, ?_⟩) (by assumption) ?_
  rotate_left
  · (intro w hSw; (try dsimp only at hSw); go_simp); (try with_reducible rfl)
  simp only [List.getElem_toArray, List.getElem_cons_zero, List.getElem_cons_succ, Act.put, List.setIfInBounds_toArray, List.set_cons_zero, List.set_cons_succ]
  refine wpAnyH_take (i := 8) (v := ?_) rfl (by as_aux_lemma => kernel_rfl) (by as_aux_lemma => kernel_rfl) (by as_aux_lemma => kernel_rfl) (fun _ _ _ h => h) (Or.inl ⟨by rfl, ?_⟩) (by assumption) ?_
  rotate_left
  · (intro w hSw; (try dsimp only at hSw); go_simp); (try with_reducible rfl)
  simp only [List.getElem_toArray, List.getElem_cons_zero, List.getElem_cons_succ, Act.put, List.setIfInBounds_toArray, List.set_cons_zero, List.set_cons_succ]
  refine wpAnyH_take (i := 9) (v := ?_) rfl (by as_aux_lemma => kernel_rfl) (by as_aux_lemma => kernel_rfl) (by as_aux_lemma => kernel_rfl) (fun _ _ _ h => h) (Or.inl ⟨by rfl, ?_⟩) (by assumption) ?_
  rotate_left
  · (intro w hSw; (try dsimp only at hSw); go_simp); (try with_reducible rfl)
  simp only [List.getElem_toArray, List.getElem_cons_zero, List.getElem_cons_succ, Act.put, List.setIfInBounds_toArray, List.set_cons_zero, List.set_cons_succ]
  refine wpAnyH_take (i := 10) (v := ?_) rfl (by as_aux_lemma => kernel_rfl) (by as_aux_lemma => kernel_rfl) (by as_aux_lemma => kernel_rfl) (fun _ _ _ h => h) (Or.inl ⟨by rfl, ?_⟩) (by assumption) ?_
  rotate_left
  · (intro w hSw; (try dsimp only at hSw); go_simp); (try with_reducible rfl)
  simp only [List.getElem_toArray, List.getElem_cons_zero, List.getElem_cons_succ, Act.put, List.setIfInBounds_toArray, List.set_cons_zero, List.set_cons_succ]
  refine wpAnyH_take (i := 11) (v := ?_) rfl (by as_aux_lemma => kernel_rfl) (by as_aux_lemma => kernel_rfl) (by as_aux_lemma => kernel_rfl) (fun _ _ _ h => h) (Or.inl ⟨by rfl, ?_⟩) (by assumption) ?_
  rotate_left
  · (intro w hSw; (try dsimp only at hSw); go_simp); (try with_reducible rfl)
  simp only [List.getElem_toArray, List.getElem_cons_zero, List.getElem_cons_succ, Act.put, List.setIfInBounds_toArray, List.set_cons_zero, List.set_cons_succ]
  refine wpAnyH_take (i := 12) (v := ?_) rfl (by as_aux_lemma => kernel_rfl) (by as_aux_lemma => kernel_rfl) (by as_aux_lemma => kernel_rfl) (fun _ _ _ h => h) (Or.inl ⟨by rfl, ?_⟩) (by assumption) ?_
  rotate_left
  · (intro w hSw; (try dsimp only at hSw); go_simp); (try with_reducible rfl)
  simp only [List.getElem_toArray, List.getElem_cons_zero, List.getElem_cons_succ, Act.put, List.setIfInBounds_toArray, List.set_cons_zero, List.set_cons_succ]
  refine wpAnyH_take (i := 13) (v := ?_) rfl (by as_aux_lemma => kernel_rfl) (by as_aux_lemma => kernel_rfl) (by as_aux_lemma => kernel_rfl) (fun _ _ _ h => h) (Or.inl ⟨by rfl, ?_⟩) (by assumption) ?_
  rotate_left
  · (intro w hSw; (try dsimp only at hSw); go_simp); (try with_reducible rfl)
  simp only [List.getElem_toArray, List.getElem_cons_zero, List.getElem_cons_succ, Act.put, List.setIfInBounds_toArray, List.set_cons_zero, List.set_cons_succ]
  refine wpAnyH_take (i := 14) (v := ?_) rfl (by as_aux_lemma => kernel_rfl) (by as_aux_lemma => kernel_rfl) (by as_aux_lemma => kernel_rfl) (fun _ _ _ h => h) (Or.inl ⟨by rfl, ?_⟩) (by assumption) ?_
  rotate_left
  · (intro w hSw; (try dsimp only at hSw); go_simp); (try with_reducible rfl)
  simp only [List.getElem_toArray, List.getElem_cons_zero, List.getElem_cons_succ, Act.put, List.setIfInBounds_toArray, List.set_cons_zero, List.set_cons_succ]
  refine wpAnyH_take (i := 15) (v := ?_) rfl (by as_aux_lemma => kernel_rfl) (by as_aux_lemma => kernel_rfl) (by as_aux_lemma => kernel_rfl) (fun _ _ _ h => h) (Or.inl ⟨by rfl, ?_⟩) (by assumption) ?_
  rotate_left
  · (intro w hSw; (try dsimp only at hSw); go_simp); (try with_reducible rfl)
  simp only [List.getElem_toArray, List.getElem_cons_zero, List.getElem_cons_succ, Act.put, List.setIfInBounds_toArray, List.set_cons_zero, List.set_cons_succ]
  refine wpAnyH_take (i := 16) (v := ?_) rfl (by as_aux_lemma => kernel_rfl) (by as_aux_lemma => kernel_rfl) (by as_aux_lemma => kernel_rfl) (fun _ _ _ h => h) (Or.inl ⟨by rfl, ?_⟩) (by assumption) ?_
  rotate_left
  · (intro w hSw; (try dsimp only at hSw); go_simp); (try with_reducible rfl)
  simp only [List.getElem_toArray, List.getElem_cons_zero, List.getElem_cons_succ, Act.put, List.setIfInBounds_toArray, List.set_cons_zero, List.set_cons_succ]
  refine wpAnyH_take (i := 17) (v := ?_) rfl (by as_aux_lemma => kernel_rfl) (by as_aux_lemma => kernel_rfl) (by as_aux_lemma => kernel_rfl) (fun _ _ _ h => h) (Or.inl ⟨by rfl, ?_⟩) (by assumption) ?_
  rotate_left
  · (intro w hSw; (try dsimp only at hSw); go_simp); (try with_reducible rfl)
  simp only [List.getElem_toArray, List.getElem_cons_zero, List.getElem_cons_succ, Act.put, List.setIfInBounds_toArray, List.set_cons_zero, List.set_cons_succ]
  refine wpAnyH_take (i := 18) (v := ?_) rfl (by as_aux_lemma => kernel_rfl) (by as_aux_lemma => kernel_rfl) (by as_aux_lemma => kernel_rfl) (fun _ _ _ h => h) (Or.inl ⟨by rfl, ?_⟩) (by assumption) ?_
  rotate_left
  · (intro w hSw; (try dsimp only at hSw); go_simp); (try with_reducible rfl)
  simp only [List.getElem_toArray, List.getElem_cons_zero, List.getElem_cons_succ, Act.put, List.setIfInBounds_toArray, List.set_cons_zero, List.set_cons_succ]
  refine wpAnyH_take (i := 19) (v := ?_) rfl (by as_aux_lemma => kernel_rfl) (by as_aux_lemma => kernel_rfl) (by as_aux_lemma => kernel_rfl) (fun _ _ _ h => h) (Or.inl ⟨by rfl, ?_⟩) (by assumption) ?_
  rotate_left
  · (intro w hSw; (try dsimp only at hSw); go_simp); (try with_reducible rfl)
  simp only [List.getElem_toArray, List.getElem_cons_zero, List.getElem_cons_succ, Act.put, List.setIfInBounds_toArray, List.set_cons_zero, List.set_cons_succ]
  refine wpAnyH_done (by as_aux_lemma => kernel_rfl) ?_ _
  clear Bx_0 Bx_1 Bx_l
  replace Bx := Bx.ext Fr2
  replace Ba := Ba.ext Fr2
  replace Bb := Bb.ext Fr2
  have Er := E3.trans Fr2
  clear Fr2 hHeld
  obtain ⟨Ba_0, Ba_1⟩ := id Ba
  have Ba_l := World.block_lt_of_cell? _ _ Ba_0
  go_wp2_with fail
  refine (Ha.out _).mono ?_
  rintro _ w4 ⟨rfl, f4⟩
  clear Ba_0 Ba_1 Ba_l
  have e4 : Ext ur2 w4 := (Ext.refl ur2).trans f4
  replace Bx := Bx.ext e4
  replace Ba := Ba.ext e4
  replace Bb := Bb.ext e4
  have E4 : Ext w w4 := Er.trans e4
  clear f4
  obtain ⟨Bb_0, Bb_1⟩ := id Bb
  have Bb_l := World.block_lt_of_cell? _ _ Bb_0
  go_wp2_with fail
  refine (Hb.out _).mono ?_
  rintro _ w5 ⟨rfl, f5⟩
  clear Bb_0 Bb_1 Bb_l
  have e5 : Ext w4 w5 := (Ext.refl w4).trans f5
  replace Bx := Bx.ext e5
  replace Ba := Ba.ext e5
  replace Bb := Bb.ext e5
  have E5 : Ext w w5 := E4.trans e5
  clear f5
  obtain ⟨Ba_0, Ba_1⟩ := id Ba
  have Ba_l := World.block_lt_of_cell? _ _ Ba_0
  go_wp2_with fail
  refine (HS1.out _ (T.out.ext (E5.trans (Ext.refl w5)))).mono ?_
  rintro _ w6 ⟨rfl, f6⟩
  clear Ba_0 Ba_1 Ba_l
  have e6 : Ext w5 w6 := (Ext.refl w5).trans f6
  replace Bx := Bx.ext e6
  replace Ba := Ba.ext e6
  replace Bb := Bb.ext e6
  have E6 : Ext w w6 := E5.trans e6
  clear f6
  obtain ⟨Ba_0, Ba_1⟩ := id Ba
  have Ba_l := World.block_lt_of_cell? _ _ Ba_0
  go_wp2_with fail
  refine (HS2.out _).mono ?_
  rintro _ w7 ⟨rfl, f7⟩
  clear Ba_0 Ba_1 Ba_l
  have By : B3 w7 (w6.heap.size) (.int .i64 f) (.int .i64 kr) (.int .i64 (qr : Int)) := B3.at ((Ext.refl _).trans f7) (by simp)
  have e7 : Ext w6 w7 := ((Ext.refl w6).alloc _).trans f7
  replace Bx := Bx.ext e7
  replace Ba := Ba.ext e7
  replace Bb := Bb.ext e7
  have E7 : Ext w w7 := E6.trans e7
  clear f7
  go_wp2
  have Bz : B3 (w7.alloc (.cells #[.int .i64 f, .int .i64 kr, .int .i64 (qr : Int)] 29)) w7.heap.size (.int .i64 f) (.int .i64 kr) (.int .i64 (qr : Int)) := B3.at (Ext.refl _) rfl
  have eV1 : Ext w7 (w7.alloc (.cells #[.int .i64 f, .int .i64 kr, .int .i64 (qr : Int)] 29)) := (Ext.refl _).alloc _
  replace Bx := Bx.ext eV1
  replace Ba := Ba.ext eV1
  replace Bb := Bb.ext eV1
  replace By := By.ext eV1
  have EV1 := E7.trans eV1
  clear eV1
  generalize hgen : (w7.alloc (.cells #[.int .i64 f, .int .i64 kr, .int .i64 (qr : Int)] 29)) = V1 at *
  clear hgen
  obtain ⟨Ba_0, Ba_1⟩ := id Ba
  have Ba_l := World.block_lt_of_cell? _ _ Ba_0
  obtain ⟨Bb_0, Bb_1⟩ := id Bb
  have Bb_l := World.block_lt_of_cell? _ _ Bb_0
  obtain ⟨By_0, By_1, By_2⟩ := id By
  have By_l := World.block_lt_of_cell? _ _ By_0
  obtain ⟨Bz_0, Bz_1, Bz_2⟩ := id Bz
  have Bz_l := World.block_lt_of_cell? _ _ Bz_0
  refine wp_region_held_drew (S := (fun w' => (w'.cell? ⟨w.heap.size, 0, none⟩ = some (.int .i64 Kx) ∧ w'.cell? ⟨w.heap.size, 1, none⟩ = some (.int .i64 Qx)) ∧ (w'.cell? ⟨w.heap.size + 1, 0, none⟩ = some (.int .i64 Ka) ∧ w'.cell? ⟨w.heap.size + 1, 1, none⟩ = some (.int .i64 (Qa : Int))) ∧ (w'.cell? ⟨w.heap.size + 1 + 1, 0, none⟩ = some (.int .i64 Kb) ∧ w'.cell? ⟨w.heap.size + 1 + 1, 1, none⟩ = some (.int .i64 (Qb : Int))) ∧ (w'.cell? ⟨w6.heap.size, 0, none⟩ = some (.int .i64 f) ∧ w'.cell? ⟨w6.heap.size, 1, none⟩ = some (.int .i64 kr) ∧ w'.cell? ⟨w6.heap.size, 2, none⟩ = some (.int .i64 (qr : Int))) ∧ (w'.cell? ⟨w7.heap.size, 0, none⟩ = some (.int .i64 f) ∧ w'.cell? ⟨w7.heap.size, 1, none⟩ = some (.int .i64 kr) ∧ w'.cell? ⟨w7.heap.size, 2, none⟩ = some (.int .i64 (qr : Int))))) (by as_aux_lemma => kernel_rfl) ⟨b2 (Bx.ext (Ext.refl V1).drew), b2 (Ba.ext (Ext.refl V1).drew), b2 (Bb.ext (Ext.refl V1).drew), b3 (By.ext (Ext.refl V1).drew), b3 (Bz.ext (Ext.refl V1).drew)⟩ (fun hHeld => ?_)
  refine wpAnyH_take (i := 0) (v := ?_) rfl (by as_aux_lemma => kernel_rfl) (by as_aux_lemma => kernel_rfl) (by as_aux_lemma => kernel_rfl) (fun _ _ _ h => h) (Or.inl ⟨by rfl, ?_⟩) (by assumption) ?_
  rotate_left
  · (intro w hSw; (try dsimp only at hSw); go_simp); (try with_reducible rfl)
  simp only [List.getElem_toArray, List.getElem_cons_zero, Act.put, List.setIfInBounds_toArray, List.set_cons_zero, List.set_cons_succ]
  refine wpAnyH_take (i := 1) (v := ?_) rfl (by as_aux_lemma => kernel_rfl) (by as_aux_lemma => kernel_rfl) (by as_aux_lemma => kernel_rfl) (fun _ _ _ h => h) (Or.inl ⟨by rfl, ?_⟩) (by assumption) ?_
  rotate_left
  · (intro w hSw; (try dsimp only at hSw); go_simp); (try with_reducible rfl)
  simp only [List.getElem_toArray, List.getElem_cons_zero, List.getElem_cons_succ, Act.put, List.setIfInBounds_toArray, List.set_cons_zero, List.set_cons_succ]
  refine wpAnyH_take (i := 2) (v := ?_) rfl (by as_aux_lemma => kernel_rfl) (by as_aux_lemma => kernel_rfl) (by as_aux_lemma => kernel_rfl) (fun _ _ _ h => h) (Or.inl ⟨by rfl, ?_⟩) (by assumption) ?_
  rotate_left
  · (intro w hSw; (try dsimp only at hSw); go_simp); (try with_reducible rfl)
  simp only [List.getElem_toArray, List.getElem_cons_zero, List.getElem_cons_succ, Act.put, List.setIfInBounds_toArray, List.set_cons_zero, List.set_cons_succ]
  refine wpAnyH_take (i := 4) (v := ?_) rfl (by as_aux_lemma => kernel_rfl) (by as_aux_lemma => kernel_rfl) (by as_aux_lemma => kernel_rfl) (fun _ _ _ h => h) (Or.inl ⟨by rfl, ?_⟩) (by assumption) ?_
  rotate_left
  · (intro w hSw; (try dsimp only at hSw); go_simp); (try with_reducible rfl)
  simp only [List.getElem_toArray, List.getElem_cons_zero, List.getElem_cons_succ, Act.put, List.setIfInBounds_toArray, List.set_cons_zero, List.set_cons_succ]
  refine wpAnyH_ready (rs := [3]) (by as_aux_lemma => kernel_rfl) (by simp) ?_
  refine AllReadyH.cons rfl (fun K hK => ?_) AllReadyH.nil
  go_simp
  refine (HF1.out _ (T.out.ext (EV1.trans (Ext.refl V1).drew))).mono ?_
  rintro _ uz1 ⟨rfl, euz1⟩
  have Fz1 : Ext V1 uz1 := (Ext.refl V1).drew.trans euz1
  refine hK.out _ _ ⟨b2 (Bx.ext Fz1), b2 (Ba.ext Fz1), b2 (Bb.ext Fz1), b3 (By.ext Fz1), b3 (Bz.ext Fz1)⟩ (fun hHeld => ?_)
  clear hK K euz1
  refine wpAnyH_ready (rs := [5]) (by as_aux_lemma => kernel_rfl) (by simp) ?_
  refine AllReadyH.cons rfl (fun K hK => ?_) AllReadyH.nil
  go_simp
  refine (HF2.out _).mono ?_
  rintro _ uz2 ⟨rfl, euz2⟩
  have Fz2 : Ext V1 uz2 := Fz1.trans euz2
  refine hK.out _ _ ⟨b2 (Bx.ext Fz2), b2 (Ba.ext Fz2), b2 (Bb.ext Fz2), b3 (By.ext Fz2), b3 (Bz.ext Fz2)⟩ (fun hHeld => ?_)
  clear hK K euz2 Fz1
  refine wpAnyH_take (i := 6) (v := ?_) rfl (by as_aux_lemma => kernel_rfl) (by as_aux_lemma => kernel_rfl) (by as_aux_lemma => kernel_rfl) (fun _ _ _ h => h) (Or.inl ⟨by rfl, ?_⟩) (by assumption) ?_
  rotate_left
  · (intro w hSw; (try dsimp only at hSw); go_simp); (try with_reducible rfl)
  simp only [List.getElem_toArray, List.getElem_cons_zero, List.getElem_cons_succ, Act.put, List.setIfInBounds_toArray, List.set_cons_zero, List.set_cons_succ]
  refine wpAnyH_take (i := 7) (v := ?_) rfl (by as_aux_lemma => kernel_rfl) (by as_aux_lemma => kernel_rfl) (by as_aux_lemma => kernel_rfl) (fun _ _ _ h => h) (Or.inl ⟨by rfl, ?_⟩) (by assumption) ?_
  rotate_left
  · (intro w hSw; (try dsimp only at hSw); go_simp); (try with_reducible rfl)
  simp only [List.getElem_toArray, List.getElem_cons_zero, List.getElem_cons_succ, Act.put, List.setIfInBounds_toArray, List.set_cons_zero, List.set_cons_succ]
  refine wpAnyH_take (i := 8) (v := ?_) rfl (by as_aux_lemma => kernel_rfl) (by as_aux_lemma => kernel_rfl) (by as_aux_lemma => kernel_rfl) (fun _ _ _ h => h) (Or.inl ⟨by rfl, ?_⟩) (by assumption) ?_
  rotate_left
  · (intro w hSw; (try dsimp only at hSw); go_simp); (try with_reducible rfl)
  simp only [List.getElem_toArray, List.getElem_cons_zero, List.getElem_cons_succ, Act.put, List.setIfInBounds_toArray, List.set_cons_zero, List.set_cons_succ]
  refine wpAnyH_take (i := 9) (v := ?_) rfl (by as_aux_lemma => kernel_rfl) (by as_aux_lemma => kernel_rfl) (by as_aux_lemma => kernel_rfl) (fun _ _ _ h => h) (Or.inl ⟨by rfl, ?_⟩) (by assumption) ?_
  rotate_left
  · (intro w hSw; (try dsimp only at hSw); go_simp); (try with_reducible rfl)
  simp only [List.getElem_toArray, List.getElem_cons_zero, List.getElem_cons_succ, Act.put, List.setIfInBounds_toArray, List.set_cons_zero, List.set_cons_succ]
  refine wpAnyH_take (i := 10) (v := ?_) rfl (by as_aux_lemma => kernel_rfl) (by as_aux_lemma => kernel_rfl) (by as_aux_lemma => kernel_rfl) (fun _ _ _ h => h) (Or.inl ⟨by rfl, ?_⟩) (by assumption) ?_
  rotate_left
  · (intro w hSw; (try dsimp only at hSw); go_simp); (try with_reducible rfl)
  simp only [List.getElem_toArray, List.getElem_cons_zero, List.getElem_cons_succ, Act.put, List.setIfInBounds_toArray, List.set_cons_zero, List.set_cons_succ]
  refine wpAnyH_take (i := 12) (v := ?_) rfl (by as_aux_lemma => kernel_rfl) (by as_aux_lemma => kernel_rfl) (by as_aux_lemma => kernel_rfl) (fun _ _ _ h => h) (Or.inl ⟨by rfl, ?_⟩) (by assumption) ?_
  rotate_left
  · (intro w hSw; (try dsimp only at hSw); go_simp); (try with_reducible rfl)
  simp only [List.getElem_toArray, List.getElem_cons_zero, List.getElem_cons_succ, Act.put, List.setIfInBounds_toArray, List.set_cons_zero, List.set_cons_succ]
  refine wpAnyH_take (i := 13) (v := ?_) rfl (by as_aux_lemma => kernel_rfl) (by as_aux_lemma => kernel_rfl) (by as_aux_lemma => kernel_rfl) (fun _ _ _ h => h) (Or.inl ⟨by rfl, ?_⟩) (by assumption) ?_
  rotate_left
  · (intro w hSw; (try dsimp only at hSw); go_simp); (try with_reducible rfl)
  simp only [List.getElem_toArray, List.getElem_cons_zero, List.getElem_cons_succ, Act.put, List.setIfInBounds_toArray, List.set_cons_zero, List.set_cons_succ]
  refine wpAnyH_ready (rs := [11]) (by as_aux_lemma => kernel_rfl) (by simp) ?_
  refine AllReadyH.cons rfl (fun K hK => ?_) AllReadyH.nil
  go_simp
  refine (HA1.out _ (T.out.ext (EV1.trans Fz2))).mono ?_
  rintro _ uz3 ⟨rfl, euz3⟩
  have Fz3 : Ext V1 uz3 := Fz2.trans euz3
  refine hK.out _ _ ⟨b2 (Bx.ext Fz3), b2 (Ba.ext Fz3), b2 (Bb.ext Fz3), b3 (By.ext Fz3), b3 (Bz.ext Fz3)⟩ (fun hHeld => ?_)
  clear hK K euz3 Fz2
  refine wpAnyH_ready (rs := [14]) (by as_aux_lemma => kernel_rfl) (by simp) ?_
  refine AllReadyH.cons rfl (fun K hK => ?_) AllReadyH.nil
  go_simp
  refine (HA2.out _).mono ?_
  rintro _ uz4 ⟨rfl, euz4⟩
  have Fz4 : Ext V1 uz4 := Fz3.trans euz4
  refine hK.out _ _ ⟨b2 (Bx.ext Fz4), b2 (Ba.ext Fz4), b2 (Bb.ext Fz4), b3 (By.ext Fz4), b3 (Bz.ext Fz4)⟩ (fun hHeld => ?_)
  clear hK K euz4 Fz3
  refine wpAnyH_take (i := 15) (v := ?_) rfl (by as_aux_lemma => kernel_rfl) (by as_aux_lemma => kernel_rfl) (by as_aux_lemma => kernel_rfl) (fun _ _ _ h => h) (Or.inl ⟨by rfl, ?_⟩) (by assumption) ?_
  rotate_left
  · (intro w hSw; (try dsimp only at hSw); go_simp); (try with_reducible rfl)
  simp only [List.getElem_toArray, List.getElem_cons_zero, List.getElem_cons_succ, Act.put, List.setIfInBounds_toArray, List.set_cons_zero, List.set_cons_succ]
  refine wpAnyH_take (i := 16) (v := ?_) rfl (by as_aux_lemma => kernel_rfl) (by as_aux_lemma => kernel_rfl) (by as_aux_lemma => kernel_rfl) (fun _ _ _ h => h) (Or.inl ⟨by rfl, ?_⟩) (by assumption) ?_
  rotate_left
  · (intro w hSw; (try dsimp only at hSw); go_simp); (try with_reducible rfl)
  simp only [List.getElem_toArray, List.getElem_cons_zero, List.getElem_cons_succ, Act.put, List.setIfInBounds_toArray, List.set_cons_zero, List.set_cons_succ]
  refine wpAnyH_take (i := 17) (v := ?_) rfl (by as_aux_lemma => kernel_rfl) (by as_aux_lemma => kernel_rfl) (by as_aux_lemma => kernel_rfl) (fun _ _ _ h => h) (Or.inl ⟨by rfl, ?_⟩) (by assumption) ?_
  rotate_left
  · (intro w hSw; (try dsimp only at hSw); go_simp); (try with_reducible rfl)
  simp only [List.getElem_toArray, List.getElem_cons_zero, List.getElem_cons_succ, Act.put, List.setIfInBounds_toArray, List.set_cons_zero, List.set_cons_succ]
  refine wpAnyH_take (i := 18) (v := ?_) rfl (by as_aux_lemma => kernel_rfl) (by as_aux_lemma => kernel_rfl) (by as_aux_lemma => kernel_rfl) (fun _ _ _ h => h) (Or.inl ⟨by rfl, ?_⟩) (by assumption) ?_
  rotate_left
  · (intro w hSw; (try dsimp only at hSw); go_simp); (try with_reducible rfl)
  simp only [List.getElem_toArray, List.getElem_cons_zero, List.getElem_cons_succ, Act.put, List.setIfInBounds_toArray, List.set_cons_zero, List.set_cons_succ]
  refine wpAnyH_take (i := 20) (v := ?_) rfl (by as_aux_lemma => kernel_rfl) (by as_aux_lemma => kernel_rfl) (by as_aux_lemma => kernel_rfl) (fun _ _ _ h => h) (Or.inl ⟨by rfl, ?_⟩) (by assumption) ?_
  rotate_left
  · (intro w hSw; (try dsimp only at hSw); go_simp); (try with_reducible rfl)
  simp only [List.getElem_toArray, List.getElem_cons_zero, List.getElem_cons_succ, Act.put, List.setIfInBounds_toArray, List.set_cons_zero, List.set_cons_succ]
  refine wpAnyH_ready (rs := [19]) (by as_aux_lemma => kernel_rfl) (by simp) ?_
  refine AllReadyH.cons rfl (fun K hK => ?_) AllReadyH.nil
  go_simp
  refine (HL1.out _ (T.out.ext (EV1.trans Fz4))).mono ?_
  rintro _ uz5 ⟨rfl, euz5⟩
  have Fz5 : Ext V1 uz5 := Fz4.trans euz5
  refine hK.out _ _ ⟨b2 (Bx.ext Fz5), b2 (Ba.ext Fz5), b2 (Bb.ext Fz5), b3 (By.ext Fz5), b3 (Bz.ext Fz5)⟩ (fun hHeld => ?_)
  clear hK K euz5 Fz4
  refine wpAnyH_ready (rs := [21]) (by as_aux_lemma => kernel_rfl) (by simp) ?_
  refine AllReadyH.cons rfl (fun K hK => ?_) AllReadyH.nil
  go_simp
  refine (HL2.out _).mono ?_
  rintro _ uz6 ⟨rfl, euz6⟩
  have Fz6 : Ext V1 uz6 := Fz5.trans euz6
  refine hK.out _ _ ⟨b2 (Bx.ext Fz6), b2 (Ba.ext Fz6), b2 (Bb.ext Fz6), b3 (By.ext Fz6), b3 (Bz.ext Fz6)⟩ (fun hHeld => ?_)
  clear hK K euz6 Fz5
  refine wpAnyH_take (i := 22) (v := ?_) rfl (by as_aux_lemma => kernel_rfl) (by as_aux_lemma => kernel_rfl) (by as_aux_lemma => kernel_rfl) (fun _ _ _ h => h) (Or.inl ⟨by rfl, ?_⟩) (by assumption) ?_
  rotate_left
  · (intro w hSw; (try dsimp only at hSw); go_simp); (try with_reducible rfl)
  simp only [List.getElem_toArray, List.getElem_cons_zero, List.getElem_cons_succ, Act.put, List.setIfInBounds_toArray, List.set_cons_zero, List.set_cons_succ]
  refine wpAnyH_take (i := 23) (v := ?_) rfl (by as_aux_lemma => kernel_rfl) (by as_aux_lemma => kernel_rfl) (by as_aux_lemma => kernel_rfl) (fun _ _ _ h => h) (Or.inl ⟨by rfl, ?_⟩) (by assumption) ?_
  rotate_left
  · (intro w hSw; (try dsimp only at hSw); go_simp); (try with_reducible rfl)
  simp only [List.getElem_toArray, List.getElem_cons_zero, List.getElem_cons_succ, Act.put, List.setIfInBounds_toArray, List.set_cons_zero, List.set_cons_succ]
  refine wpAnyH_take (i := 24) (v := ?_) rfl (by as_aux_lemma => kernel_rfl) (by as_aux_lemma => kernel_rfl) (by as_aux_lemma => kernel_rfl) (fun _ _ _ h => h) (Or.inl ⟨by rfl, ?_⟩) (by assumption) ?_
  rotate_left
  · (intro w hSw; (try dsimp only at hSw); go_simp); (try with_reducible rfl)
  simp only [List.getElem_toArray, List.getElem_cons_zero, List.getElem_cons_succ, Act.put, List.setIfInBounds_toArray, List.set_cons_zero, List.set_cons_succ]
  refine wpAnyH_take (i := 25) (v := ?_) rfl (by as_aux_lemma => kernel_rfl) (by as_aux_lemma => kernel_rfl) (by as_aux_lemma => kernel_rfl) (fun _ _ _ h => h) (Or.inl ⟨by rfl, ?_⟩) (by assumption) ?_
  rotate_left
  · (intro w hSw; (try dsimp only at hSw); go_simp); (try with_reducible rfl)
  simp only [List.getElem_toArray, List.getElem_cons_zero, List.getElem_cons_succ, Act.put, List.setIfInBounds_toArray, List.set_cons_zero, List.set_cons_succ]
  refine wpAnyH_take (i := 26) (v := ?_) rfl (by as_aux_lemma => kernel_rfl) (by as_aux_lemma => kernel_rfl) (by as_aux_lemma => kernel_rfl) (fun _ _ _ h => h) (Or.inl ⟨by rfl, ?_⟩) (by assumption) ?_
  rotate_left
  · (intro w hSw; (try dsimp only at hSw); go_simp); (try with_reducible rfl)
  simp only [List.getElem_toArray, List.getElem_cons_zero, List.getElem_cons_succ, Act.put, List.setIfInBounds_toArray, List.set_cons_zero, List.set_cons_succ]
  refine wpAnyH_take (i := 27) (v := ?_) rfl (by as_aux_lemma => kernel_rfl) (by as_aux_lemma => kernel_rfl) (by as_aux_lemma => kernel_rfl) (fun _ _ _ h => h) (Or.inl ⟨by rfl, ?_⟩) (by assumption) ?_
  rotate_left
  · (intro w hSw; (try dsimp only at hSw); go_simp); (try with_reducible rfl)
  simp only [List.getElem_toArray, List.getElem_cons_zero, List.getElem_cons_succ, Act.put, List.setIfInBounds_toArray, List.set_cons_zero, List.set_cons_succ]
  refine wpAnyH_take (i := 28) (v := ?_) rfl (by as_aux_lemma => kernel_rfl) (by as_aux_lemma => kernel_rfl) (by as_aux_lemma => kernel_rfl) (fun _ _ _ h => h) (Or.inl ⟨by rfl, ?_⟩) (by assumption) ?_
  rotate_left
  · (intro w hSw; (try dsimp only at hSw); go_simp); (try with_reducible rfl)
  simp only [List.getElem_toArray, List.getElem_cons_zero, List.getElem_cons_succ, Act.put, List.setIfInBounds_toArray, List.set_cons_zero, List.set_cons_succ]
  refine wpAnyH_take (i := 29) (v := ?_) rfl (by as_aux_lemma => kernel_rfl) (by as_aux_lemma => kernel_rfl) (by as_aux_lemma => kernel_rfl) (fun _ _ _ h => h) (Or.inl ⟨by rfl, ?_⟩) (by assumption) ?_
  rotate_left
  · (intro w hSw; (try dsimp only at hSw); go_simp); (try with_reducible rfl)
  simp only [List.getElem_toArray, List.getElem_cons_zero, List.getElem_cons_succ, Act.put, List.setIfInBounds_toArray, List.set_cons_zero, List.set_cons_succ]
  refine wpAnyH_take (i := 30) (v := ?_) rfl (by as_aux_lemma => kernel_rfl) (by as_aux_lemma => kernel_rfl) (by as_aux_lemma => kernel_rfl) (fun _ _ _ h => h) (Or.inl ⟨by rfl, ?_⟩) (by assumption) ?_
  rotate_left
  · (intro w hSw; (try dsimp only at hSw); go_simp); (try with_reducible rfl)
  simp only [List.getElem_toArray, List.getElem_cons_zero, List.getElem_cons_succ, Act.put, List.setIfInBounds_toArray, List.set_cons_zero, List.set_cons_succ]
  refine wpAnyH_take (i := 31) (v := ?_) rfl (by as_aux_lemma => kernel_rfl) (by as_aux_lemma => kernel_rfl) (by as_aux_lemma => kernel_rfl) (fun _ _ _ h => h) (Or.inl ⟨by rfl, ?_⟩) (by assumption) ?_
  rotate_left
  · (intro w hSw; (try dsimp only at hSw); go_simp); (try with_reducible rfl)
  simp only [List.getElem_toArray, List.getElem_cons_zero, List.getElem_cons_succ, Act.put, List.setIfInBounds_toArray, List.set_cons_zero, List.set_cons_succ]
  refine wpAnyH_take (i := 32) (v := ?_) rfl (by as_aux_lemma => kernel_rfl) (by as_aux_lemma => kernel_rfl) (by as_aux_lemma => kernel_rfl) (fun _ _ _ h => h) (Or.inl ⟨by rfl, ?_⟩) (by assumption) ?_
  rotate_left
  · (intro w hSw; (try dsimp only at hSw); go_simp); (try with_reducible rfl)
  simp only [List.getElem_toArray, List.getElem_cons_zero, List.getElem_cons_succ, Act.put, List.setIfInBounds_toArray, List.set_cons_zero, List.set_cons_succ]
  refine wpAnyH_take (i := 33) (v := ?_) rfl (by as_aux_lemma => kernel_rfl) (by as_aux_lemma => kernel_rfl) (by as_aux_lemma => kernel_rfl) (fun _ _ _ h => h) (Or.inl ⟨by rfl, ?_⟩) (by assumption) ?_
  rotate_left
  · (intro w hSw; (try dsimp only at hSw); go_simp); (try with_reducible rfl)
  simp only [List.getElem_toArray, List.getElem_cons_zero, List.getElem_cons_succ, Act.put, List.setIfInBounds_toArray, List.set_cons_zero, List.set_cons_succ]
  refine wpAnyH_take (i := 35) (v := ?_) rfl (by as_aux_lemma => kernel_rfl) (by as_aux_lemma => kernel_rfl) (by as_aux_lemma => kernel_rfl) (fun _ _ _ h => h) (Or.inl ⟨by rfl, ?_⟩) (by assumption) ?_
  rotate_left
  · (intro w hSw; (try dsimp only at hSw); go_simp); (try with_reducible rfl)
  simp only [List.getElem_toArray, List.getElem_cons_zero, List.getElem_cons_succ, Act.put, List.setIfInBounds_toArray, List.set_cons_zero, List.set_cons_succ]
  refine wpAnyH_take (i := 36) (v := ?_) rfl (by as_aux_lemma => kernel_rfl) (by as_aux_lemma => kernel_rfl) (by as_aux_lemma => kernel_rfl) (fun _ _ _ h => h) (Or.inl ⟨by rfl, ?_⟩) (by assumption) ?_
  rotate_left
  · (intro w hSw; (try dsimp only at hSw); go_simp); (try with_reducible rfl)
  simp only [List.getElem_toArray, List.getElem_cons_zero, List.getElem_cons_succ, Act.put, List.setIfInBounds_toArray, List.set_cons_zero, List.set_cons_succ]
  refine wpAnyH_ready (rs := [34]) (by as_aux_lemma => kernel_rfl) (by simp) ?_
  refine AllReadyH.cons rfl (fun K hK => ?_) AllReadyH.nil
  go_simp
  refine (HM1.out _ (T.out.ext (EV1.trans Fz6))).mono ?_
  rintro _ uz7 ⟨rfl, euz7⟩
  have Fz7 : Ext V1 uz7 := Fz6.trans euz7
  refine hK.out _ _ ⟨b2 (Bx.ext Fz7), b2 (Ba.ext Fz7), b2 (Bb.ext Fz7), b3 (By.ext Fz7), b3 (Bz.ext Fz7)⟩ (fun hHeld => ?_)
  clear hK K euz7 Fz6
  refine wpAnyH_ready (rs := [37]) (by as_aux_lemma => kernel_rfl) (by simp) ?_
  refine AllReadyH.cons rfl (fun K hK => ?_) AllReadyH.nil
  go_simp
  refine (HM2.out _).mono ?_
  rintro _ uz8 ⟨rfl, euz8⟩
  have Fz8 : Ext V1 uz8 := Fz7.trans euz8
  refine hK.out _ _ ⟨b2 (Bx.ext Fz8), b2 (Ba.ext Fz8), b2 (Bb.ext Fz8), b3 (By.ext Fz8), b3 (Bz.ext Fz8)⟩ (fun hHeld => ?_)
  clear hK K euz8 Fz7
  refine wpAnyH_take (i := 38) (v := ?_) rfl (by as_aux_lemma => kernel_rfl) (by as_aux_lemma => kernel_rfl) (by as_aux_lemma => kernel_rfl) (fun _ _ _ h => h) (Or.inl ⟨by rfl, ?_⟩) (by assumption) ?_
  rotate_left
  · (intro w hSw; (try dsimp only at hSw); go_simp); (try with_reducible rfl)
  simp only [List.getElem_toArray, List.getElem_cons_zero, List.getElem_cons_succ, Act.put, List.setIfInBounds_toArray, List.set_cons_zero, List.set_cons_succ]
  refine wpAnyH_take (i := 39) (v := ?_) rfl (by as_aux_lemma => kernel_rfl) (by as_aux_lemma => kernel_rfl) (by as_aux_lemma => kernel_rfl) (fun _ _ _ h => h) (Or.inl ⟨by rfl, ?_⟩) (by assumption) ?_
  rotate_left
  · (intro w hSw; (try dsimp only at hSw); go_simp); (try with_reducible rfl)
  simp only [List.getElem_toArray, List.getElem_cons_zero, List.getElem_cons_succ, Act.put, List.setIfInBounds_toArray, List.set_cons_zero, List.set_cons_succ]
  refine wpAnyH_take (i := 40) (v := ?_) rfl (by as_aux_lemma => kernel_rfl) (by as_aux_lemma => kernel_rfl) (by as_aux_lemma => kernel_rfl) (fun _ _ _ h => h) (Or.inl ⟨by rfl, ?_⟩) (by assumption) ?_
  rotate_left
  · (intro w hSw; (try dsimp only at hSw); go_simp); (try with_reducible rfl)
  simp only [List.getElem_toArray, List.getElem_cons_zero, List.getElem_cons_succ, Act.put, List.setIfInBounds_toArray, List.set_cons_zero, List.set_cons_succ]
  refine wpAnyH_take (i := 41) (v := ?_) rfl (by as_aux_lemma => kernel_rfl) (by as_aux_lemma => kernel_rfl) (by as_aux_lemma => kernel_rfl) (fun _ _ _ h => h) (Or.inl ⟨by rfl, ?_⟩) (by assumption) ?_
  rotate_left
  · (intro w hSw; (try dsimp only at hSw); go_simp); (try with_reducible rfl)
  simp only [List.getElem_toArray, List.getElem_cons_zero, List.getElem_cons_succ, Act.put, List.setIfInBounds_toArray, List.set_cons_zero, List.set_cons_succ]
  refine wpAnyH_take (i := 42) (v := ?_) rfl (by as_aux_lemma => kernel_rfl) (by as_aux_lemma => kernel_rfl) (by as_aux_lemma => kernel_rfl) (fun _ _ _ h => h) (Or.inl ⟨by rfl, ?_⟩) (by assumption) ?_
  rotate_left
  · (intro w hSw; (try dsimp only at hSw); go_simp); (try with_reducible rfl)
  simp only [List.getElem_toArray, List.getElem_cons_zero, List.getElem_cons_succ, Act.put, List.setIfInBounds_toArray, List.set_cons_zero, List.set_cons_succ]
  refine wpAnyH_take (i := 43) (v := ?_) rfl (by as_aux_lemma => kernel_rfl) (by as_aux_lemma => kernel_rfl) (by as_aux_lemma => kernel_rfl) (fun _ _ _ h => h) (Or.inl ⟨by rfl, ?_⟩) (by assumption) ?_
  rotate_left
  · (intro w hSw; (try dsimp only at hSw); go_simp); (try with_reducible rfl)
  simp only [List.getElem_toArray, List.getElem_cons_zero, List.getElem_cons_succ, Act.put, List.setIfInBounds_toArray, List.set_cons_zero, List.set_cons_succ]
  refine wpAnyH_take (i := 44) (v := ?_) rfl (by as_aux_lemma => kernel_rfl) (by as_aux_lemma => kernel_rfl) (by as_aux_lemma => kernel_rfl) (fun _ _ _ h => h) (Or.inl ⟨by rfl, ?_⟩) (by assumption) ?_
  rotate_left
  · (intro w hSw; (try dsimp only at hSw); go_simp); (try with_reducible rfl)
  simp only [List.getElem_toArray, List.getElem_cons_zero, List.getElem_cons_succ, Act.put, List.setIfInBounds_toArray, List.set_cons_zero, List.set_cons_succ]
  refine wpAnyH_take (i := 45) (v := ?_) rfl (by as_aux_lemma => kernel_rfl) (by as_aux_lemma => kernel_rfl) (by as_aux_lemma => kernel_rfl) (fun _ _ _ h => h) (Or.inl ⟨by rfl, ?_⟩) (by assumption) ?_
  rotate_left
  · (intro w hSw; (try dsimp only at hSw); go_simp); (try with_reducible rfl)
  simp only [List.getElem_toArray, List.getElem_cons_zero, List.getElem_cons_succ, Act.put, List.setIfInBounds_toArray, List.set_cons_zero, List.set_cons_succ]
  refine wpAnyH_take (i := 46) (v := ?_) rfl (by as_aux_lemma => kernel_rfl) (by as_aux_lemma => kernel_rfl) (by as_aux_lemma => kernel_rfl) (fun _ _ _ h => h) (Or.inl ⟨by rfl, ?_⟩) (by assumption) ?_
  rotate_left
  · (intro w hSw; (try dsimp only at hSw); go_simp); (try with_reducible rfl)
  simp only [List.getElem_toArray, List.getElem_cons_zero, List.getElem_cons_succ, Act.put, List.setIfInBounds_toArray, List.set_cons_zero, List.set_cons_succ]
  refine wpAnyH_take (i := 47) (v := ?_) rfl (by as_aux_lemma => kernel_rfl) (by as_aux_lemma => kernel_rfl) (by as_aux_lemma => kernel_rfl) (fun _ _ _ h => h) (Or.inl ⟨by rfl, ?_⟩) (by assumption) ?_
  rotate_left
  · (intro w hSw; (try dsimp only at hSw); go_simp); (try with_reducible rfl)
  simp only [List.getElem_toArray, List.getElem_cons_zero, List.getElem_cons_succ, Act.put, List.setIfInBounds_toArray, List.set_cons_zero, List.set_cons_succ]
  refine wpAnyH_take (i := 49) (v := ?_) rfl (by as_aux_lemma => kernel_rfl) (by as_aux_lemma => kernel_rfl) (by as_aux_lemma => kernel_rfl) (fun _ _ _ h => h) (Or.inl ⟨by rfl, ?_⟩) (by assumption) ?_
  rotate_left
  · (intro w hSw; (try dsimp only at hSw); go_simp); (try with_reducible rfl)
  simp only [List.getElem_toArray, List.getElem_cons_zero, List.getElem_cons_succ, Act.put, List.setIfInBounds_toArray, List.set_cons_zero, List.set_cons_succ]
  refine wpAnyH_ready (rs := [48]) (by as_aux_lemma => kernel_rfl) (by simp) ?_
  refine AllReadyH.cons rfl (fun K hK => ?_) AllReadyH.nil
  go_simp
  refine (HJ.out _ (T.out.ext (EV1.trans Fz8))).mono ?_
  rintro _ uz9 ⟨rfl, euz9⟩
  have Fz9 : Ext V1 uz9 := Fz8.trans euz9
  refine hK.out _ _ ⟨b2 (Bx.ext Fz9), b2 (Ba.ext Fz9), b2 (Bb.ext Fz9), b3 (By.ext Fz9), b3 (Bz.ext Fz9)⟩ (fun hHeld => ?_)
  clear hK K euz9 Fz8
  refine wpAnyH_ready (rs := [50]) (by as_aux_lemma => kernel_rfl) (by simp) ?_
  refine AllReadyH.cons rfl (fun K hK => ?_) AllReadyH.nil
  go_simp
  refine (HF2.out _).mono ?_
  rintro _ uz10 ⟨rfl, euz10⟩
  have Fz10 : Ext V1 uz10 := Fz9.trans euz10
  refine hK.out _ _ ⟨b2 (Bx.ext Fz10), b2 (Ba.ext Fz10), b2 (Bb.ext Fz10), b3 (By.ext Fz10), b3 (Bz.ext Fz10)⟩ (fun hHeld => ?_)
  clear hK K euz10 Fz9
  refine wpAnyH_take (i := 51) (v := ?_) rfl (by as_aux_lemma => kernel_rfl) (by as_aux_lemma => kernel_rfl) (by as_aux_lemma => kernel_rfl) (fun _ _ _ h => h) (Or.inl ⟨by rfl, ?_⟩) (by assumption) ?_
  rotate_left
  · (intro w hSw; (try dsimp only at hSw); go_simp); (try with_reducible rfl)
  simp only [List.getElem_toArray, List.getElem_cons_zero, List.getElem_cons_succ, Act.put, List.setIfInBounds_toArray, List.set_cons_zero, List.set_cons_succ]
  refine wpAnyH_take (i := 52) (v := ?_) rfl (by as_aux_lemma => kernel_rfl) (by as_aux_lemma => kernel_rfl) (by as_aux_lemma => kernel_rfl) (fun _ _ _ h => h) (Or.inl ⟨by rfl, ?_⟩) (by assumption) ?_
  rotate_left
  · (intro w hSw; (try dsimp only at hSw); go_simp); (try with_reducible rfl)
  simp only [List.getElem_toArray, List.getElem_cons_zero, List.getElem_cons_succ, Act.put, List.setIfInBounds_toArray, List.set_cons_zero, List.set_cons_succ]
  refine wpAnyH_take (i := 53) (v := ?_) rfl (by as_aux_lemma => kernel_rfl) (by as_aux_lemma => kernel_rfl) (by as_aux_lemma => kernel_rfl) (fun _ _ _ h => h) (Or.inl ⟨by rfl, ?_⟩) (by assumption) ?_
  rotate_left
  · (intro w hSw; (try dsimp only at hSw); go_simp); (try with_reducible rfl)
  simp only [List.getElem_toArray, List.getElem_cons_zero, List.getElem_cons_succ, Act.put, List.setIfInBounds_toArray, List.set_cons_zero, List.set_cons_succ]
  refine wpAnyH_done (by as_aux_lemma => kernel_rfl) ?_ _
  clear Ba_0 Ba_1 Ba_l Bb_0 Bb_1 Bb_l By_0 By_1 By_2 By_l Bz_0 Bz_1 Bz_2 Bz_l
  replace Bx := Bx.ext Fz10
  replace Ba := Ba.ext Fz10
  replace Bb := Bb.ext Fz10
  replace By := By.ext Fz10
  replace Bz := Bz.ext Fz10
  have Ez := EV1.trans Fz10
  clear Fz10 hHeld
  go_wp2
  go_ret
  exact ⟨rfl, Ez⟩
set_option maxRecDepth 100000 in
set_option maxHeartbeats 4000000 in
theorem tells_lo (w : World) (T0 : Tu w) (Kx Qx : Int) (hKx : -9223372036854775808 ≤ Kx ∧ Kx ≤ 9223372036854775807) (hQx : -9223372036854775808 ≤ Qx ∧ Qx ≤ 9223372036854775807) (Ka : Int) (Qa : Nat) (hKa : -1099511627776 ≤ Ka ∧ Ka ≤ 1099511627776) (hQa : Qa ≤ 40) (Kb : Int) (Qb : Nat) (hKb : -1099511627776 ≤ Kb ∧ Kb ≤ 1099511627776) (hQb : Qb ≤ 40) (n : Int) (hn : -9223372036854775808 ≤ n ∧ n ≤ 9223372036854775807) (e : Int) (hr : n < -1048576) :
    Calls Tryd.prog 3 #[.agg #[.int .i64 Kx, .int .i64 Qx], .agg #[.int .i64 Ka, .int .i64 Qa], .agg #[.int .i64 Kb, .int .i64 Qb], .int .i64 n, .int .i64 e] w (RetE w (.bool true)) := by
  obtain ⟨s, hs⟩ : ∃ s, plSwap e = s := ⟨_, rfl⟩
  obtain ⟨c, hc⟩ : ∃ c, plCos e = c := ⟨_, rfl⟩
  obtain ⟨z, hz⟩ : ∃ z, plSin e = z := ⟨_, rfl⟩
  have HP := Lib.hid (fun w' (T' : Tu w') => tplace_lit w' T'.pl e s c z hs hc hz)
  have HRP := Lib.hid (fun w' => rplace_lit w' e s c z hs hc hz)
  obtain ⟨rx, hrx⟩ : ∃ r, rightT Kx Qx = r := ⟨_, rfl⟩
  have HX1 := Lib.hid (fun w' => tright_lit w' Kx Qx rx hrx hKx hQx)
  have HX2 := Lib.hid (fun w' => rright_lit w' Kx Qx rx hrx hKx hQx)
  have ra : rightT Ka Qa = true := rightT_iff.2 (by omega)
  have Ha := Lib.hid (fun w' => rright_lit w' Ka Qa true ra (by omega) (by omega))
  have rb : rightT Kb Qb = true := rightT_iff.2 (by omega)
  have Hb := Lib.hid (fun w' => rright_lit w' Kb Qb true rb (by omega) (by omega))
  have va := tv_range Ka Qa
  have vb := tv_range Kb Qb
  obtain ⟨q0, q1, q2, q3⟩ := rest_range va.1 va.2
  obtain ⟨kr, qr, h⟩ : ∃ k q, Fm (rest (tv Ka Qa)) k q := fm_there q2 (by omega)
  obtain ⟨ki, qi, hi⟩ := fm_there va.1 va.2
  obtain ⟨kj, qj, hj⟩ := fm_there vb.1 vb.2
  obtain ⟨f, hf⟩ : ∃ f, eighth (tv Ka Qa) = f := ⟨_, rfl⟩
  obtain ⟨kd, qd, hd⟩ : ∃ k q, Fm ((tv Ka Qa + tv Kb Qb) % 1099511627776) k q := fm_there (by omega) (by omega)
  obtain ⟨kf, qf, hfl⟩ : ∃ k q, Fm ((-tv Ka Qa) % 1099511627776) k q := fm_there (by omega) (by omega)
  obtain ⟨km, qm, hm⟩ : ∃ k q, Fm (n * tv Ka Qa % 1099511627776) k q := fm_there (by omega) (by omega)
  have HS1 := Lib.hid (fun w' (T' : Tu w') => tsplit_any w' T'.tb Ka kr f Qa qr hKa hQa hf h)
  have HS2 := Lib.hid (fun w' => rsplit_any w' Ka kr f Qa qr (by omega) hQa hf h)
  have HF1 := Lib.hid (fun w' (T' : Tu w') => tform_any w' T'.tb Ka ki Qa qi hKa hQa hi)
  have HF2 := Lib.hid (fun w' => rform_any w' Ka ki Qa qi (by omega) hQa hi)
  have HA1 := Lib.hid (fun w' (T' : Tu w') => tadd_any w' T'.tb Ka Kb kd Qa Qb qd hKa hKb hQa hQb hd)
  have HA2 := Lib.hid (fun w' => radd2_any w' Ka Kb ki kj kd Qa Qb qi qj qd (by omega) (by omega) hQa hQb hi hj hd)
  have HL1 := Lib.hid (fun w' (T' : Tu w') => tflip_any w' T'.tb Ka kf Qa qf hKa hQa hfl)
  have HL2 := Lib.hid (fun w' => rflip2_any w' Ka kf Qa qf (by omega) hQa hfl)
  have HM1 := Lib.hid (fun w' (T' : Tu w') => ttimes_any w' T'.tb Ka n km Qa qm hKa hQa hm)
  have HM2 := Lib.hid (fun w' => rtimes_any w' Ka n ki km Qa qi qm (by omega) hQa hn hi hm)
  have HJ := Lib.hid (fun w' (T' : Tu w') => tjoin_any w' T'.tb (tv Ka Qa) f kr ki qr qi va hf h hi)
  have g1d : decide (n < -1048576) = true := decide_eq_true hr
  clear va vb q0 q1 q2 q3 h hi hj hf hd hfl hm hKx hQx hKa hQa hKb hQb hs hc hz hrx ra rb
  have T := Lib.hid T0
  clear T0
  go_enter Tryd.func3, Tryd.ntmps3
  go_wp2_with fail
  refine (headT_any _ (T.out.ext ((((Ext.refl w).alloc _).alloc _).alloc _))).mono ?_
  rintro _ w1 ⟨rfl, f1⟩
  have Bx : B2 w1 (w.heap.size) (.int .i64 Kx) (.int .i64 Qx) := B2.at ((((Ext.refl _).alloc _).alloc _).trans f1) (by simp)
  have Ba : B2 w1 (w.heap.size + 1) (.int .i64 Ka) (.int .i64 (Qa : Int)) := B2.at (((Ext.refl _).alloc _).trans f1) (by simp)
  have Bb : B2 w1 (w.heap.size + 1 + 1) (.int .i64 Kb) (.int .i64 (Qb : Int)) := B2.at ((Ext.refl _).trans f1) (by simp)
  have e1 : Ext w w1 := ((((Ext.refl w).alloc _).alloc _).alloc _).trans f1
  have E1 : Ext w w1 := e1
  clear f1
  obtain ⟨Bx_0, Bx_1⟩ := id Bx
  have Bx_l := World.block_lt_of_cell? _ _ Bx_0
  obtain ⟨Ba_0, Ba_1⟩ := id Ba
  have Ba_l := World.block_lt_of_cell? _ _ Ba_0
  obtain ⟨Bb_0, Bb_1⟩ := id Bb
  have Bb_l := World.block_lt_of_cell? _ _ Bb_0
  go_wp2_with fail
  refine (HP.out _ (T.out.ext (E1.trans (Ext.refl w1)))).mono ?_
  rintro _ w2 ⟨rfl, f2⟩
  clear Bx_0 Bx_1 Bx_l Ba_0 Ba_1 Ba_l Bb_0 Bb_1 Bb_l
  have e2 : Ext w1 w2 := (Ext.refl w1).trans f2
  replace Bx := Bx.ext e2
  replace Ba := Ba.ext e2
  replace Bb := Bb.ext e2
  have E2 : Ext w w2 := E1.trans e2
  clear f2
  go_wp2_with fail
  refine (HRP.out _).mono ?_
  rintro _ w3 ⟨rfl, f3⟩
  have e3 : Ext w2 w3 := (Ext.refl w2).trans f3
  replace Bx := Bx.ext e3
  replace Ba := Ba.ext e3
  replace Bb := Bb.ext e3
  have E3 : Ext w w3 := E2.trans e3
  clear f3
  obtain ⟨Bx_0, Bx_1⟩ := id Bx
  have Bx_l := World.block_lt_of_cell? _ _ Bx_0
  go_wp2
  refine wp_region_held_drew (S := (fun w' => (w'.cell? ⟨w.heap.size, 0, none⟩ = some (.int .i64 Kx) ∧ w'.cell? ⟨w.heap.size, 1, none⟩ = some (.int .i64 Qx)) ∧ (w'.cell? ⟨w.heap.size + 1, 0, none⟩ = some (.int .i64 Ka) ∧ w'.cell? ⟨w.heap.size + 1, 1, none⟩ = some (.int .i64 (Qa : Int))) ∧ (w'.cell? ⟨w.heap.size + 1 + 1, 0, none⟩ = some (.int .i64 Kb) ∧ w'.cell? ⟨w.heap.size + 1 + 1, 1, none⟩ = some (.int .i64 (Qb : Int))))) (by as_aux_lemma => kernel_rfl) ⟨b2 (Bx.ext (Ext.refl w3).drew), b2 (Ba.ext (Ext.refl w3).drew), b2 (Bb.ext (Ext.refl w3).drew)⟩ (fun hHeld => ?_)
  refine wpAnyH_take (i := 0) (v := ?_) rfl (by as_aux_lemma => kernel_rfl) (by as_aux_lemma => kernel_rfl) (by as_aux_lemma => kernel_rfl) (fun _ _ _ h => h) (Or.inl ⟨by rfl, ?_⟩) (by assumption) ?_
  rotate_left
  · (intro w hSw; (try dsimp only at hSw); go_simp); (try with_reducible rfl)
  simp only [List.getElem_toArray, List.getElem_cons_zero, Act.put, List.setIfInBounds_toArray, List.set_cons_zero, List.set_cons_succ]
  refine wpAnyH_take (i := 2) (v := ?_) rfl (by as_aux_lemma => kernel_rfl) (by as_aux_lemma => kernel_rfl) (by as_aux_lemma => kernel_rfl) (fun _ _ _ h => h) (Or.inl ⟨by rfl, ?_⟩) (by assumption) ?_
  rotate_left
  · (intro w hSw; (try dsimp only at hSw); go_simp); (try with_reducible rfl)
  simp only [List.getElem_toArray, List.getElem_cons_zero, List.getElem_cons_succ, Act.put, List.setIfInBounds_toArray, List.set_cons_zero, List.set_cons_succ]
  refine wpAnyH_ready (rs := [1]) (by as_aux_lemma => kernel_rfl) (by simp) ?_
  refine AllReadyH.cons rfl (fun K hK => ?_) AllReadyH.nil
  go_simp
  refine (HX1.out _).mono ?_
  rintro _ ur1 ⟨rfl, eur1⟩
  have Fr1 : Ext w3 ur1 := (Ext.refl w3).drew.trans eur1
  refine hK.out _ _ ⟨b2 (Bx.ext Fr1), b2 (Ba.ext Fr1), b2 (Bb.ext Fr1)⟩ (fun hHeld => ?_)
  clear hK K eur1
  refine wpAnyH_ready (rs := [3]) (by as_aux_lemma => kernel_rfl) (by simp) ?_
  refine AllReadyH.cons rfl (fun K hK => ?_) AllReadyH.nil
  go_simp
  refine (HX2.out _).mono ?_
  rintro _ ur2 ⟨rfl, eur2⟩
  have Fr2 : Ext w3 ur2 := Fr1.trans eur2
  refine hK.out _ _ ⟨b2 (Bx.ext Fr2), b2 (Ba.ext Fr2), b2 (Bb.ext Fr2)⟩ (fun hHeld => ?_)
  clear hK K eur2 Fr1
  refine wpAnyH_take (i := 4) (v := ?_) rfl (by as_aux_lemma => kernel_rfl) (by as_aux_lemma => kernel_rfl) (by as_aux_lemma => kernel_rfl) (fun _ _ _ h => h) (Or.inl ⟨by rfl, ?_⟩) (by assumption) ?_
  rotate_left
  · (intro w hSw; (try dsimp only at hSw); go_simp); (try with_reducible rfl)
  simp only [List.getElem_toArray, List.getElem_cons_zero, List.getElem_cons_succ, Act.put, List.setIfInBounds_toArray, List.set_cons_zero, List.set_cons_succ]
  refine wpAnyH_take (i := 5) (v := ?_) rfl (by as_aux_lemma => kernel_rfl) (by as_aux_lemma => kernel_rfl) (by as_aux_lemma => kernel_rfl) (fun _ _ _ h => h) (Or.inl ⟨by rfl, ?_⟩) (by assumption) ?_
  rotate_left
  · (intro w hSw; (try dsimp only at hSw); go_simp); (try with_reducible rfl)
  simp only [List.getElem_toArray, List.getElem_cons_zero, List.getElem_cons_succ, Act.put, List.setIfInBounds_toArray, List.set_cons_zero, List.set_cons_succ]
  refine wpAnyH_take (i := 6) (v := ?_) rfl (by as_aux_lemma => kernel_rfl) (by as_aux_lemma => kernel_rfl) (by as_aux_lemma => kernel_rfl) (fun _ _ _ h => h) (Or.inl ⟨by rfl, ?_⟩) (by assumption) ?_
  rotate_left
  · (intro w hSw; (try dsimp only at hSw); go_simp); (try with_reducible rfl)
  simp only [List.getElem_toArray, List.getElem_cons_zero, List.getElem_cons_succ, Act.put, List.setIfInBounds_toArray, List.set_cons_zero, List.set_cons_succ]
  refine wpAnyH_take (i := 7) (v := ?_) rfl (by as_aux_lemma => kernel_rfl) (by as_aux_lemma => kernel_rfl) (by as_aux_lemma => kernel_rfl) (fun _ _ _ h => h) (Or.inl ⟨by rfl, ?_⟩) (by assumption) ?_
  rotate_left
  · (intro w hSw; (try dsimp only at hSw); go_simp); (try with_reducible rfl)
  simp only [List.getElem_toArray, List.getElem_cons_zero, List.getElem_cons_succ, Act.put, List.setIfInBounds_toArray, List.set_cons_zero, List.set_cons_succ]
  refine wpAnyH_take (i := 8) (v := ?_) rfl (by as_aux_lemma => kernel_rfl) (by as_aux_lemma => kernel_rfl) (by as_aux_lemma => kernel_rfl) (fun _ _ _ h => h) (Or.inl ⟨by rfl, ?_⟩) (by assumption) ?_
  rotate_left
  · (intro w hSw; (try dsimp only at hSw); go_simp); (try with_reducible rfl)
  simp only [List.getElem_toArray, List.getElem_cons_zero, List.getElem_cons_succ, Act.put, List.setIfInBounds_toArray, List.set_cons_zero, List.set_cons_succ]
  refine wpAnyH_take (i := 9) (v := ?_) rfl (by as_aux_lemma => kernel_rfl) (by as_aux_lemma => kernel_rfl) (by as_aux_lemma => kernel_rfl) (fun _ _ _ h => h) (Or.inl ⟨by rfl, ?_⟩) (by assumption) ?_
  rotate_left
  · (intro w hSw; (try dsimp only at hSw); go_simp); (try with_reducible rfl)
  simp only [List.getElem_toArray, List.getElem_cons_zero, List.getElem_cons_succ, Act.put, List.setIfInBounds_toArray, List.set_cons_zero, List.set_cons_succ]
  refine wpAnyH_take (i := 10) (v := ?_) rfl (by as_aux_lemma => kernel_rfl) (by as_aux_lemma => kernel_rfl) (by as_aux_lemma => kernel_rfl) (fun _ _ _ h => h) (Or.inl ⟨by rfl, ?_⟩) (by assumption) ?_
  rotate_left
  · (intro w hSw; (try dsimp only at hSw); go_simp); (try with_reducible rfl)
  simp only [List.getElem_toArray, List.getElem_cons_zero, List.getElem_cons_succ, Act.put, List.setIfInBounds_toArray, List.set_cons_zero, List.set_cons_succ]
  refine wpAnyH_take (i := 11) (v := ?_) rfl (by as_aux_lemma => kernel_rfl) (by as_aux_lemma => kernel_rfl) (by as_aux_lemma => kernel_rfl) (fun _ _ _ h => h) (Or.inl ⟨by rfl, ?_⟩) (by assumption) ?_
  rotate_left
  · (intro w hSw; (try dsimp only at hSw); go_simp); (try with_reducible rfl)
  simp only [List.getElem_toArray, List.getElem_cons_zero, List.getElem_cons_succ, Act.put, List.setIfInBounds_toArray, List.set_cons_zero, List.set_cons_succ]
  refine wpAnyH_take (i := 12) (v := ?_) rfl (by as_aux_lemma => kernel_rfl) (by as_aux_lemma => kernel_rfl) (by as_aux_lemma => kernel_rfl) (fun _ _ _ h => h) (Or.inl ⟨by rfl, ?_⟩) (by assumption) ?_
  rotate_left
  · (intro w hSw; (try dsimp only at hSw); go_simp); (try with_reducible rfl)
  simp only [List.getElem_toArray, List.getElem_cons_zero, List.getElem_cons_succ, Act.put, List.setIfInBounds_toArray, List.set_cons_zero, List.set_cons_succ]
  refine wpAnyH_take (i := 13) (v := ?_) rfl (by as_aux_lemma => kernel_rfl) (by as_aux_lemma => kernel_rfl) (by as_aux_lemma => kernel_rfl) (fun _ _ _ h => h) (Or.inl ⟨by rfl, ?_⟩) (by assumption) ?_
  rotate_left
  · (intro w hSw; (try dsimp only at hSw); go_simp); (try with_reducible rfl)
  simp only [List.getElem_toArray, List.getElem_cons_zero, List.getElem_cons_succ, Act.put, List.setIfInBounds_toArray, List.set_cons_zero, List.set_cons_succ]
  refine wpAnyH_take (i := 14) (v := ?_) rfl (by as_aux_lemma => kernel_rfl) (by as_aux_lemma => kernel_rfl) (by as_aux_lemma => kernel_rfl) (fun _ _ _ h => h) (Or.inl ⟨by rfl, ?_⟩) (by assumption) ?_
  rotate_left
  · (intro w hSw; (try dsimp only at hSw); go_simp); (try with_reducible rfl)
  simp only [List.getElem_toArray, List.getElem_cons_zero, List.getElem_cons_succ, Act.put, List.setIfInBounds_toArray, List.set_cons_zero, List.set_cons_succ]
  refine wpAnyH_take (i := 15) (v := ?_) rfl (by as_aux_lemma => kernel_rfl) (by as_aux_lemma => kernel_rfl) (by as_aux_lemma => kernel_rfl) (fun _ _ _ h => h) (Or.inl ⟨by rfl, ?_⟩) (by assumption) ?_
  rotate_left
  · (intro w hSw; (try dsimp only at hSw); go_simp); (try with_reducible rfl)
  simp only [List.getElem_toArray, List.getElem_cons_zero, List.getElem_cons_succ, Act.put, List.setIfInBounds_toArray, List.set_cons_zero, List.set_cons_succ]
  refine wpAnyH_take (i := 16) (v := ?_) rfl (by as_aux_lemma => kernel_rfl) (by as_aux_lemma => kernel_rfl) (by as_aux_lemma => kernel_rfl) (fun _ _ _ h => h) (Or.inl ⟨by rfl, ?_⟩) (by assumption) ?_
  rotate_left
  · (intro w hSw; (try dsimp only at hSw); go_simp); (try with_reducible rfl)
  simp only [List.getElem_toArray, List.getElem_cons_zero, List.getElem_cons_succ, Act.put, List.setIfInBounds_toArray, List.set_cons_zero, List.set_cons_succ]
  refine wpAnyH_take (i := 17) (v := ?_) rfl (by as_aux_lemma => kernel_rfl) (by as_aux_lemma => kernel_rfl) (by as_aux_lemma => kernel_rfl) (fun _ _ _ h => h) (Or.inl ⟨by rfl, ?_⟩) (by assumption) ?_
  rotate_left
  · (intro w hSw; (try dsimp only at hSw); go_simp); (try with_reducible rfl)
  simp only [List.getElem_toArray, List.getElem_cons_zero, List.getElem_cons_succ, Act.put, List.setIfInBounds_toArray, List.set_cons_zero, List.set_cons_succ]
  refine wpAnyH_take (i := 18) (v := ?_) rfl (by as_aux_lemma => kernel_rfl) (by as_aux_lemma => kernel_rfl) (by as_aux_lemma => kernel_rfl) (fun _ _ _ h => h) (Or.inl ⟨by rfl, ?_⟩) (by assumption) ?_
  rotate_left
  · (intro w hSw; (try dsimp only at hSw); go_simp); (try with_reducible rfl)
  simp only [List.getElem_toArray, List.getElem_cons_zero, List.getElem_cons_succ, Act.put, List.setIfInBounds_toArray, List.set_cons_zero, List.set_cons_succ]
  refine wpAnyH_take (i := 19) (v := ?_) rfl (by as_aux_lemma => kernel_rfl) (by as_aux_lemma => kernel_rfl) (by as_aux_lemma => kernel_rfl) (fun _ _ _ h => h) (Or.inl ⟨by rfl, ?_⟩) (by assumption) ?_
  rotate_left
  · (intro w hSw; (try dsimp only at hSw); go_simp); (try with_reducible rfl)
  simp only [List.getElem_toArray, List.getElem_cons_zero, List.getElem_cons_succ, Act.put, List.setIfInBounds_toArray, List.set_cons_zero, List.set_cons_succ]
  refine wpAnyH_done (by as_aux_lemma => kernel_rfl) ?_ _
  clear Bx_0 Bx_1 Bx_l
  replace Bx := Bx.ext Fr2
  replace Ba := Ba.ext Fr2
  replace Bb := Bb.ext Fr2
  have Er := E3.trans Fr2
  clear Fr2 hHeld
  obtain ⟨Ba_0, Ba_1⟩ := id Ba
  have Ba_l := World.block_lt_of_cell? _ _ Ba_0
  go_wp2_with fail
  refine (Ha.out _).mono ?_
  rintro _ w4 ⟨rfl, f4⟩
  clear Ba_0 Ba_1 Ba_l
  have e4 : Ext ur2 w4 := (Ext.refl ur2).trans f4
  replace Bx := Bx.ext e4
  replace Ba := Ba.ext e4
  replace Bb := Bb.ext e4
  have E4 : Ext w w4 := Er.trans e4
  clear f4
  obtain ⟨Bb_0, Bb_1⟩ := id Bb
  have Bb_l := World.block_lt_of_cell? _ _ Bb_0
  go_wp2_with fail
  refine (Hb.out _).mono ?_
  rintro _ w5 ⟨rfl, f5⟩
  clear Bb_0 Bb_1 Bb_l
  have e5 : Ext w4 w5 := (Ext.refl w4).trans f5
  replace Bx := Bx.ext e5
  replace Ba := Ba.ext e5
  replace Bb := Bb.ext e5
  have E5 : Ext w w5 := E4.trans e5
  clear f5
  obtain ⟨Ba_0, Ba_1⟩ := id Ba
  have Ba_l := World.block_lt_of_cell? _ _ Ba_0
  go_wp2_with fail
  refine (HS1.out _ (T.out.ext (E5.trans (Ext.refl w5)))).mono ?_
  rintro _ w6 ⟨rfl, f6⟩
  clear Ba_0 Ba_1 Ba_l
  have e6 : Ext w5 w6 := (Ext.refl w5).trans f6
  replace Bx := Bx.ext e6
  replace Ba := Ba.ext e6
  replace Bb := Bb.ext e6
  have E6 : Ext w w6 := E5.trans e6
  clear f6
  obtain ⟨Ba_0, Ba_1⟩ := id Ba
  have Ba_l := World.block_lt_of_cell? _ _ Ba_0
  go_wp2_with fail
  refine (HS2.out _).mono ?_
  rintro _ w7 ⟨rfl, f7⟩
  clear Ba_0 Ba_1 Ba_l
  have By : B3 w7 (w6.heap.size) (.int .i64 f) (.int .i64 kr) (.int .i64 (qr : Int)) := B3.at ((Ext.refl _).trans f7) (by simp)
  have e7 : Ext w6 w7 := ((Ext.refl w6).alloc _).trans f7
  replace Bx := Bx.ext e7
  replace Ba := Ba.ext e7
  replace Bb := Bb.ext e7
  have E7 : Ext w w7 := E6.trans e7
  clear f7
  go_wp2
  have Bz : B3 (w7.alloc (.cells #[.int .i64 f, .int .i64 kr, .int .i64 (qr : Int)] 29)) w7.heap.size (.int .i64 f) (.int .i64 kr) (.int .i64 (qr : Int)) := B3.at (Ext.refl _) rfl
  have eV1 : Ext w7 (w7.alloc (.cells #[.int .i64 f, .int .i64 kr, .int .i64 (qr : Int)] 29)) := (Ext.refl _).alloc _
  replace Bx := Bx.ext eV1
  replace Ba := Ba.ext eV1
  replace Bb := Bb.ext eV1
  replace By := By.ext eV1
  have EV1 := E7.trans eV1
  clear eV1
  generalize hgen : (w7.alloc (.cells #[.int .i64 f, .int .i64 kr, .int .i64 (qr : Int)] 29)) = V1 at *
  clear hgen
  obtain ⟨Ba_0, Ba_1⟩ := id Ba
  have Ba_l := World.block_lt_of_cell? _ _ Ba_0
  obtain ⟨Bb_0, Bb_1⟩ := id Bb
  have Bb_l := World.block_lt_of_cell? _ _ Bb_0
  obtain ⟨By_0, By_1, By_2⟩ := id By
  have By_l := World.block_lt_of_cell? _ _ By_0
  obtain ⟨Bz_0, Bz_1, Bz_2⟩ := id Bz
  have Bz_l := World.block_lt_of_cell? _ _ Bz_0
  refine wp_region_held_drew (S := (fun w' => (w'.cell? ⟨w.heap.size, 0, none⟩ = some (.int .i64 Kx) ∧ w'.cell? ⟨w.heap.size, 1, none⟩ = some (.int .i64 Qx)) ∧ (w'.cell? ⟨w.heap.size + 1, 0, none⟩ = some (.int .i64 Ka) ∧ w'.cell? ⟨w.heap.size + 1, 1, none⟩ = some (.int .i64 (Qa : Int))) ∧ (w'.cell? ⟨w.heap.size + 1 + 1, 0, none⟩ = some (.int .i64 Kb) ∧ w'.cell? ⟨w.heap.size + 1 + 1, 1, none⟩ = some (.int .i64 (Qb : Int))) ∧ (w'.cell? ⟨w6.heap.size, 0, none⟩ = some (.int .i64 f) ∧ w'.cell? ⟨w6.heap.size, 1, none⟩ = some (.int .i64 kr) ∧ w'.cell? ⟨w6.heap.size, 2, none⟩ = some (.int .i64 (qr : Int))) ∧ (w'.cell? ⟨w7.heap.size, 0, none⟩ = some (.int .i64 f) ∧ w'.cell? ⟨w7.heap.size, 1, none⟩ = some (.int .i64 kr) ∧ w'.cell? ⟨w7.heap.size, 2, none⟩ = some (.int .i64 (qr : Int))))) (by as_aux_lemma => kernel_rfl) ⟨b2 (Bx.ext (Ext.refl V1).drew), b2 (Ba.ext (Ext.refl V1).drew), b2 (Bb.ext (Ext.refl V1).drew), b3 (By.ext (Ext.refl V1).drew), b3 (Bz.ext (Ext.refl V1).drew)⟩ (fun hHeld => ?_)
  refine wpAnyH_take (i := 0) (v := ?_) rfl (by as_aux_lemma => kernel_rfl) (by as_aux_lemma => kernel_rfl) (by as_aux_lemma => kernel_rfl) (fun _ _ _ h => h) (Or.inl ⟨by rfl, ?_⟩) (by assumption) ?_
  rotate_left
  · (intro w hSw; (try dsimp only at hSw); go_simp); (try with_reducible rfl)
  simp only [List.getElem_toArray, List.getElem_cons_zero, Act.put, List.setIfInBounds_toArray, List.set_cons_zero, List.set_cons_succ]
  refine wpAnyH_take (i := 1) (v := ?_) rfl (by as_aux_lemma => kernel_rfl) (by as_aux_lemma => kernel_rfl) (by as_aux_lemma => kernel_rfl) (fun _ _ _ h => h) (Or.inl ⟨by rfl, ?_⟩) (by assumption) ?_
  rotate_left
  · (intro w hSw; (try dsimp only at hSw); go_simp); (try with_reducible rfl)
  simp only [List.getElem_toArray, List.getElem_cons_zero, List.getElem_cons_succ, Act.put, List.setIfInBounds_toArray, List.set_cons_zero, List.set_cons_succ]
  refine wpAnyH_take (i := 2) (v := ?_) rfl (by as_aux_lemma => kernel_rfl) (by as_aux_lemma => kernel_rfl) (by as_aux_lemma => kernel_rfl) (fun _ _ _ h => h) (Or.inl ⟨by rfl, ?_⟩) (by assumption) ?_
  rotate_left
  · (intro w hSw; (try dsimp only at hSw); go_simp); (try with_reducible rfl)
  simp only [List.getElem_toArray, List.getElem_cons_zero, List.getElem_cons_succ, Act.put, List.setIfInBounds_toArray, List.set_cons_zero, List.set_cons_succ]
  refine wpAnyH_take (i := 4) (v := ?_) rfl (by as_aux_lemma => kernel_rfl) (by as_aux_lemma => kernel_rfl) (by as_aux_lemma => kernel_rfl) (fun _ _ _ h => h) (Or.inl ⟨by rfl, ?_⟩) (by assumption) ?_
  rotate_left
  · (intro w hSw; (try dsimp only at hSw); go_simp); (try with_reducible rfl)
  simp only [List.getElem_toArray, List.getElem_cons_zero, List.getElem_cons_succ, Act.put, List.setIfInBounds_toArray, List.set_cons_zero, List.set_cons_succ]
  refine wpAnyH_ready (rs := [3]) (by as_aux_lemma => kernel_rfl) (by simp) ?_
  refine AllReadyH.cons rfl (fun K hK => ?_) AllReadyH.nil
  go_simp
  refine (HF1.out _ (T.out.ext (EV1.trans (Ext.refl V1).drew))).mono ?_
  rintro _ uz1 ⟨rfl, euz1⟩
  have Fz1 : Ext V1 uz1 := (Ext.refl V1).drew.trans euz1
  refine hK.out _ _ ⟨b2 (Bx.ext Fz1), b2 (Ba.ext Fz1), b2 (Bb.ext Fz1), b3 (By.ext Fz1), b3 (Bz.ext Fz1)⟩ (fun hHeld => ?_)
  clear hK K euz1
  refine wpAnyH_ready (rs := [5]) (by as_aux_lemma => kernel_rfl) (by simp) ?_
  refine AllReadyH.cons rfl (fun K hK => ?_) AllReadyH.nil
  go_simp
  refine (HF2.out _).mono ?_
  rintro _ uz2 ⟨rfl, euz2⟩
  have Fz2 : Ext V1 uz2 := Fz1.trans euz2
  refine hK.out _ _ ⟨b2 (Bx.ext Fz2), b2 (Ba.ext Fz2), b2 (Bb.ext Fz2), b3 (By.ext Fz2), b3 (Bz.ext Fz2)⟩ (fun hHeld => ?_)
  clear hK K euz2 Fz1
  refine wpAnyH_take (i := 6) (v := ?_) rfl (by as_aux_lemma => kernel_rfl) (by as_aux_lemma => kernel_rfl) (by as_aux_lemma => kernel_rfl) (fun _ _ _ h => h) (Or.inl ⟨by rfl, ?_⟩) (by assumption) ?_
  rotate_left
  · (intro w hSw; (try dsimp only at hSw); go_simp); (try with_reducible rfl)
  simp only [List.getElem_toArray, List.getElem_cons_zero, List.getElem_cons_succ, Act.put, List.setIfInBounds_toArray, List.set_cons_zero, List.set_cons_succ]
  refine wpAnyH_take (i := 7) (v := ?_) rfl (by as_aux_lemma => kernel_rfl) (by as_aux_lemma => kernel_rfl) (by as_aux_lemma => kernel_rfl) (fun _ _ _ h => h) (Or.inl ⟨by rfl, ?_⟩) (by assumption) ?_
  rotate_left
  · (intro w hSw; (try dsimp only at hSw); go_simp); (try with_reducible rfl)
  simp only [List.getElem_toArray, List.getElem_cons_zero, List.getElem_cons_succ, Act.put, List.setIfInBounds_toArray, List.set_cons_zero, List.set_cons_succ]
  refine wpAnyH_take (i := 8) (v := ?_) rfl (by as_aux_lemma => kernel_rfl) (by as_aux_lemma => kernel_rfl) (by as_aux_lemma => kernel_rfl) (fun _ _ _ h => h) (Or.inl ⟨by rfl, ?_⟩) (by assumption) ?_
  rotate_left
  · (intro w hSw; (try dsimp only at hSw); go_simp); (try with_reducible rfl)
  simp only [List.getElem_toArray, List.getElem_cons_zero, List.getElem_cons_succ, Act.put, List.setIfInBounds_toArray, List.set_cons_zero, List.set_cons_succ]
  refine wpAnyH_take (i := 9) (v := ?_) rfl (by as_aux_lemma => kernel_rfl) (by as_aux_lemma => kernel_rfl) (by as_aux_lemma => kernel_rfl) (fun _ _ _ h => h) (Or.inl ⟨by rfl, ?_⟩) (by assumption) ?_
  rotate_left
  · (intro w hSw; (try dsimp only at hSw); go_simp); (try with_reducible rfl)
  simp only [List.getElem_toArray, List.getElem_cons_zero, List.getElem_cons_succ, Act.put, List.setIfInBounds_toArray, List.set_cons_zero, List.set_cons_succ]
  refine wpAnyH_take (i := 10) (v := ?_) rfl (by as_aux_lemma => kernel_rfl) (by as_aux_lemma => kernel_rfl) (by as_aux_lemma => kernel_rfl) (fun _ _ _ h => h) (Or.inl ⟨by rfl, ?_⟩) (by assumption) ?_
  rotate_left
  · (intro w hSw; (try dsimp only at hSw); go_simp); (try with_reducible rfl)
  simp only [List.getElem_toArray, List.getElem_cons_zero, List.getElem_cons_succ, Act.put, List.setIfInBounds_toArray, List.set_cons_zero, List.set_cons_succ]
  refine wpAnyH_take (i := 12) (v := ?_) rfl (by as_aux_lemma => kernel_rfl) (by as_aux_lemma => kernel_rfl) (by as_aux_lemma => kernel_rfl) (fun _ _ _ h => h) (Or.inl ⟨by rfl, ?_⟩) (by assumption) ?_
  rotate_left
  · (intro w hSw; (try dsimp only at hSw); go_simp); (try with_reducible rfl)
  simp only [List.getElem_toArray, List.getElem_cons_zero, List.getElem_cons_succ, Act.put, List.setIfInBounds_toArray, List.set_cons_zero, List.set_cons_succ]
  refine wpAnyH_take (i := 13) (v := ?_) rfl (by as_aux_lemma => kernel_rfl) (by as_aux_lemma => kernel_rfl) (by as_aux_lemma => kernel_rfl) (fun _ _ _ h => h) (Or.inl ⟨by rfl, ?_⟩) (by assumption) ?_
  rotate_left
  · (intro w hSw; (try dsimp only at hSw); go_simp); (try with_reducible rfl)
  simp only [List.getElem_toArray, List.getElem_cons_zero, List.getElem_cons_succ, Act.put, List.setIfInBounds_toArray, List.set_cons_zero, List.set_cons_succ]
  refine wpAnyH_ready (rs := [11]) (by as_aux_lemma => kernel_rfl) (by simp) ?_
  refine AllReadyH.cons rfl (fun K hK => ?_) AllReadyH.nil
  go_simp
  refine (HA1.out _ (T.out.ext (EV1.trans Fz2))).mono ?_
  rintro _ uz3 ⟨rfl, euz3⟩
  have Fz3 : Ext V1 uz3 := Fz2.trans euz3
  refine hK.out _ _ ⟨b2 (Bx.ext Fz3), b2 (Ba.ext Fz3), b2 (Bb.ext Fz3), b3 (By.ext Fz3), b3 (Bz.ext Fz3)⟩ (fun hHeld => ?_)
  clear hK K euz3 Fz2
  refine wpAnyH_ready (rs := [14]) (by as_aux_lemma => kernel_rfl) (by simp) ?_
  refine AllReadyH.cons rfl (fun K hK => ?_) AllReadyH.nil
  go_simp
  refine (HA2.out _).mono ?_
  rintro _ uz4 ⟨rfl, euz4⟩
  have Fz4 : Ext V1 uz4 := Fz3.trans euz4
  refine hK.out _ _ ⟨b2 (Bx.ext Fz4), b2 (Ba.ext Fz4), b2 (Bb.ext Fz4), b3 (By.ext Fz4), b3 (Bz.ext Fz4)⟩ (fun hHeld => ?_)
  clear hK K euz4 Fz3
  refine wpAnyH_take (i := 15) (v := ?_) rfl (by as_aux_lemma => kernel_rfl) (by as_aux_lemma => kernel_rfl) (by as_aux_lemma => kernel_rfl) (fun _ _ _ h => h) (Or.inl ⟨by rfl, ?_⟩) (by assumption) ?_
  rotate_left
  · (intro w hSw; (try dsimp only at hSw); go_simp); (try with_reducible rfl)
  simp only [List.getElem_toArray, List.getElem_cons_zero, List.getElem_cons_succ, Act.put, List.setIfInBounds_toArray, List.set_cons_zero, List.set_cons_succ]
  refine wpAnyH_take (i := 16) (v := ?_) rfl (by as_aux_lemma => kernel_rfl) (by as_aux_lemma => kernel_rfl) (by as_aux_lemma => kernel_rfl) (fun _ _ _ h => h) (Or.inl ⟨by rfl, ?_⟩) (by assumption) ?_
  rotate_left
  · (intro w hSw; (try dsimp only at hSw); go_simp); (try with_reducible rfl)
  simp only [List.getElem_toArray, List.getElem_cons_zero, List.getElem_cons_succ, Act.put, List.setIfInBounds_toArray, List.set_cons_zero, List.set_cons_succ]
  refine wpAnyH_take (i := 17) (v := ?_) rfl (by as_aux_lemma => kernel_rfl) (by as_aux_lemma => kernel_rfl) (by as_aux_lemma => kernel_rfl) (fun _ _ _ h => h) (Or.inl ⟨by rfl, ?_⟩) (by assumption) ?_
  rotate_left
  · (intro w hSw; (try dsimp only at hSw); go_simp); (try with_reducible rfl)
  simp only [List.getElem_toArray, List.getElem_cons_zero, List.getElem_cons_succ, Act.put, List.setIfInBounds_toArray, List.set_cons_zero, List.set_cons_succ]
  refine wpAnyH_take (i := 18) (v := ?_) rfl (by as_aux_lemma => kernel_rfl) (by as_aux_lemma => kernel_rfl) (by as_aux_lemma => kernel_rfl) (fun _ _ _ h => h) (Or.inl ⟨by rfl, ?_⟩) (by assumption) ?_
  rotate_left
  · (intro w hSw; (try dsimp only at hSw); go_simp); (try with_reducible rfl)
  simp only [List.getElem_toArray, List.getElem_cons_zero, List.getElem_cons_succ, Act.put, List.setIfInBounds_toArray, List.set_cons_zero, List.set_cons_succ]
  refine wpAnyH_take (i := 20) (v := ?_) rfl (by as_aux_lemma => kernel_rfl) (by as_aux_lemma => kernel_rfl) (by as_aux_lemma => kernel_rfl) (fun _ _ _ h => h) (Or.inl ⟨by rfl, ?_⟩) (by assumption) ?_
  rotate_left
  · (intro w hSw; (try dsimp only at hSw); go_simp); (try with_reducible rfl)
  simp only [List.getElem_toArray, List.getElem_cons_zero, List.getElem_cons_succ, Act.put, List.setIfInBounds_toArray, List.set_cons_zero, List.set_cons_succ]
  refine wpAnyH_ready (rs := [19]) (by as_aux_lemma => kernel_rfl) (by simp) ?_
  refine AllReadyH.cons rfl (fun K hK => ?_) AllReadyH.nil
  go_simp
  refine (HL1.out _ (T.out.ext (EV1.trans Fz4))).mono ?_
  rintro _ uz5 ⟨rfl, euz5⟩
  have Fz5 : Ext V1 uz5 := Fz4.trans euz5
  refine hK.out _ _ ⟨b2 (Bx.ext Fz5), b2 (Ba.ext Fz5), b2 (Bb.ext Fz5), b3 (By.ext Fz5), b3 (Bz.ext Fz5)⟩ (fun hHeld => ?_)
  clear hK K euz5 Fz4
  refine wpAnyH_ready (rs := [21]) (by as_aux_lemma => kernel_rfl) (by simp) ?_
  refine AllReadyH.cons rfl (fun K hK => ?_) AllReadyH.nil
  go_simp
  refine (HL2.out _).mono ?_
  rintro _ uz6 ⟨rfl, euz6⟩
  have Fz6 : Ext V1 uz6 := Fz5.trans euz6
  refine hK.out _ _ ⟨b2 (Bx.ext Fz6), b2 (Ba.ext Fz6), b2 (Bb.ext Fz6), b3 (By.ext Fz6), b3 (Bz.ext Fz6)⟩ (fun hHeld => ?_)
  clear hK K euz6 Fz5
  refine wpAnyH_take (i := 22) (v := ?_) rfl (by as_aux_lemma => kernel_rfl) (by as_aux_lemma => kernel_rfl) (by as_aux_lemma => kernel_rfl) (fun _ _ _ h => h) (Or.inl ⟨by rfl, ?_⟩) (by assumption) ?_
  rotate_left
  · (intro w hSw; (try dsimp only at hSw); go_simp); (try with_reducible rfl)
  simp only [List.getElem_toArray, List.getElem_cons_zero, List.getElem_cons_succ, Act.put, List.setIfInBounds_toArray, List.set_cons_zero, List.set_cons_succ]
  refine wpAnyH_take (i := 23) (v := ?_) rfl (by as_aux_lemma => kernel_rfl) (by as_aux_lemma => kernel_rfl) (by as_aux_lemma => kernel_rfl) (fun _ _ _ h => h) (Or.inl ⟨by rfl, ?_⟩) (by assumption) ?_
  rotate_left
  · (intro w hSw; (try dsimp only at hSw); go_simp); (try with_reducible rfl)
  simp only [List.getElem_toArray, List.getElem_cons_zero, List.getElem_cons_succ, Act.put, List.setIfInBounds_toArray, List.set_cons_zero, List.set_cons_succ]
  refine wpAnyH_take (i := 24) (v := ?_) rfl (by as_aux_lemma => kernel_rfl) (by as_aux_lemma => kernel_rfl) (by as_aux_lemma => kernel_rfl) (fun _ _ _ h => h) (Or.inl ⟨by rfl, ?_⟩) (by assumption) ?_
  rotate_left
  · (intro w hSw; (try dsimp only at hSw); go_simp); (try with_reducible rfl)
  simp only [List.getElem_toArray, List.getElem_cons_zero, List.getElem_cons_succ, Act.put, List.setIfInBounds_toArray, List.set_cons_zero, List.set_cons_succ]
  refine wpAnyH_take (i := 25) (v := ?_) rfl (by as_aux_lemma => kernel_rfl) (by as_aux_lemma => kernel_rfl) (by as_aux_lemma => kernel_rfl) (fun _ _ _ h => h) (Or.inl ⟨by rfl, ?_⟩) (by assumption) ?_
  rotate_left
  · (intro w hSw; (try dsimp only at hSw); go_simp); (try with_reducible rfl)
  simp only [List.getElem_toArray, List.getElem_cons_zero, List.getElem_cons_succ, Act.put, List.setIfInBounds_toArray, List.set_cons_zero, List.set_cons_succ]
  refine wpAnyH_take (i := 26) (v := ?_) rfl (by as_aux_lemma => kernel_rfl) (by as_aux_lemma => kernel_rfl) (by as_aux_lemma => kernel_rfl) (fun _ _ _ h => h) (Or.inl ⟨by rfl, ?_⟩) (by assumption) ?_
  rotate_left
  · (intro w hSw; (try dsimp only at hSw); go_simp); (try with_reducible rfl)
  simp only [List.getElem_toArray, List.getElem_cons_zero, List.getElem_cons_succ, Act.put, List.setIfInBounds_toArray, List.set_cons_zero, List.set_cons_succ]
  refine wpAnyH_take (i := 27) (v := ?_) rfl (by as_aux_lemma => kernel_rfl) (by as_aux_lemma => kernel_rfl) (by as_aux_lemma => kernel_rfl) (fun _ _ _ h => h) (Or.inl ⟨by rfl, ?_⟩) (by assumption) ?_
  rotate_left
  · (intro w hSw; (try dsimp only at hSw); go_simp); (try with_reducible rfl)
  simp only [List.getElem_toArray, List.getElem_cons_zero, List.getElem_cons_succ, Act.put, List.setIfInBounds_toArray, List.set_cons_zero, List.set_cons_succ]
  refine wpAnyH_take (i := 28) (v := undef) rfl (by as_aux_lemma => kernel_rfl) (by as_aux_lemma => kernel_rfl) (by as_aux_lemma => kernel_rfl) (fun _ _ _ h => h) (Or.inr ⟨by rfl, rfl⟩) (by assumption) ?_
  simp only [List.getElem_toArray, List.getElem_cons_zero, List.getElem_cons_succ, Act.put, List.setIfInBounds_toArray, List.set_cons_zero, List.set_cons_succ]
  refine wpAnyH_take (i := 29) (v := undef) rfl (by as_aux_lemma => kernel_rfl) (by as_aux_lemma => kernel_rfl) (by as_aux_lemma => kernel_rfl) (fun _ _ _ h => h) (Or.inr ⟨by rfl, rfl⟩) (by assumption) ?_
  simp only [List.getElem_toArray, List.getElem_cons_zero, List.getElem_cons_succ, Act.put, List.setIfInBounds_toArray, List.set_cons_zero, List.set_cons_succ]
  refine wpAnyH_take (i := 30) (v := ?_) rfl (by as_aux_lemma => kernel_rfl) (by as_aux_lemma => kernel_rfl) (by as_aux_lemma => kernel_rfl) (fun _ _ _ h => h) (Or.inl ⟨by rfl, ?_⟩) (by assumption) ?_
  rotate_left
  · (intro w hSw; (try dsimp only at hSw); go_simp); (try with_reducible rfl)
  simp only [List.getElem_toArray, List.getElem_cons_zero, List.getElem_cons_succ, Act.put, List.setIfInBounds_toArray, List.set_cons_zero, List.set_cons_succ]
  refine wpAnyH_take (i := 31) (v := ?_) rfl (by as_aux_lemma => kernel_rfl) (by as_aux_lemma => kernel_rfl) (by as_aux_lemma => kernel_rfl) (fun _ _ _ h => h) (Or.inl ⟨by rfl, ?_⟩) (by assumption) ?_
  rotate_left
  · (intro w hSw; (try dsimp only at hSw); go_simp); (try with_reducible rfl)
  simp only [List.getElem_toArray, List.getElem_cons_zero, List.getElem_cons_succ, Act.put, List.setIfInBounds_toArray, List.set_cons_zero, List.set_cons_succ]
  refine wpAnyH_take (i := 32) (v := undef) rfl (by as_aux_lemma => kernel_rfl) (by as_aux_lemma => kernel_rfl) (by as_aux_lemma => kernel_rfl) (fun _ _ _ h => h) (Or.inr ⟨by rfl, rfl⟩) (by assumption) ?_
  simp only [List.getElem_toArray, List.getElem_cons_zero, List.getElem_cons_succ, Act.put, List.setIfInBounds_toArray, List.set_cons_zero, List.set_cons_succ]
  refine wpAnyH_take (i := 33) (v := undef) rfl (by as_aux_lemma => kernel_rfl) (by as_aux_lemma => kernel_rfl) (by as_aux_lemma => kernel_rfl) (fun _ _ _ h => h) (Or.inr ⟨by rfl, rfl⟩) (by assumption) ?_
  simp only [List.getElem_toArray, List.getElem_cons_zero, List.getElem_cons_succ, Act.put, List.setIfInBounds_toArray, List.set_cons_zero, List.set_cons_succ]
  refine wpAnyH_take (i := 35) (v := undef) rfl (by as_aux_lemma => kernel_rfl) (by as_aux_lemma => kernel_rfl) (by as_aux_lemma => kernel_rfl) (fun _ _ _ h => h) (Or.inr ⟨by rfl, rfl⟩) (by assumption) ?_
  simp only [List.getElem_toArray, List.getElem_cons_zero, List.getElem_cons_succ, Act.put, List.setIfInBounds_toArray, List.set_cons_zero, List.set_cons_succ]
  refine wpAnyH_take (i := 36) (v := undef) rfl (by as_aux_lemma => kernel_rfl) (by as_aux_lemma => kernel_rfl) (by as_aux_lemma => kernel_rfl) (fun _ _ _ h => h) (Or.inr ⟨by rfl, rfl⟩) (by assumption) ?_
  simp only [List.getElem_toArray, List.getElem_cons_zero, List.getElem_cons_succ, Act.put, List.setIfInBounds_toArray, List.set_cons_zero, List.set_cons_succ]
  refine wpAnyH_take (i := 34) (v := undef) rfl (by as_aux_lemma => kernel_rfl) (by as_aux_lemma => kernel_rfl) (by as_aux_lemma => kernel_rfl) (fun _ _ _ h => h) (Or.inr ⟨by rfl, rfl⟩) (by assumption) ?_
  simp only [List.getElem_toArray, List.getElem_cons_zero, List.getElem_cons_succ, Act.put, List.setIfInBounds_toArray, List.set_cons_zero, List.set_cons_succ]
  refine wpAnyH_take (i := 37) (v := undef) rfl (by as_aux_lemma => kernel_rfl) (by as_aux_lemma => kernel_rfl) (by as_aux_lemma => kernel_rfl) (fun _ _ _ h => h) (Or.inr ⟨by rfl, rfl⟩) (by assumption) ?_
  simp only [List.getElem_toArray, List.getElem_cons_zero, List.getElem_cons_succ, Act.put, List.setIfInBounds_toArray, List.set_cons_zero, List.set_cons_succ]
  refine wpAnyH_take (i := 38) (v := undef) rfl (by as_aux_lemma => kernel_rfl) (by as_aux_lemma => kernel_rfl) (by as_aux_lemma => kernel_rfl) (fun _ _ _ h => h) (Or.inr ⟨by rfl, rfl⟩) (by assumption) ?_
  simp only [List.getElem_toArray, List.getElem_cons_zero, List.getElem_cons_succ, Act.put, List.setIfInBounds_toArray, List.set_cons_zero, List.set_cons_succ]
  refine wpAnyH_take (i := 39) (v := ?_) rfl (by as_aux_lemma => kernel_rfl) (by as_aux_lemma => kernel_rfl) (by as_aux_lemma => kernel_rfl) (fun _ _ _ h => h) (Or.inl ⟨by rfl, ?_⟩) (by assumption) ?_
  rotate_left
  · (intro w hSw; (try dsimp only at hSw); go_simp); (try with_reducible rfl)
  simp only [List.getElem_toArray, List.getElem_cons_zero, List.getElem_cons_succ, Act.put, List.setIfInBounds_toArray, List.set_cons_zero, List.set_cons_succ]
  refine wpAnyH_take (i := 40) (v := ?_) rfl (by as_aux_lemma => kernel_rfl) (by as_aux_lemma => kernel_rfl) (by as_aux_lemma => kernel_rfl) (fun _ _ _ h => h) (Or.inl ⟨by rfl, ?_⟩) (by assumption) ?_
  rotate_left
  · (intro w hSw; (try dsimp only at hSw); go_simp); (try with_reducible rfl)
  simp only [List.getElem_toArray, List.getElem_cons_zero, List.getElem_cons_succ, Act.put, List.setIfInBounds_toArray, List.set_cons_zero, List.set_cons_succ]
  refine wpAnyH_take (i := 41) (v := ?_) rfl (by as_aux_lemma => kernel_rfl) (by as_aux_lemma => kernel_rfl) (by as_aux_lemma => kernel_rfl) (fun _ _ _ h => h) (Or.inl ⟨by rfl, ?_⟩) (by assumption) ?_
  rotate_left
  · (intro w hSw; (try dsimp only at hSw); go_simp); (try with_reducible rfl)
  simp only [List.getElem_toArray, List.getElem_cons_zero, List.getElem_cons_succ, Act.put, List.setIfInBounds_toArray, List.set_cons_zero, List.set_cons_succ]
  refine wpAnyH_take (i := 42) (v := ?_) rfl (by as_aux_lemma => kernel_rfl) (by as_aux_lemma => kernel_rfl) (by as_aux_lemma => kernel_rfl) (fun _ _ _ h => h) (Or.inl ⟨by rfl, ?_⟩) (by assumption) ?_
  rotate_left
  · (intro w hSw; (try dsimp only at hSw); go_simp); (try with_reducible rfl)
  simp only [List.getElem_toArray, List.getElem_cons_zero, List.getElem_cons_succ, Act.put, List.setIfInBounds_toArray, List.set_cons_zero, List.set_cons_succ]
  refine wpAnyH_take (i := 43) (v := ?_) rfl (by as_aux_lemma => kernel_rfl) (by as_aux_lemma => kernel_rfl) (by as_aux_lemma => kernel_rfl) (fun _ _ _ h => h) (Or.inl ⟨by rfl, ?_⟩) (by assumption) ?_
  rotate_left
  · (intro w hSw; (try dsimp only at hSw); go_simp); (try with_reducible rfl)
  simp only [List.getElem_toArray, List.getElem_cons_zero, List.getElem_cons_succ, Act.put, List.setIfInBounds_toArray, List.set_cons_zero, List.set_cons_succ]
  refine wpAnyH_take (i := 44) (v := ?_) rfl (by as_aux_lemma => kernel_rfl) (by as_aux_lemma => kernel_rfl) (by as_aux_lemma => kernel_rfl) (fun _ _ _ h => h) (Or.inl ⟨by rfl, ?_⟩) (by assumption) ?_
  rotate_left
  · (intro w hSw; (try dsimp only at hSw); go_simp); (try with_reducible rfl)
  simp only [List.getElem_toArray, List.getElem_cons_zero, List.getElem_cons_succ, Act.put, List.setIfInBounds_toArray, List.set_cons_zero, List.set_cons_succ]
  refine wpAnyH_take (i := 45) (v := ?_) rfl (by as_aux_lemma => kernel_rfl) (by as_aux_lemma => kernel_rfl) (by as_aux_lemma => kernel_rfl) (fun _ _ _ h => h) (Or.inl ⟨by rfl, ?_⟩) (by assumption) ?_
  rotate_left
  · (intro w hSw; (try dsimp only at hSw); go_simp); (try with_reducible rfl)
  simp only [List.getElem_toArray, List.getElem_cons_zero, List.getElem_cons_succ, Act.put, List.setIfInBounds_toArray, List.set_cons_zero, List.set_cons_succ]
  refine wpAnyH_take (i := 46) (v := ?_) rfl (by as_aux_lemma => kernel_rfl) (by as_aux_lemma => kernel_rfl) (by as_aux_lemma => kernel_rfl) (fun _ _ _ h => h) (Or.inl ⟨by rfl, ?_⟩) (by assumption) ?_
  rotate_left
  · (intro w hSw; (try dsimp only at hSw); go_simp); (try with_reducible rfl)
  simp only [List.getElem_toArray, List.getElem_cons_zero, List.getElem_cons_succ, Act.put, List.setIfInBounds_toArray, List.set_cons_zero, List.set_cons_succ]
  refine wpAnyH_take (i := 47) (v := ?_) rfl (by as_aux_lemma => kernel_rfl) (by as_aux_lemma => kernel_rfl) (by as_aux_lemma => kernel_rfl) (fun _ _ _ h => h) (Or.inl ⟨by rfl, ?_⟩) (by assumption) ?_
  rotate_left
  · (intro w hSw; (try dsimp only at hSw); go_simp); (try with_reducible rfl)
  simp only [List.getElem_toArray, List.getElem_cons_zero, List.getElem_cons_succ, Act.put, List.setIfInBounds_toArray, List.set_cons_zero, List.set_cons_succ]
  refine wpAnyH_take (i := 49) (v := ?_) rfl (by as_aux_lemma => kernel_rfl) (by as_aux_lemma => kernel_rfl) (by as_aux_lemma => kernel_rfl) (fun _ _ _ h => h) (Or.inl ⟨by rfl, ?_⟩) (by assumption) ?_
  rotate_left
  · (intro w hSw; (try dsimp only at hSw); go_simp); (try with_reducible rfl)
  simp only [List.getElem_toArray, List.getElem_cons_zero, List.getElem_cons_succ, Act.put, List.setIfInBounds_toArray, List.set_cons_zero, List.set_cons_succ]
  refine wpAnyH_ready (rs := [48]) (by as_aux_lemma => kernel_rfl) (by simp) ?_
  refine AllReadyH.cons rfl (fun K hK => ?_) AllReadyH.nil
  go_simp
  refine (HJ.out _ (T.out.ext (EV1.trans Fz6))).mono ?_
  rintro _ uz7 ⟨rfl, euz7⟩
  have Fz7 : Ext V1 uz7 := Fz6.trans euz7
  refine hK.out _ _ ⟨b2 (Bx.ext Fz7), b2 (Ba.ext Fz7), b2 (Bb.ext Fz7), b3 (By.ext Fz7), b3 (Bz.ext Fz7)⟩ (fun hHeld => ?_)
  clear hK K euz7 Fz6
  refine wpAnyH_ready (rs := [50]) (by as_aux_lemma => kernel_rfl) (by simp) ?_
  refine AllReadyH.cons rfl (fun K hK => ?_) AllReadyH.nil
  go_simp
  refine (HF2.out _).mono ?_
  rintro _ uz8 ⟨rfl, euz8⟩
  have Fz8 : Ext V1 uz8 := Fz7.trans euz8
  refine hK.out _ _ ⟨b2 (Bx.ext Fz8), b2 (Ba.ext Fz8), b2 (Bb.ext Fz8), b3 (By.ext Fz8), b3 (Bz.ext Fz8)⟩ (fun hHeld => ?_)
  clear hK K euz8 Fz7
  refine wpAnyH_take (i := 51) (v := ?_) rfl (by as_aux_lemma => kernel_rfl) (by as_aux_lemma => kernel_rfl) (by as_aux_lemma => kernel_rfl) (fun _ _ _ h => h) (Or.inl ⟨by rfl, ?_⟩) (by assumption) ?_
  rotate_left
  · (intro w hSw; (try dsimp only at hSw); go_simp); (try with_reducible rfl)
  simp only [List.getElem_toArray, List.getElem_cons_zero, List.getElem_cons_succ, Act.put, List.setIfInBounds_toArray, List.set_cons_zero, List.set_cons_succ]
  refine wpAnyH_take (i := 52) (v := ?_) rfl (by as_aux_lemma => kernel_rfl) (by as_aux_lemma => kernel_rfl) (by as_aux_lemma => kernel_rfl) (fun _ _ _ h => h) (Or.inl ⟨by rfl, ?_⟩) (by assumption) ?_
  rotate_left
  · (intro w hSw; (try dsimp only at hSw); go_simp); (try with_reducible rfl)
  simp only [List.getElem_toArray, List.getElem_cons_zero, List.getElem_cons_succ, Act.put, List.setIfInBounds_toArray, List.set_cons_zero, List.set_cons_succ]
  refine wpAnyH_take (i := 53) (v := ?_) rfl (by as_aux_lemma => kernel_rfl) (by as_aux_lemma => kernel_rfl) (by as_aux_lemma => kernel_rfl) (fun _ _ _ h => h) (Or.inl ⟨by rfl, ?_⟩) (by assumption) ?_
  rotate_left
  · (intro w hSw; (try dsimp only at hSw); go_simp); (try with_reducible rfl)
  simp only [List.getElem_toArray, List.getElem_cons_zero, List.getElem_cons_succ, Act.put, List.setIfInBounds_toArray, List.set_cons_zero, List.set_cons_succ]
  refine wpAnyH_done (by as_aux_lemma => kernel_rfl) ?_ _
  clear Ba_0 Ba_1 Ba_l Bb_0 Bb_1 Bb_l By_0 By_1 By_2 By_l Bz_0 Bz_1 Bz_2 Bz_l
  replace Bx := Bx.ext Fz8
  replace Ba := Ba.ext Fz8
  replace Bb := Bb.ext Fz8
  replace By := By.ext Fz8
  replace Bz := Bz.ext Fz8
  have Ez := EV1.trans Fz8
  clear Fz8 hHeld
  go_wp2
  go_ret
  exact ⟨rfl, Ez⟩
set_option maxRecDepth 100000 in
set_option maxHeartbeats 4000000 in
theorem tells_hi (w : World) (T0 : Tu w) (Kx Qx : Int) (hKx : -9223372036854775808 ≤ Kx ∧ Kx ≤ 9223372036854775807) (hQx : -9223372036854775808 ≤ Qx ∧ Qx ≤ 9223372036854775807) (Ka : Int) (Qa : Nat) (hKa : -1099511627776 ≤ Ka ∧ Ka ≤ 1099511627776) (hQa : Qa ≤ 40) (Kb : Int) (Qb : Nat) (hKb : -1099511627776 ≤ Kb ∧ Kb ≤ 1099511627776) (hQb : Qb ≤ 40) (n : Int) (hn : -9223372036854775808 ≤ n ∧ n ≤ 9223372036854775807) (e : Int) (hr : ¬ n < -1048576 ∧ 1048576 < n) :
    Calls Tryd.prog 3 #[.agg #[.int .i64 Kx, .int .i64 Qx], .agg #[.int .i64 Ka, .int .i64 Qa], .agg #[.int .i64 Kb, .int .i64 Qb], .int .i64 n, .int .i64 e] w (RetE w (.bool true)) := by
  obtain ⟨s, hs⟩ : ∃ s, plSwap e = s := ⟨_, rfl⟩
  obtain ⟨c, hc⟩ : ∃ c, plCos e = c := ⟨_, rfl⟩
  obtain ⟨z, hz⟩ : ∃ z, plSin e = z := ⟨_, rfl⟩
  have HP := Lib.hid (fun w' (T' : Tu w') => tplace_lit w' T'.pl e s c z hs hc hz)
  have HRP := Lib.hid (fun w' => rplace_lit w' e s c z hs hc hz)
  obtain ⟨rx, hrx⟩ : ∃ r, rightT Kx Qx = r := ⟨_, rfl⟩
  have HX1 := Lib.hid (fun w' => tright_lit w' Kx Qx rx hrx hKx hQx)
  have HX2 := Lib.hid (fun w' => rright_lit w' Kx Qx rx hrx hKx hQx)
  have ra : rightT Ka Qa = true := rightT_iff.2 (by omega)
  have Ha := Lib.hid (fun w' => rright_lit w' Ka Qa true ra (by omega) (by omega))
  have rb : rightT Kb Qb = true := rightT_iff.2 (by omega)
  have Hb := Lib.hid (fun w' => rright_lit w' Kb Qb true rb (by omega) (by omega))
  have va := tv_range Ka Qa
  have vb := tv_range Kb Qb
  obtain ⟨q0, q1, q2, q3⟩ := rest_range va.1 va.2
  obtain ⟨kr, qr, h⟩ : ∃ k q, Fm (rest (tv Ka Qa)) k q := fm_there q2 (by omega)
  obtain ⟨ki, qi, hi⟩ := fm_there va.1 va.2
  obtain ⟨kj, qj, hj⟩ := fm_there vb.1 vb.2
  obtain ⟨f, hf⟩ : ∃ f, eighth (tv Ka Qa) = f := ⟨_, rfl⟩
  obtain ⟨kd, qd, hd⟩ : ∃ k q, Fm ((tv Ka Qa + tv Kb Qb) % 1099511627776) k q := fm_there (by omega) (by omega)
  obtain ⟨kf, qf, hfl⟩ : ∃ k q, Fm ((-tv Ka Qa) % 1099511627776) k q := fm_there (by omega) (by omega)
  obtain ⟨km, qm, hm⟩ : ∃ k q, Fm (n * tv Ka Qa % 1099511627776) k q := fm_there (by omega) (by omega)
  have HS1 := Lib.hid (fun w' (T' : Tu w') => tsplit_any w' T'.tb Ka kr f Qa qr hKa hQa hf h)
  have HS2 := Lib.hid (fun w' => rsplit_any w' Ka kr f Qa qr (by omega) hQa hf h)
  have HF1 := Lib.hid (fun w' (T' : Tu w') => tform_any w' T'.tb Ka ki Qa qi hKa hQa hi)
  have HF2 := Lib.hid (fun w' => rform_any w' Ka ki Qa qi (by omega) hQa hi)
  have HA1 := Lib.hid (fun w' (T' : Tu w') => tadd_any w' T'.tb Ka Kb kd Qa Qb qd hKa hKb hQa hQb hd)
  have HA2 := Lib.hid (fun w' => radd2_any w' Ka Kb ki kj kd Qa Qb qi qj qd (by omega) (by omega) hQa hQb hi hj hd)
  have HL1 := Lib.hid (fun w' (T' : Tu w') => tflip_any w' T'.tb Ka kf Qa qf hKa hQa hfl)
  have HL2 := Lib.hid (fun w' => rflip2_any w' Ka kf Qa qf (by omega) hQa hfl)
  have HM1 := Lib.hid (fun w' (T' : Tu w') => ttimes_any w' T'.tb Ka n km Qa qm hKa hQa hm)
  have HM2 := Lib.hid (fun w' => rtimes_any w' Ka n ki km Qa qi qm (by omega) hQa hn hi hm)
  have HJ := Lib.hid (fun w' (T' : Tu w') => tjoin_any w' T'.tb (tv Ka Qa) f kr ki qr qi va hf h hi)
  have g1d : decide (n < -1048576) = false := decide_eq_false (by omega)
  have g2d : decide (1048576 < n) = true := decide_eq_true (by omega)
  clear va vb q0 q1 q2 q3 h hi hj hf hd hfl hm hKx hQx hKa hQa hKb hQb hs hc hz hrx ra rb
  have T := Lib.hid T0
  clear T0
  go_enter Tryd.func3, Tryd.ntmps3
  go_wp2_with fail
  refine (headT_any _ (T.out.ext ((((Ext.refl w).alloc _).alloc _).alloc _))).mono ?_
  rintro _ w1 ⟨rfl, f1⟩
  have Bx : B2 w1 (w.heap.size) (.int .i64 Kx) (.int .i64 Qx) := B2.at ((((Ext.refl _).alloc _).alloc _).trans f1) (by simp)
  have Ba : B2 w1 (w.heap.size + 1) (.int .i64 Ka) (.int .i64 (Qa : Int)) := B2.at (((Ext.refl _).alloc _).trans f1) (by simp)
  have Bb : B2 w1 (w.heap.size + 1 + 1) (.int .i64 Kb) (.int .i64 (Qb : Int)) := B2.at ((Ext.refl _).trans f1) (by simp)
  have e1 : Ext w w1 := ((((Ext.refl w).alloc _).alloc _).alloc _).trans f1
  have E1 : Ext w w1 := e1
  clear f1
  obtain ⟨Bx_0, Bx_1⟩ := id Bx
  have Bx_l := World.block_lt_of_cell? _ _ Bx_0
  obtain ⟨Ba_0, Ba_1⟩ := id Ba
  have Ba_l := World.block_lt_of_cell? _ _ Ba_0
  obtain ⟨Bb_0, Bb_1⟩ := id Bb
  have Bb_l := World.block_lt_of_cell? _ _ Bb_0
  go_wp2_with fail
  refine (HP.out _ (T.out.ext (E1.trans (Ext.refl w1)))).mono ?_
  rintro _ w2 ⟨rfl, f2⟩
  clear Bx_0 Bx_1 Bx_l Ba_0 Ba_1 Ba_l Bb_0 Bb_1 Bb_l
  have e2 : Ext w1 w2 := (Ext.refl w1).trans f2
  replace Bx := Bx.ext e2
  replace Ba := Ba.ext e2
  replace Bb := Bb.ext e2
  have E2 : Ext w w2 := E1.trans e2
  clear f2
  go_wp2_with fail
  refine (HRP.out _).mono ?_
  rintro _ w3 ⟨rfl, f3⟩
  have e3 : Ext w2 w3 := (Ext.refl w2).trans f3
  replace Bx := Bx.ext e3
  replace Ba := Ba.ext e3
  replace Bb := Bb.ext e3
  have E3 : Ext w w3 := E2.trans e3
  clear f3
  obtain ⟨Bx_0, Bx_1⟩ := id Bx
  have Bx_l := World.block_lt_of_cell? _ _ Bx_0
  go_wp2
  refine wp_region_held_drew (S := (fun w' => (w'.cell? ⟨w.heap.size, 0, none⟩ = some (.int .i64 Kx) ∧ w'.cell? ⟨w.heap.size, 1, none⟩ = some (.int .i64 Qx)) ∧ (w'.cell? ⟨w.heap.size + 1, 0, none⟩ = some (.int .i64 Ka) ∧ w'.cell? ⟨w.heap.size + 1, 1, none⟩ = some (.int .i64 (Qa : Int))) ∧ (w'.cell? ⟨w.heap.size + 1 + 1, 0, none⟩ = some (.int .i64 Kb) ∧ w'.cell? ⟨w.heap.size + 1 + 1, 1, none⟩ = some (.int .i64 (Qb : Int))))) (by as_aux_lemma => kernel_rfl) ⟨b2 (Bx.ext (Ext.refl w3).drew), b2 (Ba.ext (Ext.refl w3).drew), b2 (Bb.ext (Ext.refl w3).drew)⟩ (fun hHeld => ?_)
  refine wpAnyH_take (i := 0) (v := ?_) rfl (by as_aux_lemma => kernel_rfl) (by as_aux_lemma => kernel_rfl) (by as_aux_lemma => kernel_rfl) (fun _ _ _ h => h) (Or.inl ⟨by rfl, ?_⟩) (by assumption) ?_
  rotate_left
  · (intro w hSw; (try dsimp only at hSw); go_simp); (try with_reducible rfl)
  simp only [List.getElem_toArray, List.getElem_cons_zero, Act.put, List.setIfInBounds_toArray, List.set_cons_zero, List.set_cons_succ]
  refine wpAnyH_take (i := 2) (v := ?_) rfl (by as_aux_lemma => kernel_rfl) (by as_aux_lemma => kernel_rfl) (by as_aux_lemma => kernel_rfl) (fun _ _ _ h => h) (Or.inl ⟨by rfl, ?_⟩) (by assumption) ?_
  rotate_left
  · (intro w hSw; (try dsimp only at hSw); go_simp); (try with_reducible rfl)
  simp only [List.getElem_toArray, List.getElem_cons_zero, List.getElem_cons_succ, Act.put, List.setIfInBounds_toArray, List.set_cons_zero, List.set_cons_succ]
  refine wpAnyH_ready (rs := [1]) (by as_aux_lemma => kernel_rfl) (by simp) ?_
  refine AllReadyH.cons rfl (fun K hK => ?_) AllReadyH.nil
  go_simp
  refine (HX1.out _).mono ?_
  rintro _ ur1 ⟨rfl, eur1⟩
  have Fr1 : Ext w3 ur1 := (Ext.refl w3).drew.trans eur1
  refine hK.out _ _ ⟨b2 (Bx.ext Fr1), b2 (Ba.ext Fr1), b2 (Bb.ext Fr1)⟩ (fun hHeld => ?_)
  clear hK K eur1
  refine wpAnyH_ready (rs := [3]) (by as_aux_lemma => kernel_rfl) (by simp) ?_
  refine AllReadyH.cons rfl (fun K hK => ?_) AllReadyH.nil
  go_simp
  refine (HX2.out _).mono ?_
  rintro _ ur2 ⟨rfl, eur2⟩
  have Fr2 : Ext w3 ur2 := Fr1.trans eur2
  refine hK.out _ _ ⟨b2 (Bx.ext Fr2), b2 (Ba.ext Fr2), b2 (Bb.ext Fr2)⟩ (fun hHeld => ?_)
  clear hK K eur2 Fr1
  refine wpAnyH_take (i := 4) (v := ?_) rfl (by as_aux_lemma => kernel_rfl) (by as_aux_lemma => kernel_rfl) (by as_aux_lemma => kernel_rfl) (fun _ _ _ h => h) (Or.inl ⟨by rfl, ?_⟩) (by assumption) ?_
  rotate_left
  · (intro w hSw; (try dsimp only at hSw); go_simp); (try with_reducible rfl)
  simp only [List.getElem_toArray, List.getElem_cons_zero, List.getElem_cons_succ, Act.put, List.setIfInBounds_toArray, List.set_cons_zero, List.set_cons_succ]
  refine wpAnyH_take (i := 5) (v := ?_) rfl (by as_aux_lemma => kernel_rfl) (by as_aux_lemma => kernel_rfl) (by as_aux_lemma => kernel_rfl) (fun _ _ _ h => h) (Or.inl ⟨by rfl, ?_⟩) (by assumption) ?_
  rotate_left
  · (intro w hSw; (try dsimp only at hSw); go_simp); (try with_reducible rfl)
  simp only [List.getElem_toArray, List.getElem_cons_zero, List.getElem_cons_succ, Act.put, List.setIfInBounds_toArray, List.set_cons_zero, List.set_cons_succ]
  refine wpAnyH_take (i := 6) (v := ?_) rfl (by as_aux_lemma => kernel_rfl) (by as_aux_lemma => kernel_rfl) (by as_aux_lemma => kernel_rfl) (fun _ _ _ h => h) (Or.inl ⟨by rfl, ?_⟩) (by assumption) ?_
  rotate_left
  · (intro w hSw; (try dsimp only at hSw); go_simp); (try with_reducible rfl)
  simp only [List.getElem_toArray, List.getElem_cons_zero, List.getElem_cons_succ, Act.put, List.setIfInBounds_toArray, List.set_cons_zero, List.set_cons_succ]
  refine wpAnyH_take (i := 7) (v := ?_) rfl (by as_aux_lemma => kernel_rfl) (by as_aux_lemma => kernel_rfl) (by as_aux_lemma => kernel_rfl) (fun _ _ _ h => h) (Or.inl ⟨by rfl, ?_⟩) (by assumption) ?_
  rotate_left
  · (intro w hSw; (try dsimp only at hSw); go_simp); (try with_reducible rfl)
  simp only [List.getElem_toArray, List.getElem_cons_zero, List.getElem_cons_succ, Act.put, List.setIfInBounds_toArray, List.set_cons_zero, List.set_cons_succ]
  refine wpAnyH_take (i := 8) (v := ?_) rfl (by as_aux_lemma => kernel_rfl) (by as_aux_lemma => kernel_rfl) (by as_aux_lemma => kernel_rfl) (fun _ _ _ h => h) (Or.inl ⟨by rfl, ?_⟩) (by assumption) ?_
  rotate_left
  · (intro w hSw; (try dsimp only at hSw); go_simp); (try with_reducible rfl)
  simp only [List.getElem_toArray, List.getElem_cons_zero, List.getElem_cons_succ, Act.put, List.setIfInBounds_toArray, List.set_cons_zero, List.set_cons_succ]
  refine wpAnyH_take (i := 9) (v := ?_) rfl (by as_aux_lemma => kernel_rfl) (by as_aux_lemma => kernel_rfl) (by as_aux_lemma => kernel_rfl) (fun _ _ _ h => h) (Or.inl ⟨by rfl, ?_⟩) (by assumption) ?_
  rotate_left
  · (intro w hSw; (try dsimp only at hSw); go_simp); (try with_reducible rfl)
  simp only [List.getElem_toArray, List.getElem_cons_zero, List.getElem_cons_succ, Act.put, List.setIfInBounds_toArray, List.set_cons_zero, List.set_cons_succ]
  refine wpAnyH_take (i := 10) (v := ?_) rfl (by as_aux_lemma => kernel_rfl) (by as_aux_lemma => kernel_rfl) (by as_aux_lemma => kernel_rfl) (fun _ _ _ h => h) (Or.inl ⟨by rfl, ?_⟩) (by assumption) ?_
  rotate_left
  · (intro w hSw; (try dsimp only at hSw); go_simp); (try with_reducible rfl)
  simp only [List.getElem_toArray, List.getElem_cons_zero, List.getElem_cons_succ, Act.put, List.setIfInBounds_toArray, List.set_cons_zero, List.set_cons_succ]
  refine wpAnyH_take (i := 11) (v := ?_) rfl (by as_aux_lemma => kernel_rfl) (by as_aux_lemma => kernel_rfl) (by as_aux_lemma => kernel_rfl) (fun _ _ _ h => h) (Or.inl ⟨by rfl, ?_⟩) (by assumption) ?_
  rotate_left
  · (intro w hSw; (try dsimp only at hSw); go_simp); (try with_reducible rfl)
  simp only [List.getElem_toArray, List.getElem_cons_zero, List.getElem_cons_succ, Act.put, List.setIfInBounds_toArray, List.set_cons_zero, List.set_cons_succ]
  refine wpAnyH_take (i := 12) (v := ?_) rfl (by as_aux_lemma => kernel_rfl) (by as_aux_lemma => kernel_rfl) (by as_aux_lemma => kernel_rfl) (fun _ _ _ h => h) (Or.inl ⟨by rfl, ?_⟩) (by assumption) ?_
  rotate_left
  · (intro w hSw; (try dsimp only at hSw); go_simp); (try with_reducible rfl)
  simp only [List.getElem_toArray, List.getElem_cons_zero, List.getElem_cons_succ, Act.put, List.setIfInBounds_toArray, List.set_cons_zero, List.set_cons_succ]
  refine wpAnyH_take (i := 13) (v := ?_) rfl (by as_aux_lemma => kernel_rfl) (by as_aux_lemma => kernel_rfl) (by as_aux_lemma => kernel_rfl) (fun _ _ _ h => h) (Or.inl ⟨by rfl, ?_⟩) (by assumption) ?_
  rotate_left
  · (intro w hSw; (try dsimp only at hSw); go_simp); (try with_reducible rfl)
  simp only [List.getElem_toArray, List.getElem_cons_zero, List.getElem_cons_succ, Act.put, List.setIfInBounds_toArray, List.set_cons_zero, List.set_cons_succ]
  refine wpAnyH_take (i := 14) (v := ?_) rfl (by as_aux_lemma => kernel_rfl) (by as_aux_lemma => kernel_rfl) (by as_aux_lemma => kernel_rfl) (fun _ _ _ h => h) (Or.inl ⟨by rfl, ?_⟩) (by assumption) ?_
  rotate_left
  · (intro w hSw; (try dsimp only at hSw); go_simp); (try with_reducible rfl)
  simp only [List.getElem_toArray, List.getElem_cons_zero, List.getElem_cons_succ, Act.put, List.setIfInBounds_toArray, List.set_cons_zero, List.set_cons_succ]
  refine wpAnyH_take (i := 15) (v := ?_) rfl (by as_aux_lemma => kernel_rfl) (by as_aux_lemma => kernel_rfl) (by as_aux_lemma => kernel_rfl) (fun _ _ _ h => h) (Or.inl ⟨by rfl, ?_⟩) (by assumption) ?_
  rotate_left
  · (intro w hSw; (try dsimp only at hSw); go_simp); (try with_reducible rfl)
  simp only [List.getElem_toArray, List.getElem_cons_zero, List.getElem_cons_succ, Act.put, List.setIfInBounds_toArray, List.set_cons_zero, List.set_cons_succ]
  refine wpAnyH_take (i := 16) (v := ?_) rfl (by as_aux_lemma => kernel_rfl) (by as_aux_lemma => kernel_rfl) (by as_aux_lemma => kernel_rfl) (fun _ _ _ h => h) (Or.inl ⟨by rfl, ?_⟩) (by assumption) ?_
  rotate_left
  · (intro w hSw; (try dsimp only at hSw); go_simp); (try with_reducible rfl)
  simp only [List.getElem_toArray, List.getElem_cons_zero, List.getElem_cons_succ, Act.put, List.setIfInBounds_toArray, List.set_cons_zero, List.set_cons_succ]
  refine wpAnyH_take (i := 17) (v := ?_) rfl (by as_aux_lemma => kernel_rfl) (by as_aux_lemma => kernel_rfl) (by as_aux_lemma => kernel_rfl) (fun _ _ _ h => h) (Or.inl ⟨by rfl, ?_⟩) (by assumption) ?_
  rotate_left
  · (intro w hSw; (try dsimp only at hSw); go_simp); (try with_reducible rfl)
  simp only [List.getElem_toArray, List.getElem_cons_zero, List.getElem_cons_succ, Act.put, List.setIfInBounds_toArray, List.set_cons_zero, List.set_cons_succ]
  refine wpAnyH_take (i := 18) (v := ?_) rfl (by as_aux_lemma => kernel_rfl) (by as_aux_lemma => kernel_rfl) (by as_aux_lemma => kernel_rfl) (fun _ _ _ h => h) (Or.inl ⟨by rfl, ?_⟩) (by assumption) ?_
  rotate_left
  · (intro w hSw; (try dsimp only at hSw); go_simp); (try with_reducible rfl)
  simp only [List.getElem_toArray, List.getElem_cons_zero, List.getElem_cons_succ, Act.put, List.setIfInBounds_toArray, List.set_cons_zero, List.set_cons_succ]
  refine wpAnyH_take (i := 19) (v := ?_) rfl (by as_aux_lemma => kernel_rfl) (by as_aux_lemma => kernel_rfl) (by as_aux_lemma => kernel_rfl) (fun _ _ _ h => h) (Or.inl ⟨by rfl, ?_⟩) (by assumption) ?_
  rotate_left
  · (intro w hSw; (try dsimp only at hSw); go_simp); (try with_reducible rfl)
  simp only [List.getElem_toArray, List.getElem_cons_zero, List.getElem_cons_succ, Act.put, List.setIfInBounds_toArray, List.set_cons_zero, List.set_cons_succ]
  refine wpAnyH_done (by as_aux_lemma => kernel_rfl) ?_ _
  clear Bx_0 Bx_1 Bx_l
  replace Bx := Bx.ext Fr2
  replace Ba := Ba.ext Fr2
  replace Bb := Bb.ext Fr2
  have Er := E3.trans Fr2
  clear Fr2 hHeld
  obtain ⟨Ba_0, Ba_1⟩ := id Ba
  have Ba_l := World.block_lt_of_cell? _ _ Ba_0
  go_wp2_with fail
  refine (Ha.out _).mono ?_
  rintro _ w4 ⟨rfl, f4⟩
  clear Ba_0 Ba_1 Ba_l
  have e4 : Ext ur2 w4 := (Ext.refl ur2).trans f4
  replace Bx := Bx.ext e4
  replace Ba := Ba.ext e4
  replace Bb := Bb.ext e4
  have E4 : Ext w w4 := Er.trans e4
  clear f4
  obtain ⟨Bb_0, Bb_1⟩ := id Bb
  have Bb_l := World.block_lt_of_cell? _ _ Bb_0
  go_wp2_with fail
  refine (Hb.out _).mono ?_
  rintro _ w5 ⟨rfl, f5⟩
  clear Bb_0 Bb_1 Bb_l
  have e5 : Ext w4 w5 := (Ext.refl w4).trans f5
  replace Bx := Bx.ext e5
  replace Ba := Ba.ext e5
  replace Bb := Bb.ext e5
  have E5 : Ext w w5 := E4.trans e5
  clear f5
  obtain ⟨Ba_0, Ba_1⟩ := id Ba
  have Ba_l := World.block_lt_of_cell? _ _ Ba_0
  go_wp2_with fail
  refine (HS1.out _ (T.out.ext (E5.trans (Ext.refl w5)))).mono ?_
  rintro _ w6 ⟨rfl, f6⟩
  clear Ba_0 Ba_1 Ba_l
  have e6 : Ext w5 w6 := (Ext.refl w5).trans f6
  replace Bx := Bx.ext e6
  replace Ba := Ba.ext e6
  replace Bb := Bb.ext e6
  have E6 : Ext w w6 := E5.trans e6
  clear f6
  obtain ⟨Ba_0, Ba_1⟩ := id Ba
  have Ba_l := World.block_lt_of_cell? _ _ Ba_0
  go_wp2_with fail
  refine (HS2.out _).mono ?_
  rintro _ w7 ⟨rfl, f7⟩
  clear Ba_0 Ba_1 Ba_l
  have By : B3 w7 (w6.heap.size) (.int .i64 f) (.int .i64 kr) (.int .i64 (qr : Int)) := B3.at ((Ext.refl _).trans f7) (by simp)
  have e7 : Ext w6 w7 := ((Ext.refl w6).alloc _).trans f7
  replace Bx := Bx.ext e7
  replace Ba := Ba.ext e7
  replace Bb := Bb.ext e7
  have E7 : Ext w w7 := E6.trans e7
  clear f7
  go_wp2
  have Bz : B3 (w7.alloc (.cells #[.int .i64 f, .int .i64 kr, .int .i64 (qr : Int)] 29)) w7.heap.size (.int .i64 f) (.int .i64 kr) (.int .i64 (qr : Int)) := B3.at (Ext.refl _) rfl
  have eV1 : Ext w7 (w7.alloc (.cells #[.int .i64 f, .int .i64 kr, .int .i64 (qr : Int)] 29)) := (Ext.refl _).alloc _
  replace Bx := Bx.ext eV1
  replace Ba := Ba.ext eV1
  replace Bb := Bb.ext eV1
  replace By := By.ext eV1
  have EV1 := E7.trans eV1
  clear eV1
  generalize hgen : (w7.alloc (.cells #[.int .i64 f, .int .i64 kr, .int .i64 (qr : Int)] 29)) = V1 at *
  clear hgen
  obtain ⟨Ba_0, Ba_1⟩ := id Ba
  have Ba_l := World.block_lt_of_cell? _ _ Ba_0
  obtain ⟨Bb_0, Bb_1⟩ := id Bb
  have Bb_l := World.block_lt_of_cell? _ _ Bb_0
  obtain ⟨By_0, By_1, By_2⟩ := id By
  have By_l := World.block_lt_of_cell? _ _ By_0
  obtain ⟨Bz_0, Bz_1, Bz_2⟩ := id Bz
  have Bz_l := World.block_lt_of_cell? _ _ Bz_0
  refine wp_region_held_drew (S := (fun w' => (w'.cell? ⟨w.heap.size, 0, none⟩ = some (.int .i64 Kx) ∧ w'.cell? ⟨w.heap.size, 1, none⟩ = some (.int .i64 Qx)) ∧ (w'.cell? ⟨w.heap.size + 1, 0, none⟩ = some (.int .i64 Ka) ∧ w'.cell? ⟨w.heap.size + 1, 1, none⟩ = some (.int .i64 (Qa : Int))) ∧ (w'.cell? ⟨w.heap.size + 1 + 1, 0, none⟩ = some (.int .i64 Kb) ∧ w'.cell? ⟨w.heap.size + 1 + 1, 1, none⟩ = some (.int .i64 (Qb : Int))) ∧ (w'.cell? ⟨w6.heap.size, 0, none⟩ = some (.int .i64 f) ∧ w'.cell? ⟨w6.heap.size, 1, none⟩ = some (.int .i64 kr) ∧ w'.cell? ⟨w6.heap.size, 2, none⟩ = some (.int .i64 (qr : Int))) ∧ (w'.cell? ⟨w7.heap.size, 0, none⟩ = some (.int .i64 f) ∧ w'.cell? ⟨w7.heap.size, 1, none⟩ = some (.int .i64 kr) ∧ w'.cell? ⟨w7.heap.size, 2, none⟩ = some (.int .i64 (qr : Int))))) (by as_aux_lemma => kernel_rfl) ⟨b2 (Bx.ext (Ext.refl V1).drew), b2 (Ba.ext (Ext.refl V1).drew), b2 (Bb.ext (Ext.refl V1).drew), b3 (By.ext (Ext.refl V1).drew), b3 (Bz.ext (Ext.refl V1).drew)⟩ (fun hHeld => ?_)
  refine wpAnyH_take (i := 0) (v := ?_) rfl (by as_aux_lemma => kernel_rfl) (by as_aux_lemma => kernel_rfl) (by as_aux_lemma => kernel_rfl) (fun _ _ _ h => h) (Or.inl ⟨by rfl, ?_⟩) (by assumption) ?_
  rotate_left
  · (intro w hSw; (try dsimp only at hSw); go_simp); (try with_reducible rfl)
  simp only [List.getElem_toArray, List.getElem_cons_zero, Act.put, List.setIfInBounds_toArray, List.set_cons_zero, List.set_cons_succ]
  refine wpAnyH_take (i := 1) (v := ?_) rfl (by as_aux_lemma => kernel_rfl) (by as_aux_lemma => kernel_rfl) (by as_aux_lemma => kernel_rfl) (fun _ _ _ h => h) (Or.inl ⟨by rfl, ?_⟩) (by assumption) ?_
  rotate_left
  · (intro w hSw; (try dsimp only at hSw); go_simp); (try with_reducible rfl)
  simp only [List.getElem_toArray, List.getElem_cons_zero, List.getElem_cons_succ, Act.put, List.setIfInBounds_toArray, List.set_cons_zero, List.set_cons_succ]
  refine wpAnyH_take (i := 2) (v := ?_) rfl (by as_aux_lemma => kernel_rfl) (by as_aux_lemma => kernel_rfl) (by as_aux_lemma => kernel_rfl) (fun _ _ _ h => h) (Or.inl ⟨by rfl, ?_⟩) (by assumption) ?_
  rotate_left
  · (intro w hSw; (try dsimp only at hSw); go_simp); (try with_reducible rfl)
  simp only [List.getElem_toArray, List.getElem_cons_zero, List.getElem_cons_succ, Act.put, List.setIfInBounds_toArray, List.set_cons_zero, List.set_cons_succ]
  refine wpAnyH_take (i := 4) (v := ?_) rfl (by as_aux_lemma => kernel_rfl) (by as_aux_lemma => kernel_rfl) (by as_aux_lemma => kernel_rfl) (fun _ _ _ h => h) (Or.inl ⟨by rfl, ?_⟩) (by assumption) ?_
  rotate_left
  · (intro w hSw; (try dsimp only at hSw); go_simp); (try with_reducible rfl)
  simp only [List.getElem_toArray, List.getElem_cons_zero, List.getElem_cons_succ, Act.put, List.setIfInBounds_toArray, List.set_cons_zero, List.set_cons_succ]
  refine wpAnyH_ready (rs := [3]) (by as_aux_lemma => kernel_rfl) (by simp) ?_
  refine AllReadyH.cons rfl (fun K hK => ?_) AllReadyH.nil
  go_simp
  refine (HF1.out _ (T.out.ext (EV1.trans (Ext.refl V1).drew))).mono ?_
  rintro _ uz1 ⟨rfl, euz1⟩
  have Fz1 : Ext V1 uz1 := (Ext.refl V1).drew.trans euz1
  refine hK.out _ _ ⟨b2 (Bx.ext Fz1), b2 (Ba.ext Fz1), b2 (Bb.ext Fz1), b3 (By.ext Fz1), b3 (Bz.ext Fz1)⟩ (fun hHeld => ?_)
  clear hK K euz1
  refine wpAnyH_ready (rs := [5]) (by as_aux_lemma => kernel_rfl) (by simp) ?_
  refine AllReadyH.cons rfl (fun K hK => ?_) AllReadyH.nil
  go_simp
  refine (HF2.out _).mono ?_
  rintro _ uz2 ⟨rfl, euz2⟩
  have Fz2 : Ext V1 uz2 := Fz1.trans euz2
  refine hK.out _ _ ⟨b2 (Bx.ext Fz2), b2 (Ba.ext Fz2), b2 (Bb.ext Fz2), b3 (By.ext Fz2), b3 (Bz.ext Fz2)⟩ (fun hHeld => ?_)
  clear hK K euz2 Fz1
  refine wpAnyH_take (i := 6) (v := ?_) rfl (by as_aux_lemma => kernel_rfl) (by as_aux_lemma => kernel_rfl) (by as_aux_lemma => kernel_rfl) (fun _ _ _ h => h) (Or.inl ⟨by rfl, ?_⟩) (by assumption) ?_
  rotate_left
  · (intro w hSw; (try dsimp only at hSw); go_simp); (try with_reducible rfl)
  simp only [List.getElem_toArray, List.getElem_cons_zero, List.getElem_cons_succ, Act.put, List.setIfInBounds_toArray, List.set_cons_zero, List.set_cons_succ]
  refine wpAnyH_take (i := 7) (v := ?_) rfl (by as_aux_lemma => kernel_rfl) (by as_aux_lemma => kernel_rfl) (by as_aux_lemma => kernel_rfl) (fun _ _ _ h => h) (Or.inl ⟨by rfl, ?_⟩) (by assumption) ?_
  rotate_left
  · (intro w hSw; (try dsimp only at hSw); go_simp); (try with_reducible rfl)
  simp only [List.getElem_toArray, List.getElem_cons_zero, List.getElem_cons_succ, Act.put, List.setIfInBounds_toArray, List.set_cons_zero, List.set_cons_succ]
  refine wpAnyH_take (i := 8) (v := ?_) rfl (by as_aux_lemma => kernel_rfl) (by as_aux_lemma => kernel_rfl) (by as_aux_lemma => kernel_rfl) (fun _ _ _ h => h) (Or.inl ⟨by rfl, ?_⟩) (by assumption) ?_
  rotate_left
  · (intro w hSw; (try dsimp only at hSw); go_simp); (try with_reducible rfl)
  simp only [List.getElem_toArray, List.getElem_cons_zero, List.getElem_cons_succ, Act.put, List.setIfInBounds_toArray, List.set_cons_zero, List.set_cons_succ]
  refine wpAnyH_take (i := 9) (v := ?_) rfl (by as_aux_lemma => kernel_rfl) (by as_aux_lemma => kernel_rfl) (by as_aux_lemma => kernel_rfl) (fun _ _ _ h => h) (Or.inl ⟨by rfl, ?_⟩) (by assumption) ?_
  rotate_left
  · (intro w hSw; (try dsimp only at hSw); go_simp); (try with_reducible rfl)
  simp only [List.getElem_toArray, List.getElem_cons_zero, List.getElem_cons_succ, Act.put, List.setIfInBounds_toArray, List.set_cons_zero, List.set_cons_succ]
  refine wpAnyH_take (i := 10) (v := ?_) rfl (by as_aux_lemma => kernel_rfl) (by as_aux_lemma => kernel_rfl) (by as_aux_lemma => kernel_rfl) (fun _ _ _ h => h) (Or.inl ⟨by rfl, ?_⟩) (by assumption) ?_
  rotate_left
  · (intro w hSw; (try dsimp only at hSw); go_simp); (try with_reducible rfl)
  simp only [List.getElem_toArray, List.getElem_cons_zero, List.getElem_cons_succ, Act.put, List.setIfInBounds_toArray, List.set_cons_zero, List.set_cons_succ]
  refine wpAnyH_take (i := 12) (v := ?_) rfl (by as_aux_lemma => kernel_rfl) (by as_aux_lemma => kernel_rfl) (by as_aux_lemma => kernel_rfl) (fun _ _ _ h => h) (Or.inl ⟨by rfl, ?_⟩) (by assumption) ?_
  rotate_left
  · (intro w hSw; (try dsimp only at hSw); go_simp); (try with_reducible rfl)
  simp only [List.getElem_toArray, List.getElem_cons_zero, List.getElem_cons_succ, Act.put, List.setIfInBounds_toArray, List.set_cons_zero, List.set_cons_succ]
  refine wpAnyH_take (i := 13) (v := ?_) rfl (by as_aux_lemma => kernel_rfl) (by as_aux_lemma => kernel_rfl) (by as_aux_lemma => kernel_rfl) (fun _ _ _ h => h) (Or.inl ⟨by rfl, ?_⟩) (by assumption) ?_
  rotate_left
  · (intro w hSw; (try dsimp only at hSw); go_simp); (try with_reducible rfl)
  simp only [List.getElem_toArray, List.getElem_cons_zero, List.getElem_cons_succ, Act.put, List.setIfInBounds_toArray, List.set_cons_zero, List.set_cons_succ]
  refine wpAnyH_ready (rs := [11]) (by as_aux_lemma => kernel_rfl) (by simp) ?_
  refine AllReadyH.cons rfl (fun K hK => ?_) AllReadyH.nil
  go_simp
  refine (HA1.out _ (T.out.ext (EV1.trans Fz2))).mono ?_
  rintro _ uz3 ⟨rfl, euz3⟩
  have Fz3 : Ext V1 uz3 := Fz2.trans euz3
  refine hK.out _ _ ⟨b2 (Bx.ext Fz3), b2 (Ba.ext Fz3), b2 (Bb.ext Fz3), b3 (By.ext Fz3), b3 (Bz.ext Fz3)⟩ (fun hHeld => ?_)
  clear hK K euz3 Fz2
  refine wpAnyH_ready (rs := [14]) (by as_aux_lemma => kernel_rfl) (by simp) ?_
  refine AllReadyH.cons rfl (fun K hK => ?_) AllReadyH.nil
  go_simp
  refine (HA2.out _).mono ?_
  rintro _ uz4 ⟨rfl, euz4⟩
  have Fz4 : Ext V1 uz4 := Fz3.trans euz4
  refine hK.out _ _ ⟨b2 (Bx.ext Fz4), b2 (Ba.ext Fz4), b2 (Bb.ext Fz4), b3 (By.ext Fz4), b3 (Bz.ext Fz4)⟩ (fun hHeld => ?_)
  clear hK K euz4 Fz3
  refine wpAnyH_take (i := 15) (v := ?_) rfl (by as_aux_lemma => kernel_rfl) (by as_aux_lemma => kernel_rfl) (by as_aux_lemma => kernel_rfl) (fun _ _ _ h => h) (Or.inl ⟨by rfl, ?_⟩) (by assumption) ?_
  rotate_left
  · (intro w hSw; (try dsimp only at hSw); go_simp); (try with_reducible rfl)
  simp only [List.getElem_toArray, List.getElem_cons_zero, List.getElem_cons_succ, Act.put, List.setIfInBounds_toArray, List.set_cons_zero, List.set_cons_succ]
  refine wpAnyH_take (i := 16) (v := ?_) rfl (by as_aux_lemma => kernel_rfl) (by as_aux_lemma => kernel_rfl) (by as_aux_lemma => kernel_rfl) (fun _ _ _ h => h) (Or.inl ⟨by rfl, ?_⟩) (by assumption) ?_
  rotate_left
  · (intro w hSw; (try dsimp only at hSw); go_simp); (try with_reducible rfl)
  simp only [List.getElem_toArray, List.getElem_cons_zero, List.getElem_cons_succ, Act.put, List.setIfInBounds_toArray, List.set_cons_zero, List.set_cons_succ]
  refine wpAnyH_take (i := 17) (v := ?_) rfl (by as_aux_lemma => kernel_rfl) (by as_aux_lemma => kernel_rfl) (by as_aux_lemma => kernel_rfl) (fun _ _ _ h => h) (Or.inl ⟨by rfl, ?_⟩) (by assumption) ?_
  rotate_left
  · (intro w hSw; (try dsimp only at hSw); go_simp); (try with_reducible rfl)
  simp only [List.getElem_toArray, List.getElem_cons_zero, List.getElem_cons_succ, Act.put, List.setIfInBounds_toArray, List.set_cons_zero, List.set_cons_succ]
  refine wpAnyH_take (i := 18) (v := ?_) rfl (by as_aux_lemma => kernel_rfl) (by as_aux_lemma => kernel_rfl) (by as_aux_lemma => kernel_rfl) (fun _ _ _ h => h) (Or.inl ⟨by rfl, ?_⟩) (by assumption) ?_
  rotate_left
  · (intro w hSw; (try dsimp only at hSw); go_simp); (try with_reducible rfl)
  simp only [List.getElem_toArray, List.getElem_cons_zero, List.getElem_cons_succ, Act.put, List.setIfInBounds_toArray, List.set_cons_zero, List.set_cons_succ]
  refine wpAnyH_take (i := 20) (v := ?_) rfl (by as_aux_lemma => kernel_rfl) (by as_aux_lemma => kernel_rfl) (by as_aux_lemma => kernel_rfl) (fun _ _ _ h => h) (Or.inl ⟨by rfl, ?_⟩) (by assumption) ?_
  rotate_left
  · (intro w hSw; (try dsimp only at hSw); go_simp); (try with_reducible rfl)
  simp only [List.getElem_toArray, List.getElem_cons_zero, List.getElem_cons_succ, Act.put, List.setIfInBounds_toArray, List.set_cons_zero, List.set_cons_succ]
  refine wpAnyH_ready (rs := [19]) (by as_aux_lemma => kernel_rfl) (by simp) ?_
  refine AllReadyH.cons rfl (fun K hK => ?_) AllReadyH.nil
  go_simp
  refine (HL1.out _ (T.out.ext (EV1.trans Fz4))).mono ?_
  rintro _ uz5 ⟨rfl, euz5⟩
  have Fz5 : Ext V1 uz5 := Fz4.trans euz5
  refine hK.out _ _ ⟨b2 (Bx.ext Fz5), b2 (Ba.ext Fz5), b2 (Bb.ext Fz5), b3 (By.ext Fz5), b3 (Bz.ext Fz5)⟩ (fun hHeld => ?_)
  clear hK K euz5 Fz4
  refine wpAnyH_ready (rs := [21]) (by as_aux_lemma => kernel_rfl) (by simp) ?_
  refine AllReadyH.cons rfl (fun K hK => ?_) AllReadyH.nil
  go_simp
  refine (HL2.out _).mono ?_
  rintro _ uz6 ⟨rfl, euz6⟩
  have Fz6 : Ext V1 uz6 := Fz5.trans euz6
  refine hK.out _ _ ⟨b2 (Bx.ext Fz6), b2 (Ba.ext Fz6), b2 (Bb.ext Fz6), b3 (By.ext Fz6), b3 (Bz.ext Fz6)⟩ (fun hHeld => ?_)
  clear hK K euz6 Fz5
  refine wpAnyH_take (i := 22) (v := ?_) rfl (by as_aux_lemma => kernel_rfl) (by as_aux_lemma => kernel_rfl) (by as_aux_lemma => kernel_rfl) (fun _ _ _ h => h) (Or.inl ⟨by rfl, ?_⟩) (by assumption) ?_
  rotate_left
  · (intro w hSw; (try dsimp only at hSw); go_simp); (try with_reducible rfl)
  simp only [List.getElem_toArray, List.getElem_cons_zero, List.getElem_cons_succ, Act.put, List.setIfInBounds_toArray, List.set_cons_zero, List.set_cons_succ]
  refine wpAnyH_take (i := 23) (v := ?_) rfl (by as_aux_lemma => kernel_rfl) (by as_aux_lemma => kernel_rfl) (by as_aux_lemma => kernel_rfl) (fun _ _ _ h => h) (Or.inl ⟨by rfl, ?_⟩) (by assumption) ?_
  rotate_left
  · (intro w hSw; (try dsimp only at hSw); go_simp); (try with_reducible rfl)
  simp only [List.getElem_toArray, List.getElem_cons_zero, List.getElem_cons_succ, Act.put, List.setIfInBounds_toArray, List.set_cons_zero, List.set_cons_succ]
  refine wpAnyH_take (i := 24) (v := ?_) rfl (by as_aux_lemma => kernel_rfl) (by as_aux_lemma => kernel_rfl) (by as_aux_lemma => kernel_rfl) (fun _ _ _ h => h) (Or.inl ⟨by rfl, ?_⟩) (by assumption) ?_
  rotate_left
  · (intro w hSw; (try dsimp only at hSw); go_simp); (try with_reducible rfl)
  simp only [List.getElem_toArray, List.getElem_cons_zero, List.getElem_cons_succ, Act.put, List.setIfInBounds_toArray, List.set_cons_zero, List.set_cons_succ]
  refine wpAnyH_take (i := 25) (v := ?_) rfl (by as_aux_lemma => kernel_rfl) (by as_aux_lemma => kernel_rfl) (by as_aux_lemma => kernel_rfl) (fun _ _ _ h => h) (Or.inl ⟨by rfl, ?_⟩) (by assumption) ?_
  rotate_left
  · (intro w hSw; (try dsimp only at hSw); go_simp); (try with_reducible rfl)
  simp only [List.getElem_toArray, List.getElem_cons_zero, List.getElem_cons_succ, Act.put, List.setIfInBounds_toArray, List.set_cons_zero, List.set_cons_succ]
  refine wpAnyH_take (i := 26) (v := ?_) rfl (by as_aux_lemma => kernel_rfl) (by as_aux_lemma => kernel_rfl) (by as_aux_lemma => kernel_rfl) (fun _ _ _ h => h) (Or.inl ⟨by rfl, ?_⟩) (by assumption) ?_
  rotate_left
  · (intro w hSw; (try dsimp only at hSw); go_simp); (try with_reducible rfl)
  simp only [List.getElem_toArray, List.getElem_cons_zero, List.getElem_cons_succ, Act.put, List.setIfInBounds_toArray, List.set_cons_zero, List.set_cons_succ]
  refine wpAnyH_take (i := 27) (v := ?_) rfl (by as_aux_lemma => kernel_rfl) (by as_aux_lemma => kernel_rfl) (by as_aux_lemma => kernel_rfl) (fun _ _ _ h => h) (Or.inl ⟨by rfl, ?_⟩) (by assumption) ?_
  rotate_left
  · (intro w hSw; (try dsimp only at hSw); go_simp); (try with_reducible rfl)
  simp only [List.getElem_toArray, List.getElem_cons_zero, List.getElem_cons_succ, Act.put, List.setIfInBounds_toArray, List.set_cons_zero, List.set_cons_succ]
  refine wpAnyH_take (i := 28) (v := ?_) rfl (by as_aux_lemma => kernel_rfl) (by as_aux_lemma => kernel_rfl) (by as_aux_lemma => kernel_rfl) (fun _ _ _ h => h) (Or.inl ⟨by rfl, ?_⟩) (by assumption) ?_
  rotate_left
  · (intro w hSw; (try dsimp only at hSw); go_simp); (try with_reducible rfl)
  simp only [List.getElem_toArray, List.getElem_cons_zero, List.getElem_cons_succ, Act.put, List.setIfInBounds_toArray, List.set_cons_zero, List.set_cons_succ]
  refine wpAnyH_take (i := 29) (v := ?_) rfl (by as_aux_lemma => kernel_rfl) (by as_aux_lemma => kernel_rfl) (by as_aux_lemma => kernel_rfl) (fun _ _ _ h => h) (Or.inl ⟨by rfl, ?_⟩) (by assumption) ?_
  rotate_left
  · (intro w hSw; (try dsimp only at hSw); go_simp); (try with_reducible rfl)
  simp only [List.getElem_toArray, List.getElem_cons_zero, List.getElem_cons_succ, Act.put, List.setIfInBounds_toArray, List.set_cons_zero, List.set_cons_succ]
  refine wpAnyH_take (i := 30) (v := ?_) rfl (by as_aux_lemma => kernel_rfl) (by as_aux_lemma => kernel_rfl) (by as_aux_lemma => kernel_rfl) (fun _ _ _ h => h) (Or.inl ⟨by rfl, ?_⟩) (by assumption) ?_
  rotate_left
  · (intro w hSw; (try dsimp only at hSw); go_simp); (try with_reducible rfl)
  simp only [List.getElem_toArray, List.getElem_cons_zero, List.getElem_cons_succ, Act.put, List.setIfInBounds_toArray, List.set_cons_zero, List.set_cons_succ]
  refine wpAnyH_take (i := 31) (v := ?_) rfl (by as_aux_lemma => kernel_rfl) (by as_aux_lemma => kernel_rfl) (by as_aux_lemma => kernel_rfl) (fun _ _ _ h => h) (Or.inl ⟨by rfl, ?_⟩) (by assumption) ?_
  rotate_left
  · (intro w hSw; (try dsimp only at hSw); go_simp); (try with_reducible rfl)
  simp only [List.getElem_toArray, List.getElem_cons_zero, List.getElem_cons_succ, Act.put, List.setIfInBounds_toArray, List.set_cons_zero, List.set_cons_succ]
  refine wpAnyH_take (i := 32) (v := undef) rfl (by as_aux_lemma => kernel_rfl) (by as_aux_lemma => kernel_rfl) (by as_aux_lemma => kernel_rfl) (fun _ _ _ h => h) (Or.inr ⟨by rfl, rfl⟩) (by assumption) ?_
  simp only [List.getElem_toArray, List.getElem_cons_zero, List.getElem_cons_succ, Act.put, List.setIfInBounds_toArray, List.set_cons_zero, List.set_cons_succ]
  refine wpAnyH_take (i := 33) (v := undef) rfl (by as_aux_lemma => kernel_rfl) (by as_aux_lemma => kernel_rfl) (by as_aux_lemma => kernel_rfl) (fun _ _ _ h => h) (Or.inr ⟨by rfl, rfl⟩) (by assumption) ?_
  simp only [List.getElem_toArray, List.getElem_cons_zero, List.getElem_cons_succ, Act.put, List.setIfInBounds_toArray, List.set_cons_zero, List.set_cons_succ]
  refine wpAnyH_take (i := 35) (v := undef) rfl (by as_aux_lemma => kernel_rfl) (by as_aux_lemma => kernel_rfl) (by as_aux_lemma => kernel_rfl) (fun _ _ _ h => h) (Or.inr ⟨by rfl, rfl⟩) (by assumption) ?_
  simp only [List.getElem_toArray, List.getElem_cons_zero, List.getElem_cons_succ, Act.put, List.setIfInBounds_toArray, List.set_cons_zero, List.set_cons_succ]
  refine wpAnyH_take (i := 36) (v := undef) rfl (by as_aux_lemma => kernel_rfl) (by as_aux_lemma => kernel_rfl) (by as_aux_lemma => kernel_rfl) (fun _ _ _ h => h) (Or.inr ⟨by rfl, rfl⟩) (by assumption) ?_
  simp only [List.getElem_toArray, List.getElem_cons_zero, List.getElem_cons_succ, Act.put, List.setIfInBounds_toArray, List.set_cons_zero, List.set_cons_succ]
  refine wpAnyH_take (i := 34) (v := undef) rfl (by as_aux_lemma => kernel_rfl) (by as_aux_lemma => kernel_rfl) (by as_aux_lemma => kernel_rfl) (fun _ _ _ h => h) (Or.inr ⟨by rfl, rfl⟩) (by assumption) ?_
  simp only [List.getElem_toArray, List.getElem_cons_zero, List.getElem_cons_succ, Act.put, List.setIfInBounds_toArray, List.set_cons_zero, List.set_cons_succ]
  refine wpAnyH_take (i := 37) (v := undef) rfl (by as_aux_lemma => kernel_rfl) (by as_aux_lemma => kernel_rfl) (by as_aux_lemma => kernel_rfl) (fun _ _ _ h => h) (Or.inr ⟨by rfl, rfl⟩) (by assumption) ?_
  simp only [List.getElem_toArray, List.getElem_cons_zero, List.getElem_cons_succ, Act.put, List.setIfInBounds_toArray, List.set_cons_zero, List.set_cons_succ]
  refine wpAnyH_take (i := 38) (v := undef) rfl (by as_aux_lemma => kernel_rfl) (by as_aux_lemma => kernel_rfl) (by as_aux_lemma => kernel_rfl) (fun _ _ _ h => h) (Or.inr ⟨by rfl, rfl⟩) (by assumption) ?_
  simp only [List.getElem_toArray, List.getElem_cons_zero, List.getElem_cons_succ, Act.put, List.setIfInBounds_toArray, List.set_cons_zero, List.set_cons_succ]
  refine wpAnyH_take (i := 39) (v := ?_) rfl (by as_aux_lemma => kernel_rfl) (by as_aux_lemma => kernel_rfl) (by as_aux_lemma => kernel_rfl) (fun _ _ _ h => h) (Or.inl ⟨by rfl, ?_⟩) (by assumption) ?_
  rotate_left
  · (intro w hSw; (try dsimp only at hSw); go_simp); (try with_reducible rfl)
  simp only [List.getElem_toArray, List.getElem_cons_zero, List.getElem_cons_succ, Act.put, List.setIfInBounds_toArray, List.set_cons_zero, List.set_cons_succ]
  refine wpAnyH_take (i := 40) (v := ?_) rfl (by as_aux_lemma => kernel_rfl) (by as_aux_lemma => kernel_rfl) (by as_aux_lemma => kernel_rfl) (fun _ _ _ h => h) (Or.inl ⟨by rfl, ?_⟩) (by assumption) ?_
  rotate_left
  · (intro w hSw; (try dsimp only at hSw); go_simp); (try with_reducible rfl)
  simp only [List.getElem_toArray, List.getElem_cons_zero, List.getElem_cons_succ, Act.put, List.setIfInBounds_toArray, List.set_cons_zero, List.set_cons_succ]
  refine wpAnyH_take (i := 41) (v := ?_) rfl (by as_aux_lemma => kernel_rfl) (by as_aux_lemma => kernel_rfl) (by as_aux_lemma => kernel_rfl) (fun _ _ _ h => h) (Or.inl ⟨by rfl, ?_⟩) (by assumption) ?_
  rotate_left
  · (intro w hSw; (try dsimp only at hSw); go_simp); (try with_reducible rfl)
  simp only [List.getElem_toArray, List.getElem_cons_zero, List.getElem_cons_succ, Act.put, List.setIfInBounds_toArray, List.set_cons_zero, List.set_cons_succ]
  refine wpAnyH_take (i := 42) (v := ?_) rfl (by as_aux_lemma => kernel_rfl) (by as_aux_lemma => kernel_rfl) (by as_aux_lemma => kernel_rfl) (fun _ _ _ h => h) (Or.inl ⟨by rfl, ?_⟩) (by assumption) ?_
  rotate_left
  · (intro w hSw; (try dsimp only at hSw); go_simp); (try with_reducible rfl)
  simp only [List.getElem_toArray, List.getElem_cons_zero, List.getElem_cons_succ, Act.put, List.setIfInBounds_toArray, List.set_cons_zero, List.set_cons_succ]
  refine wpAnyH_take (i := 43) (v := ?_) rfl (by as_aux_lemma => kernel_rfl) (by as_aux_lemma => kernel_rfl) (by as_aux_lemma => kernel_rfl) (fun _ _ _ h => h) (Or.inl ⟨by rfl, ?_⟩) (by assumption) ?_
  rotate_left
  · (intro w hSw; (try dsimp only at hSw); go_simp); (try with_reducible rfl)
  simp only [List.getElem_toArray, List.getElem_cons_zero, List.getElem_cons_succ, Act.put, List.setIfInBounds_toArray, List.set_cons_zero, List.set_cons_succ]
  refine wpAnyH_take (i := 44) (v := ?_) rfl (by as_aux_lemma => kernel_rfl) (by as_aux_lemma => kernel_rfl) (by as_aux_lemma => kernel_rfl) (fun _ _ _ h => h) (Or.inl ⟨by rfl, ?_⟩) (by assumption) ?_
  rotate_left
  · (intro w hSw; (try dsimp only at hSw); go_simp); (try with_reducible rfl)
  simp only [List.getElem_toArray, List.getElem_cons_zero, List.getElem_cons_succ, Act.put, List.setIfInBounds_toArray, List.set_cons_zero, List.set_cons_succ]
  refine wpAnyH_take (i := 45) (v := ?_) rfl (by as_aux_lemma => kernel_rfl) (by as_aux_lemma => kernel_rfl) (by as_aux_lemma => kernel_rfl) (fun _ _ _ h => h) (Or.inl ⟨by rfl, ?_⟩) (by assumption) ?_
  rotate_left
  · (intro w hSw; (try dsimp only at hSw); go_simp); (try with_reducible rfl)
  simp only [List.getElem_toArray, List.getElem_cons_zero, List.getElem_cons_succ, Act.put, List.setIfInBounds_toArray, List.set_cons_zero, List.set_cons_succ]
  refine wpAnyH_take (i := 46) (v := ?_) rfl (by as_aux_lemma => kernel_rfl) (by as_aux_lemma => kernel_rfl) (by as_aux_lemma => kernel_rfl) (fun _ _ _ h => h) (Or.inl ⟨by rfl, ?_⟩) (by assumption) ?_
  rotate_left
  · (intro w hSw; (try dsimp only at hSw); go_simp); (try with_reducible rfl)
  simp only [List.getElem_toArray, List.getElem_cons_zero, List.getElem_cons_succ, Act.put, List.setIfInBounds_toArray, List.set_cons_zero, List.set_cons_succ]
  refine wpAnyH_take (i := 47) (v := ?_) rfl (by as_aux_lemma => kernel_rfl) (by as_aux_lemma => kernel_rfl) (by as_aux_lemma => kernel_rfl) (fun _ _ _ h => h) (Or.inl ⟨by rfl, ?_⟩) (by assumption) ?_
  rotate_left
  · (intro w hSw; (try dsimp only at hSw); go_simp); (try with_reducible rfl)
  simp only [List.getElem_toArray, List.getElem_cons_zero, List.getElem_cons_succ, Act.put, List.setIfInBounds_toArray, List.set_cons_zero, List.set_cons_succ]
  refine wpAnyH_take (i := 49) (v := ?_) rfl (by as_aux_lemma => kernel_rfl) (by as_aux_lemma => kernel_rfl) (by as_aux_lemma => kernel_rfl) (fun _ _ _ h => h) (Or.inl ⟨by rfl, ?_⟩) (by assumption) ?_
  rotate_left
  · (intro w hSw; (try dsimp only at hSw); go_simp); (try with_reducible rfl)
  simp only [List.getElem_toArray, List.getElem_cons_zero, List.getElem_cons_succ, Act.put, List.setIfInBounds_toArray, List.set_cons_zero, List.set_cons_succ]
  refine wpAnyH_ready (rs := [48]) (by as_aux_lemma => kernel_rfl) (by simp) ?_
  refine AllReadyH.cons rfl (fun K hK => ?_) AllReadyH.nil
  go_simp
  refine (HJ.out _ (T.out.ext (EV1.trans Fz6))).mono ?_
  rintro _ uz7 ⟨rfl, euz7⟩
  have Fz7 : Ext V1 uz7 := Fz6.trans euz7
  refine hK.out _ _ ⟨b2 (Bx.ext Fz7), b2 (Ba.ext Fz7), b2 (Bb.ext Fz7), b3 (By.ext Fz7), b3 (Bz.ext Fz7)⟩ (fun hHeld => ?_)
  clear hK K euz7 Fz6
  refine wpAnyH_ready (rs := [50]) (by as_aux_lemma => kernel_rfl) (by simp) ?_
  refine AllReadyH.cons rfl (fun K hK => ?_) AllReadyH.nil
  go_simp
  refine (HF2.out _).mono ?_
  rintro _ uz8 ⟨rfl, euz8⟩
  have Fz8 : Ext V1 uz8 := Fz7.trans euz8
  refine hK.out _ _ ⟨b2 (Bx.ext Fz8), b2 (Ba.ext Fz8), b2 (Bb.ext Fz8), b3 (By.ext Fz8), b3 (Bz.ext Fz8)⟩ (fun hHeld => ?_)
  clear hK K euz8 Fz7
  refine wpAnyH_take (i := 51) (v := ?_) rfl (by as_aux_lemma => kernel_rfl) (by as_aux_lemma => kernel_rfl) (by as_aux_lemma => kernel_rfl) (fun _ _ _ h => h) (Or.inl ⟨by rfl, ?_⟩) (by assumption) ?_
  rotate_left
  · (intro w hSw; (try dsimp only at hSw); go_simp); (try with_reducible rfl)
  simp only [List.getElem_toArray, List.getElem_cons_zero, List.getElem_cons_succ, Act.put, List.setIfInBounds_toArray, List.set_cons_zero, List.set_cons_succ]
  refine wpAnyH_take (i := 52) (v := ?_) rfl (by as_aux_lemma => kernel_rfl) (by as_aux_lemma => kernel_rfl) (by as_aux_lemma => kernel_rfl) (fun _ _ _ h => h) (Or.inl ⟨by rfl, ?_⟩) (by assumption) ?_
  rotate_left
  · (intro w hSw; (try dsimp only at hSw); go_simp); (try with_reducible rfl)
  simp only [List.getElem_toArray, List.getElem_cons_zero, List.getElem_cons_succ, Act.put, List.setIfInBounds_toArray, List.set_cons_zero, List.set_cons_succ]
  refine wpAnyH_take (i := 53) (v := ?_) rfl (by as_aux_lemma => kernel_rfl) (by as_aux_lemma => kernel_rfl) (by as_aux_lemma => kernel_rfl) (fun _ _ _ h => h) (Or.inl ⟨by rfl, ?_⟩) (by assumption) ?_
  rotate_left
  · (intro w hSw; (try dsimp only at hSw); go_simp); (try with_reducible rfl)
  simp only [List.getElem_toArray, List.getElem_cons_zero, List.getElem_cons_succ, Act.put, List.setIfInBounds_toArray, List.set_cons_zero, List.set_cons_succ]
  refine wpAnyH_done (by as_aux_lemma => kernel_rfl) ?_ _
  clear Ba_0 Ba_1 Ba_l Bb_0 Bb_1 Bb_l By_0 By_1 By_2 By_l Bz_0 Bz_1 Bz_2 Bz_l
  replace Bx := Bx.ext Fz8
  replace Ba := Ba.ext Fz8
  replace Bb := Bb.ext Fz8
  replace By := By.ext Fz8
  replace Bz := Bz.ext Fz8
  have Ez := EV1.trans Fz8
  clear Fz8 hHeld
  go_wp2
  go_ret
  exact ⟨rfl, Ez⟩
theorem walk_TurnTells (w : World) (T : Tu w) (Kx Qx : Int) (hKx : -9223372036854775808 ≤ Kx ∧ Kx ≤ 9223372036854775807) (hQx : -9223372036854775808 ≤ Qx ∧ Qx ≤ 9223372036854775807) (Ka Qa : Int) (hKa : -9223372036854775808 ≤ Ka ∧ Ka ≤ 9223372036854775807) (hQa : -9223372036854775808 ≤ Qa ∧ Qa ≤ 9223372036854775807) (Kb Qb : Int) (hKb : -9223372036854775808 ≤ Kb ∧ Kb ≤ 9223372036854775807) (hQb : -9223372036854775808 ≤ Qb ∧ Qb ≤ 9223372036854775807) (n : Int) (hn : -9223372036854775808 ≤ n ∧ n ≤ 9223372036854775807) (e : Int) (he : -9223372036854775808 ≤ e ∧ e ≤ 9223372036854775807) : Calls Tryd.prog 3 #[.agg #[.int .i64 Kx, .int .i64 Qx], .agg #[.int .i64 Ka, .int .i64 Qa], .agg #[.int .i64 Kb, .int .i64 Qb], .int .i64 n, .int .i64 e] w (RetE w (.bool true)) := by
  cases ra : rightT Ka Qa
  · exact tells_noa w T Kx Qx hKx hQx Ka Qa hKa hQa Kb Qb hKb hQb n hn e ra
  · cases rb : rightT Kb Qb
    · exact tells_nob w T Kx Qx hKx hQx Ka Qa hKa hQa Kb Qb hKb hQb n hn e ra rb
    · obtain ⟨a1, a2⟩ := rightT_iff.1 ra
      obtain ⟨b1, b2⟩ := rightT_iff.1 rb
      obtain ⟨qa, rfl⟩ : ∃ q : Nat, Qa = (q : Int) := ⟨Qa.toNat, by omega⟩
      obtain ⟨qb, rfl⟩ : ∃ q : Nat, Qb = (q : Int) := ⟨Qb.toNat, by omega⟩
      by_cases c1 : n < -1048576
      · exact tells_lo w T Kx Qx hKx hQx Ka qa a2 (by omega) Kb qb b2 (by omega) n hn e c1
      · by_cases c2 : 1048576 < n
        · exact tells_hi w T Kx Qx hKx hQx Ka qa a2 (by omega) Kb qb b2 (by omega) n hn e ⟨c1, c2⟩
        · exact tells_in w T Kx Qx hKx hQx Ka qa a2 (by omega) Kb qb b2 (by omega) n hn e (by omega)
end Go.Proofs.YtncopdgonbgaaaaDoor
