/- The walk of CircTells. -/
import Derived.Test.YtomdbmjfehoodaaGreatDoorLH
import Derived.Test.YtomdbmjfehoodaaGreatDoorLG
import Derived.Test.YtomdbmjfehoodaaGreatDoorQF
set_option maxRecDepth 8000
namespace Go.Proofs.YtomdbmjfehoodaaGreatDoor
open Go.RowKit
set_option linter.unusedVariables false
set_option linter.unusedSimpArgs false
theorem goodD_lit9 (w : World) (nb : Bool) (M : Value) (xs : List Int) (e : Int) (r : Bool) (hr : goodAll 1 (pk nb nb nb) (pk xs xs xs) (pk e e e) = r) (row : Row w M xs) (be : -9223372036854775808 ≤ e ∧ e ≤ 9223372036854775807) : Calls Tryz.prog 11 #[.slice (some ⟨w.heap.size, 0, none⟩) 1 1] (w.alloc (.cells #[.bool nb, M, .int .i64 e] 26)) (RetE (w.alloc (.cells #[.bool nb, M, .int .i64 e] 26)) (.bool r)) := by
  subst hr; exact good_any _ _ 1 1 _ _ _ _ (by omega) (many1 w 26 nb M xs e row be)
theorem rfloor_lit9 (w : World) (v : Value) (d f : Dyadic) (j : Int) (n P Q : Nat) (hj : j = (n : Int)) (hf : flo n d = f) (h : Dn w v d) (r : Rg P Q d) (hb : P + Q ≤ 4800) (hn : n ≤ 1000) :
    Calls Tryz.prog 20 #[v, .int .i64 j] w (RetD w f) := by
  subst hf; exact rfloor_any w v d j n P Q hj h r hb hn
set_option maxRecDepth 100000 in
set_option maxHeartbeats 4000000 in
theorem tells_no (w : World) (T0 : Tu w) (K Q n : Int) (nb : Bool) (M : Value) (xs : List Int) (e : Int) (row : Row w M xs) (be : -9223372036854775808 ≤ e ∧ e ≤ 9223372036854775807) (bK : -9223372036854775808 ≤ K ∧ K ≤ 9223372036854775807) (bQ : -9223372036854775808 ≤ Q ∧ Q ≤ 9223372036854775807) (hn : 0 ≤ n ∧ n ≤ 255) (hr : goodT K Q = false) :
    Calls Tryz.prog 3 #[.agg #[.int .i64 K, .int .i64 Q], .int .u8 n, .agg #[.bool nb, M, .int .i64 e]] w (RetE w (.bool true)) := by
  have T := T0.tb
  have P := T0.pl
  clear T0
  go_enter Tryz.func3, Tryz.ntmps3
  go_wp2_with fail
  refine (headC_any _ (T.ext (((Ext.refl w).alloc _).alloc _)) (P.ext (((Ext.refl w).alloc _).alloc _))).mono ?_
  rintro _ w1 ⟨rfl, f1⟩
  have Bt0 : B2 w1 (w.heap.size) (.int .i64 K) (.int .i64 Q) := B2.at (((Ext.refl _).alloc _).trans f1) (by simp)
  have Bd : Box w1 (w.heap.size + 1) (.bool nb) (M) (.int .i64 e) := Box.at ((Ext.refl _).trans f1) (by simp)
  have e1 : Ext w w1 := (((Ext.refl w).alloc _).alloc _).trans f1
  replace T := T.ext e1
  replace P := P.ext e1
  replace row := row.ext e1
  have E1 : Ext w w1 := e1
  clear f1
  obtain ⟨Bt0_0, Bt0_1⟩ := _root_.id Bt0
  have Bt0_l := World.block_lt_of_cell? _ _ Bt0_0
  go_wp2_with fail
  refine (good1_any _ w1.heap.size K Q false hr bK bQ (B2.at (Ext.refl _) rfl)).mono ?_
  rintro _ w2 ⟨rfl, f2⟩
  clear Bt0_0 Bt0_1 Bt0_l
  have e2 : Ext w1 w2 := ((Ext.refl w1).alloc _).trans f2
  replace T := T.ext e2
  replace P := P.ext e2
  replace row := row.ext e2
  replace Bt0 := Bt0.ext e2
  replace Bd := Bd.ext e2
  have E2 : Ext w w2 := E1.trans e2
  clear e2 f2 E1
  go_wp2
  go_ret
  exact ⟨rfl, E2⟩
set_option maxRecDepth 100000 in
set_option maxHeartbeats 4000000 in
theorem tells_bad (w : World) (T0 : Tu w) (K Q n : Int) (nb : Bool) (M : Value) (xs : List Int) (e : Int) (row : Row w M xs) (be : -9223372036854775808 ≤ e ∧ e ≤ 9223372036854775807) (bK : -9223372036854775808 ≤ K ∧ K ≤ 9223372036854775807) (bQ : -9223372036854775808 ≤ Q ∧ Q ≤ 9223372036854775807) (hn : 0 ≤ n ∧ n ≤ 255) (hr : goodT K Q = true) (hg : goodAll 1 (pk nb nb nb) (pk xs xs xs) (pk e e e) = false) :
    Calls Tryz.prog 3 #[.agg #[.int .i64 K, .int .i64 Q], .int .u8 n, .agg #[.bool nb, M, .int .i64 e]] w (RetE w (.bool true)) := by
  have T := T0.tb
  have P := T0.pl
  clear T0
  go_enter Tryz.func3, Tryz.ntmps3
  go_wp2_with fail
  refine (headC_any _ (T.ext (((Ext.refl w).alloc _).alloc _)) (P.ext (((Ext.refl w).alloc _).alloc _))).mono ?_
  rintro _ w1 ⟨rfl, f1⟩
  have Bt0 : B2 w1 (w.heap.size) (.int .i64 K) (.int .i64 Q) := B2.at (((Ext.refl _).alloc _).trans f1) (by simp)
  have Bd : Box w1 (w.heap.size + 1) (.bool nb) (M) (.int .i64 e) := Box.at ((Ext.refl _).trans f1) (by simp)
  have e1 : Ext w w1 := (((Ext.refl w).alloc _).alloc _).trans f1
  replace T := T.ext e1
  replace P := P.ext e1
  replace row := row.ext e1
  have E1 : Ext w w1 := e1
  clear f1
  obtain ⟨Bt0_0, Bt0_1⟩ := _root_.id Bt0
  have Bt0_l := World.block_lt_of_cell? _ _ Bt0_0
  go_wp2_with fail
  refine (good1_any _ w1.heap.size K Q true hr bK bQ (B2.at (Ext.refl _) rfl)).mono ?_
  rintro _ w2 ⟨rfl, f2⟩
  clear Bt0_0 Bt0_1 Bt0_l
  have e2 : Ext w1 w2 := ((Ext.refl w1).alloc _).trans f2
  replace T := T.ext e2
  replace P := P.ext e2
  replace row := row.ext e2
  replace Bt0 := Bt0.ext e2
  replace Bd := Bd.ext e2
  have E2 : Ext w w2 := E1.trans e2
  clear e2 f2 E1
  obtain ⟨Bd_0, Bd_1, Bd_2⟩ := _root_.id Bd
  have Bd_l := World.block_lt_of_cell? _ _ Bd_0
  go_wp2_with fail
  refine (goodD_lit9 _ nb M xs e false hg row be).mono ?_
  rintro _ w3 ⟨rfl, f3⟩
  clear Bd_0 Bd_1 Bd_2 Bd_l
  have e3 : Ext w2 w3 := ((Ext.refl w2).alloc _).trans f3
  replace T := T.ext e3
  replace P := P.ext e3
  replace row := row.ext e3
  replace Bt0 := Bt0.ext e3
  replace Bd := Bd.ext e3
  have E3 : Ext w w3 := E2.trans e3
  clear e3 f3 E2
  go_wp2
  go_ret
  exact ⟨rfl, E3⟩
set_option maxRecDepth 100000 in
set_option maxHeartbeats 4000000 in
theorem tells_yes (w : World) (T0 : Tu w) (K n j : Int) (Q N : Nat) (nb : Bool) (M : Value) (xs : List Int) (e : Int) (row : Row w M xs) (be : -9223372036854775808 ≤ e ∧ e ≤ 9223372036854775807) (bK : -9223372036854775808 ≤ K ∧ K ≤ 9223372036854775807) (q14 : Q ≤ 14) (hn : 0 ≤ n ∧ n ≤ 255) (hr : goodT K (Q : Int) = true) (hg : goodAll 1 (pk nb nb nb) (pk xs xs xs) (pk e e e) = true) (hj : n % 70 + 1 = j) (hN : j = (N : Int)) (N1 : 1 ≤ N) (N3 : N ≤ 70)
    (c1 c2 s1 s2 d f : Dyadic) (nd : Dn w (.agg #[.bool nb, M, .int .i64 e]) d) (rd : Rg 200 392 d) (hf : flo N d = f)
    (HC : Hid (∀ w', Tb w' → Pl w' → Calls Tryz.prog 14 #[.agg #[.int .i64 K, .int .i64 (Q : Int)], .int .i64 j] w' (RetI w' c1 c2)))
    (HS : Hid (∀ w', Tb w' → Pl w' → Calls Tryz.prog 16 #[.agg #[.int .i64 K, .int .i64 (Q : Int)], .int .i64 j] w' (RetI w' s1 s2)))
    (HA : Hid (∀ w', Calls Tryz.prog 15 #[.agg #[.int .i64 K, .int .i64 (Q : Int)], .int .i64 j] w' (RetI w' c1 c2)))
    (HB : Hid (∀ w', Calls Tryz.prog 17 #[.agg #[.int .i64 K, .int .i64 (Q : Int)], .int .i64 j] w' (RetI w' s1 s2))) :
    Calls Tryz.prog 3 #[.agg #[.int .i64 K, .int .i64 (Q : Int)], .int .u8 n, .agg #[.bool nb, M, .int .i64 e]] w (RetE w (.bool true)) := by
  have bQ : -9223372036854775808 ≤ (Q : Int) ∧ (Q : Int) ≤ 9223372036854775807 := by omega
  have HF := Lib.hid (And.intro hf hN)
  clear hf hN
  have T := T0.tb
  have P := T0.pl
  clear T0
  go_enter Tryz.func3, Tryz.ntmps3
  go_wp2_with fail
  refine (headC_any _ (T.ext (((Ext.refl w).alloc _).alloc _)) (P.ext (((Ext.refl w).alloc _).alloc _))).mono ?_
  rintro _ w1 ⟨rfl, f1⟩
  have Bt0 : B2 w1 (w.heap.size) (.int .i64 K) (.int .i64 (Q : Int)) := B2.at (((Ext.refl _).alloc _).trans f1) (by simp)
  have Bd : Box w1 (w.heap.size + 1) (.bool nb) (M) (.int .i64 e) := Box.at ((Ext.refl _).trans f1) (by simp)
  have e1 : Ext w w1 := (((Ext.refl w).alloc _).alloc _).trans f1
  replace T := T.ext e1
  replace P := P.ext e1
  replace row := row.ext e1
  have E1 : Ext w w1 := e1
  clear f1
  replace nd := nd.ext E1
  obtain ⟨Bt0_0, Bt0_1⟩ := _root_.id Bt0
  have Bt0_l := World.block_lt_of_cell? _ _ Bt0_0
  go_wp2_with fail
  refine (good1_any _ w1.heap.size K (Q : Int) true hr bK bQ (B2.at (Ext.refl _) rfl)).mono ?_
  rintro _ w2 ⟨rfl, f2⟩
  clear Bt0_0 Bt0_1 Bt0_l
  have e2 : Ext w1 w2 := ((Ext.refl w1).alloc _).trans f2
  replace T := T.ext e2
  replace P := P.ext e2
  replace row := row.ext e2
  replace nd := nd.ext e2
  replace Bt0 := Bt0.ext e2
  replace Bd := Bd.ext e2
  have E2 : Ext w w2 := E1.trans e2
  clear e2 f2 E1
  obtain ⟨Bd_0, Bd_1, Bd_2⟩ := _root_.id Bd
  have Bd_l := World.block_lt_of_cell? _ _ Bd_0
  go_wp2_with fail
  refine (goodD_lit9 _ nb M xs e true hg row be).mono ?_
  rintro _ w3 ⟨rfl, f3⟩
  clear Bd_0 Bd_1 Bd_2 Bd_l
  have e3 : Ext w2 w3 := ((Ext.refl w2).alloc _).trans f3
  replace T := T.ext e3
  replace P := P.ext e3
  replace row := row.ext e3
  replace nd := nd.ext e3
  replace Bt0 := Bt0.ext e3
  replace Bd := Bd.ext e3
  have E3 : Ext w w3 := E2.trans e3
  clear e3 f3 E2
  go_wp2_with fail
  refine (bits_any _ n j hn hj).mono ?_
  rintro _ w4 ⟨rfl, f4⟩
  have e4 : Ext w3 w4 := (Ext.refl w3).trans f4
  replace T := T.ext e4
  replace P := P.ext e4
  replace row := row.ext e4
  replace nd := nd.ext e4
  replace Bt0 := Bt0.ext e4
  replace Bd := Bd.ext e4
  have E4 : Ext w w4 := E3.trans e4
  clear e4 f4 E3
  clear hj hn hr hg bK bQ
  go_upto_region 5 with fail
  obtain ⟨Bt0_0, Bt0_1⟩ := _root_.id Bt0
  have Bt0_l := World.block_lt_of_cell? _ _ Bt0_0
  obtain ⟨Bd_0, Bd_1, Bd_2⟩ := _root_.id Bd
  have Bd_l := World.block_lt_of_cell? _ _ Bd_0
  refine wp_region_held_drew (S := (fun w' => (w'.cell? ⟨w.heap.size, 0, none⟩ = some (.int .i64 K) ∧ w'.cell? ⟨w.heap.size, 1, none⟩ = some (.int .i64 (Q : Int))) ∧ (w'.cell? ⟨w.heap.size + 1, 0, none⟩ = some (.bool nb) ∧ w'.cell? ⟨w.heap.size + 1, 1, none⟩ = some (M) ∧ w'.cell? ⟨w.heap.size + 1, 2, none⟩ = some (.int .i64 e)))) (by as_aux_lemma => kernel_rfl) ⟨b2 (Bt0.ext (Ext.refl w4).drew), box3 (Bd.ext (Ext.refl w4).drew)⟩ (fun hHeld => ?_)
  refine wpAnyH_take (i := 0) (v := ?_) rfl (by as_aux_lemma => kernel_rfl) (by as_aux_lemma => kernel_rfl) (by as_aux_lemma => kernel_rfl) (fun _ _ _ h => h) (Or.inl ⟨by rfl, ?_⟩) (by assumption) ?_
  rotate_left
  · (intro w hSw; (try dsimp only at hSw); go_simp); (try with_reducible rfl)
  simp only [List.getElem_toArray, List.getElem_cons_zero, Act.put, List.setIfInBounds_toArray, List.set_cons_zero, List.set_cons_succ]
  refine wpAnyH_take (i := 1) (v := ?_) rfl (by as_aux_lemma => kernel_rfl) (by as_aux_lemma => kernel_rfl) (by as_aux_lemma => kernel_rfl) (fun _ _ _ h => h) (Or.inl ⟨by rfl, ?_⟩) (by assumption) ?_
  rotate_left
  · (intro w hSw; (try dsimp only at hSw); go_simp); (try with_reducible rfl)
  simp only [List.getElem_toArray, List.getElem_cons_zero, List.getElem_cons_succ, Act.put, List.setIfInBounds_toArray, List.set_cons_zero, List.set_cons_succ]
  refine wpAnyH_take (i := 2) (v := ?_) rfl (by as_aux_lemma => kernel_rfl) (by as_aux_lemma => kernel_rfl) (by as_aux_lemma => kernel_rfl) (fun _ _ _ h => h) (Or.inl ⟨by rfl, ?_⟩) (by assumption) ?_
  rotate_left
  · (intro w hSw; (try dsimp only at hSw); go_simp); (try with_reducible rfl)
  simp only [List.getElem_toArray, List.getElem_cons_zero, List.getElem_cons_succ, Act.put, List.setIfInBounds_toArray, List.set_cons_zero, List.set_cons_succ]
  refine wpAnyH_take (i := 3) (v := ?_) rfl (by as_aux_lemma => kernel_rfl) (by as_aux_lemma => kernel_rfl) (by as_aux_lemma => kernel_rfl) (fun _ _ _ h => h) (Or.inl ⟨by rfl, ?_⟩) (by assumption) ?_
  rotate_left
  · (intro w hSw; (try dsimp only at hSw); go_simp); (try with_reducible rfl)
  simp only [List.getElem_toArray, List.getElem_cons_zero, List.getElem_cons_succ, Act.put, List.setIfInBounds_toArray, List.set_cons_zero, List.set_cons_succ]
  refine wpAnyH_take (i := 5) (v := ?_) rfl (by as_aux_lemma => kernel_rfl) (by as_aux_lemma => kernel_rfl) (by as_aux_lemma => kernel_rfl) (fun _ _ _ h => h) (Or.inl ⟨by rfl, ?_⟩) (by assumption) ?_
  rotate_left
  · (intro w hSw; (try dsimp only at hSw); go_simp); (try with_reducible rfl)
  simp only [List.getElem_toArray, List.getElem_cons_zero, List.getElem_cons_succ, Act.put, List.setIfInBounds_toArray, List.set_cons_zero, List.set_cons_succ]
  refine wpAnyH_take (i := 6) (v := ?_) rfl (by as_aux_lemma => kernel_rfl) (by as_aux_lemma => kernel_rfl) (by as_aux_lemma => kernel_rfl) (fun _ _ _ h => h) (Or.inl ⟨by rfl, ?_⟩) (by assumption) ?_
  rotate_left
  · (intro w hSw; (try dsimp only at hSw); go_simp); (try with_reducible rfl)
  simp only [List.getElem_toArray, List.getElem_cons_zero, List.getElem_cons_succ, Act.put, List.setIfInBounds_toArray, List.set_cons_zero, List.set_cons_succ]
  refine wpAnyH_ready (rs := [4]) (by as_aux_lemma => kernel_rfl) (by simp) ?_
  refine AllReadyH.cons rfl (fun K hK => ?_) AllReadyH.nil
  go_simp
  refine (HC.out _ (T.ext (Ext.refl w4).drew) (P.ext (Ext.refl w4).drew)).mono ?_
  rintro _ u1 ⟨vu1, rfl, mu1, eu1⟩
  have Fu1 : Ext w4 u1 := (Ext.refl w4).drew.trans eu1
  refine hK.out _ _ ⟨b2 (Bt0.ext Fu1), box3 (Bd.ext Fu1)⟩ (fun hHeld => ?_)
  clear hK K eu1
  refine wpAnyH_ready (rs := [7]) (by as_aux_lemma => kernel_rfl) (by simp) ?_
  refine AllReadyH.cons rfl (fun K hK => ?_) AllReadyH.nil
  go_simp
  refine (HA.out _).mono ?_
  rintro _ u2 ⟨vu2, rfl, mu2, eu2⟩
  have Fu2 : Ext w4 u2 := Fu1.trans eu2
  replace mu1 := mu1.ext eu2
  refine hK.out _ _ ⟨b2 (Bt0.ext Fu2), box3 (Bd.ext Fu2)⟩ (fun hHeld => ?_)
  clear hK K eu2 Fu1
  refine wpAnyH_ready (rs := [8]) (by as_aux_lemma => kernel_rfl) (by simp) ?_
  refine AllReadyH.cons rfl (fun K hK => ?_) AllReadyH.nil
  go_simp
  refine (risame_eq _ _ _ _ _ _ _ mu1 mu2 rfl rfl).mono ?_
  rintro _ u3 ⟨rfl, eu3⟩
  have Fu3 : Ext w4 u3 := Fu2.trans eu3
  replace mu1 := mu1.ext eu3
  replace mu2 := mu2.ext eu3
  refine hK.out _ _ ⟨b2 (Bt0.ext Fu3), box3 (Bd.ext Fu3)⟩ (fun hHeld => ?_)
  clear hK K eu3 Fu2
  refine wpAnyH_take (i := 9) (v := ?_) rfl (by as_aux_lemma => kernel_rfl) (by as_aux_lemma => kernel_rfl) (by as_aux_lemma => kernel_rfl) (fun _ _ _ h => h) (Or.inl ⟨by rfl, ?_⟩) (by assumption) ?_
  rotate_left
  · (intro w hSw; (try dsimp only at hSw); go_simp); (try with_reducible rfl)
  simp only [List.getElem_toArray, List.getElem_cons_zero, List.getElem_cons_succ, Act.put, List.setIfInBounds_toArray, List.set_cons_zero, List.set_cons_succ]
  refine wpAnyH_take (i := 10) (v := ?_) rfl (by as_aux_lemma => kernel_rfl) (by as_aux_lemma => kernel_rfl) (by as_aux_lemma => kernel_rfl) (fun _ _ _ h => h) (Or.inl ⟨by rfl, ?_⟩) (by assumption) ?_
  rotate_left
  · (intro w hSw; (try dsimp only at hSw); go_simp); (try with_reducible rfl)
  simp only [List.getElem_toArray, List.getElem_cons_zero, List.getElem_cons_succ, Act.put, List.setIfInBounds_toArray, List.set_cons_zero, List.set_cons_succ]
  refine wpAnyH_take (i := 11) (v := ?_) rfl (by as_aux_lemma => kernel_rfl) (by as_aux_lemma => kernel_rfl) (by as_aux_lemma => kernel_rfl) (fun _ _ _ h => h) (Or.inl ⟨by rfl, ?_⟩) (by assumption) ?_
  rotate_left
  · (intro w hSw; (try dsimp only at hSw); go_simp); (try with_reducible rfl)
  simp only [List.getElem_toArray, List.getElem_cons_zero, List.getElem_cons_succ, Act.put, List.setIfInBounds_toArray, List.set_cons_zero, List.set_cons_succ]
  refine wpAnyH_take (i := 12) (v := ?_) rfl (by as_aux_lemma => kernel_rfl) (by as_aux_lemma => kernel_rfl) (by as_aux_lemma => kernel_rfl) (fun _ _ _ h => h) (Or.inl ⟨by rfl, ?_⟩) (by assumption) ?_
  rotate_left
  · (intro w hSw; (try dsimp only at hSw); go_simp); (try with_reducible rfl)
  simp only [List.getElem_toArray, List.getElem_cons_zero, List.getElem_cons_succ, Act.put, List.setIfInBounds_toArray, List.set_cons_zero, List.set_cons_succ]
  refine wpAnyH_take (i := 14) (v := ?_) rfl (by as_aux_lemma => kernel_rfl) (by as_aux_lemma => kernel_rfl) (by as_aux_lemma => kernel_rfl) (fun _ _ _ h => h) (Or.inl ⟨by rfl, ?_⟩) (by assumption) ?_
  rotate_left
  · (intro w hSw; (try dsimp only at hSw); go_simp); (try with_reducible rfl)
  simp only [List.getElem_toArray, List.getElem_cons_zero, List.getElem_cons_succ, Act.put, List.setIfInBounds_toArray, List.set_cons_zero, List.set_cons_succ]
  refine wpAnyH_take (i := 15) (v := ?_) rfl (by as_aux_lemma => kernel_rfl) (by as_aux_lemma => kernel_rfl) (by as_aux_lemma => kernel_rfl) (fun _ _ _ h => h) (Or.inl ⟨by rfl, ?_⟩) (by assumption) ?_
  rotate_left
  · (intro w hSw; (try dsimp only at hSw); go_simp); (try with_reducible rfl)
  simp only [List.getElem_toArray, List.getElem_cons_zero, List.getElem_cons_succ, Act.put, List.setIfInBounds_toArray, List.set_cons_zero, List.set_cons_succ]
  refine wpAnyH_ready (rs := [13]) (by as_aux_lemma => kernel_rfl) (by simp) ?_
  refine AllReadyH.cons rfl (fun K hK => ?_) AllReadyH.nil
  go_simp
  refine (HS.out _ (T.ext Fu3) (P.ext Fu3)).mono ?_
  rintro _ u4 ⟨vu4, rfl, mu4, eu4⟩
  have Fu4 : Ext w4 u4 := Fu3.trans eu4
  refine hK.out _ _ ⟨b2 (Bt0.ext Fu4), box3 (Bd.ext Fu4)⟩ (fun hHeld => ?_)
  clear hK K eu4 Fu3 mu1 mu2
  refine wpAnyH_ready (rs := [16]) (by as_aux_lemma => kernel_rfl) (by simp) ?_
  refine AllReadyH.cons rfl (fun K hK => ?_) AllReadyH.nil
  go_simp
  refine (HB.out _).mono ?_
  rintro _ u5 ⟨vu5, rfl, mu5, eu5⟩
  have Fu5 : Ext w4 u5 := Fu4.trans eu5
  replace mu4 := mu4.ext eu5
  refine hK.out _ _ ⟨b2 (Bt0.ext Fu5), box3 (Bd.ext Fu5)⟩ (fun hHeld => ?_)
  clear hK K eu5 Fu4
  refine wpAnyH_ready (rs := [17]) (by as_aux_lemma => kernel_rfl) (by simp) ?_
  refine AllReadyH.cons rfl (fun K hK => ?_) AllReadyH.nil
  go_simp
  refine (risame_eq _ _ _ _ _ _ _ mu4 mu5 rfl rfl).mono ?_
  rintro _ u6 ⟨rfl, eu6⟩
  have Fu6 : Ext w4 u6 := Fu5.trans eu6
  replace mu4 := mu4.ext eu6
  replace mu5 := mu5.ext eu6
  refine hK.out _ _ ⟨b2 (Bt0.ext Fu6), box3 (Bd.ext Fu6)⟩ (fun hHeld => ?_)
  clear hK K eu6 Fu5
  refine wpAnyH_take (i := 18) (v := ?_) rfl (by as_aux_lemma => kernel_rfl) (by as_aux_lemma => kernel_rfl) (by as_aux_lemma => kernel_rfl) (fun _ _ _ h => h) (Or.inl ⟨by rfl, ?_⟩) (by assumption) ?_
  rotate_left
  · (intro w hSw; (try dsimp only at hSw); go_simp); (try with_reducible rfl)
  simp only [List.getElem_toArray, List.getElem_cons_zero, List.getElem_cons_succ, Act.put, List.setIfInBounds_toArray, List.set_cons_zero, List.set_cons_succ]
  refine wpAnyH_take (i := 19) (v := ?_) rfl (by as_aux_lemma => kernel_rfl) (by as_aux_lemma => kernel_rfl) (by as_aux_lemma => kernel_rfl) (fun _ _ _ h => h) (Or.inl ⟨by rfl, ?_⟩) (by assumption) ?_
  rotate_left
  · (intro w hSw; (try dsimp only at hSw); go_simp); (try with_reducible rfl)
  simp only [List.getElem_toArray, List.getElem_cons_zero, List.getElem_cons_succ, Act.put, List.setIfInBounds_toArray, List.set_cons_zero, List.set_cons_succ]
  refine wpAnyH_take (i := 20) (v := ?_) rfl (by as_aux_lemma => kernel_rfl) (by as_aux_lemma => kernel_rfl) (by as_aux_lemma => kernel_rfl) (fun _ _ _ h => h) (Or.inl ⟨by rfl, ?_⟩) (by assumption) ?_
  rotate_left
  · (intro w hSw; (try dsimp only at hSw); go_simp); (try with_reducible rfl)
  simp only [List.getElem_toArray, List.getElem_cons_zero, List.getElem_cons_succ, Act.put, List.setIfInBounds_toArray, List.set_cons_zero, List.set_cons_succ]
  refine wpAnyH_take (i := 21) (v := ?_) rfl (by as_aux_lemma => kernel_rfl) (by as_aux_lemma => kernel_rfl) (by as_aux_lemma => kernel_rfl) (fun _ _ _ h => h) (Or.inl ⟨by rfl, ?_⟩) (by assumption) ?_
  rotate_left
  · (intro w hSw; (try dsimp only at hSw); go_simp); (try with_reducible rfl)
  simp only [List.getElem_toArray, List.getElem_cons_zero, List.getElem_cons_succ, Act.put, List.setIfInBounds_toArray, List.set_cons_zero, List.set_cons_succ]
  refine wpAnyH_take (i := 23) (v := ?_) rfl (by as_aux_lemma => kernel_rfl) (by as_aux_lemma => kernel_rfl) (by as_aux_lemma => kernel_rfl) (fun _ _ _ h => h) (Or.inl ⟨by rfl, ?_⟩) (by assumption) ?_
  rotate_left
  · (intro w hSw; (try dsimp only at hSw); go_simp); (try with_reducible rfl)
  simp only [List.getElem_toArray, List.getElem_cons_zero, List.getElem_cons_succ, Act.put, List.setIfInBounds_toArray, List.set_cons_zero, List.set_cons_succ]
  refine wpAnyH_take (i := 24) (v := ?_) rfl (by as_aux_lemma => kernel_rfl) (by as_aux_lemma => kernel_rfl) (by as_aux_lemma => kernel_rfl) (fun _ _ _ h => h) (Or.inl ⟨by rfl, ?_⟩) (by assumption) ?_
  rotate_left
  · (intro w hSw; (try dsimp only at hSw); go_simp); (try with_reducible rfl)
  simp only [List.getElem_toArray, List.getElem_cons_zero, List.getElem_cons_succ, Act.put, List.setIfInBounds_toArray, List.set_cons_zero, List.set_cons_succ]
  refine wpAnyH_ready (rs := [22]) (by as_aux_lemma => kernel_rfl) (by simp) ?_
  refine AllReadyH.cons rfl (fun K hK => ?_) AllReadyH.nil
  go_simp
  refine (floor_lit _ _ d f j N 200 392 HF.out.2 HF.out.1 (nd.ext Fu6) rd (by omega) (by omega) (T.ext Fu6)).mono ?_
  rintro _ u7 ⟨vu7, rfl, mu7, eu7⟩
  have Fu7 : Ext w4 u7 := Fu6.trans eu7
  refine hK.out _ _ ⟨b2 (Bt0.ext Fu7), box3 (Bd.ext Fu7)⟩ (fun hHeld => ?_)
  clear hK K eu7 Fu6 mu4 mu5
  refine wpAnyH_ready (rs := [25]) (by as_aux_lemma => kernel_rfl) (by simp) ?_
  refine AllReadyH.cons rfl (fun K hK => ?_) AllReadyH.nil
  go_simp
  refine (rfloor_lit9 _ _ d f j N 200 392 HF.out.2 HF.out.1 (nd.ext Fu7) rd (by omega) (by omega)).mono ?_
  rintro _ u8 ⟨vu8, rfl, mu8, eu8⟩
  have Fu8 : Ext w4 u8 := Fu7.trans eu8
  replace mu7 := mu7.ext eu8
  refine hK.out _ _ ⟨b2 (Bt0.ext Fu8), box3 (Bd.ext Fu8)⟩ (fun hHeld => ?_)
  clear hK K eu8 Fu7
  refine wpAnyH_ready (rs := [26]) (by as_aux_lemma => kernel_rfl) (by simp) ?_
  refine AllReadyH.cons rfl (fun K hK => ?_) AllReadyH.nil
  go_simp
  refine (rsameD_eq _ _ _ f mu7 mu8).mono ?_
  rintro _ u9 ⟨rfl, eu9⟩
  have Fu9 : Ext w4 u9 := Fu8.trans eu9
  replace mu7 := mu7.ext eu9
  replace mu8 := mu8.ext eu9
  refine hK.out _ _ ⟨b2 (Bt0.ext Fu9), box3 (Bd.ext Fu9)⟩ (fun hHeld => ?_)
  clear hK K eu9 Fu8
  refine wpAnyH_take (i := 27) (v := ?_) rfl (by as_aux_lemma => kernel_rfl) (by as_aux_lemma => kernel_rfl) (by as_aux_lemma => kernel_rfl) (fun _ _ _ h => h) (Or.inl ⟨by rfl, ?_⟩) (by assumption) ?_
  rotate_left
  · (intro w hSw; (try dsimp only at hSw); go_simp); (try with_reducible rfl)
  simp only [List.getElem_toArray, List.getElem_cons_zero, List.getElem_cons_succ, Act.put, List.setIfInBounds_toArray, List.set_cons_zero, List.set_cons_succ]
  refine wpAnyH_take (i := 28) (v := ?_) rfl (by as_aux_lemma => kernel_rfl) (by as_aux_lemma => kernel_rfl) (by as_aux_lemma => kernel_rfl) (fun _ _ _ h => h) (Or.inl ⟨by rfl, ?_⟩) (by assumption) ?_
  rotate_left
  · (intro w hSw; (try dsimp only at hSw); go_simp); (try with_reducible rfl)
  simp only [List.getElem_toArray, List.getElem_cons_zero, List.getElem_cons_succ, Act.put, List.setIfInBounds_toArray, List.set_cons_zero, List.set_cons_succ]
  refine wpAnyH_done (by as_aux_lemma => kernel_rfl) ?_ _
  go_wp2
  go_ret
  exact ⟨rfl, E4.trans Fu9⟩
theorem walk_CircTells (w : World) (T0 : Tu w) (K Q : Int) (bK : -9223372036854775808 ≤ K ∧ K ≤ 9223372036854775807) (bQ : -9223372036854775808 ≤ Q ∧ Q ≤ 9223372036854775807) (n : Int) (hn : 0 ≤ n ∧ n ≤ 255) (nb : Bool) (M : Value) (xs : List Int) (e : Int) (row : Row w M xs) (be : -9223372036854775808 ≤ e ∧ e ≤ 9223372036854775807) :
    Calls Tryz.prog 3 #[.agg #[.int .i64 K, .int .i64 Q], .int .u8 n, .agg #[.bool nb, M, .int .i64 e]] w (RetE w (.bool true)) := by
  cases hr : goodT K Q with
  | false => exact tells_no w T0 K Q n nb M xs e row be bK bQ hn hr
  | true =>
    cases hg : goodAll 1 (pk nb nb nb) (pk xs xs xs) (pk e e e) with
    | false => exact tells_bad w T0 K Q n nb M xs e row be bK bQ hn hr hg
    | true =>
      have hr2 := hr
      obtain ⟨⟨q0, q14⟩, hK⟩ := goodT_iff.1 hr2
      obtain ⟨Q, rfl⟩ := Int.eq_ofNat_of_zero_le q0
      replace q14 : Q ≤ 14 := by omega
      obtain ⟨N, hN⟩ := Int.eq_ofNat_of_zero_le (show 0 ≤ n % 70 + 1 by omega)
      obtain ⟨z, nd, _, _, _, _, rd⟩ := good_num row (goodAll_true hg 0 (by omega))
      have hv := tv_range K Q
      obtain ⟨kf, qf, hf, hf14⟩ := fm_good hv.1 hv.2 (tv_fine (K := K) q14)
      have rr := rest_range hv.1 hv.2
      obtain ⟨kr, qr, hrf⟩ := fm_there rr.2.2.1 (by have := rr.2.2.2; omega)
      exact tells_yes w T0 K n _ Q N nb M xs e row be bK q14 hn hr hg rfl hN (by omega) (by omega) _ _ _ _ _ _ nd rd rfl
        (Lib.hid fun w' T' P' => ccos_good w' K Q N _ _ _ hN rfl rfl hK q14 (by omega) (by omega) T' P') (Lib.hid fun w' T' P' => csin_good w' K Q N _ _ _ hN rfl rfl hK q14 (by omega) (by omega) T' P')
        (Lib.hid fun w' => by rw [hN]; exact rcos7_any w' K kf kr Q qf qr N 0 _ _ bK q14 hf hf14 hrf (by omega) (by omega) rfl rfl) (Lib.hid fun w' => by rw [hN]; exact rsin7_any w' K kf kr Q qf qr N 0 _ _ bK q14 hf hf14 hrf (by omega) (by omega) rfl rfl)
end Go.Proofs.YtomdbmjfehoodaaGreatDoor
