/- The walk of TurnPlace. -/
import Derived.Test.YtncopdgonbgaaaaDoorTL
namespace Go.Proofs.YtncopdgonbgaaaaDoor
open Go.RowKit
set_option linter.unusedVariables false
theorem rright_lit (w : World) (K Q : Int) (r : Bool) (hr : rightT K Q = r) (hK : -9223372036854775808 ≤ K ∧ K ≤ 9223372036854775807) (hQ : -9223372036854775808 ≤ Q ∧ Q ≤ 9223372036854775807) : Calls Tryd.prog 13 #[.agg #[.int .i64 K, .int .i64 Q]] w (RetE w (.bool r)) := by
  subst hr; exact rrightT_any w K Q hK hQ
set_option maxRecDepth 100000 in
set_option maxHeartbeats 4000000 in
theorem place_no (w : World) (T0 : Tu w) (K Q : Int) (hK : -9223372036854775808 ≤ K ∧ K ≤ 9223372036854775807) (hQ : -9223372036854775808 ≤ Q ∧ Q ≤ 9223372036854775807) (hr : rightT K Q = false) :
    Calls Tryd.prog 8 #[.agg #[.int .i64 K, .int .i64 Q]] w (RetE w (.bool true)) := by
  have T := Lib.hid T0
  clear T0
  go_enter Tryd.func8, Tryd.ntmps8
  go_wp2_with fail
  refine (headT_any _ (T.out.ext ((Ext.refl w).alloc _))).mono ?_
  rintro _ w1 ⟨rfl, f1⟩
  have Ba : B2 w1 (w.heap.size) (.int .i64 K) (.int .i64 Q) := B2.at ((Ext.refl _).trans f1) (by simp)
  have e1 : Ext w w1 := ((Ext.refl w).alloc _).trans f1
  have E1 : Ext w w1 := e1
  clear f1
  obtain ⟨Ba_0, Ba_1⟩ := id Ba
  have Ba_l := World.block_lt_of_cell? _ _ Ba_0
  go_wp2_with fail
  refine (rright_lit _ K Q false hr hK hQ).mono ?_
  rintro _ w2 ⟨rfl, f2⟩
  clear Ba_0 Ba_1 Ba_l
  have e2 : Ext w1 w2 := (Ext.refl w1).trans f2
  replace Ba := Ba.ext e2
  have E2 : Ext w w2 := E1.trans e2
  clear f2
  go_wp2
  go_ret
  exact ⟨rfl, E2⟩
theorem fm_edge' {r k : Int} {q : Nat} (h : Fm r k q) (hr : r < 137438953472) : ¬ 8 * k = 2 ^ q := by
  obtain ⟨h1, h2, h3, h4⟩ := h.low
  have hs := p2_split h3
  intro e
  rw [← e, Int.mul_assoc, ← h4] at hs
  omega
theorem fm_pos' {r k : Int} {q : Nat} (h : Fm r k q) (hr : 0 < r) : 0 < k := by
  rcases h.out with ⟨h1, _, _⟩ | ⟨_, h2, _⟩
  · omega
  · exact h2
theorem quarter {v : Int} (h0 : 0 ≤ v) (h1 : v < 1099511627776) : eighth ((v + 274877906944) % 1099511627776) = (eighth v + 2) % 8 ∧ rest ((v + 274877906944) % 1099511627776) = rest v := by
  have e1 : eighth ((v + 274877906944) % 1099511627776) = (eighth v + 2) % 8 := by unfold eighth; omega
  refine ⟨e1, ?_⟩
  unfold rest
  rw [e1]
  generalize he : eighth v = e
  unfold eighth at he
  by_cases hp : e % 2 = 0
  · rw [if_pos hp, if_pos (by omega)]; omega
  · rw [if_neg hp, if_neg (by omega)]; omega
theorem opposite {v : Int} (h0 : 0 ≤ v) (h1 : v < 1099511627776) : rest ((-v) % 1099511627776) = rest v ∧ (0 < rest v → rest v < 137438953472 → eighth ((-v) % 1099511627776) = 7 - eighth v) := by
  unfold rest
  generalize he : eighth v = e
  generalize hf : eighth ((-v) % 1099511627776) = f
  unfold eighth at he hf
  by_cases hp : e % 2 = 0
  · rw [if_pos hp]
    by_cases hq : f % 2 = 0
    · rw [if_pos hq]; constructor <;> omega
    · rw [if_neg hq]; constructor <;> omega
  · rw [if_neg hp]
    by_cases hq : f % 2 = 0
    · rw [if_pos hq]; constructor <;> omega
    · rw [if_neg hq]; constructor <;> omega
theorem pl_quarter {e : Int} (h : 0 ≤ e ∧ e ≤ 7) : plSwap ((e + 2) % 8) = !plSwap e ∧ plCos ((e + 2) % 8) = !plSin e ∧ plSin ((e + 2) % 8) = plCos e := by
  obtain rfl | rfl | rfl | rfl | rfl | rfl | rfl | rfl : e = 0 ∨ e = 1 ∨ e = 2 ∨ e = 3 ∨ e = 4 ∨ e = 5 ∨ e = 6 ∨ e = 7 := by omega
  all_goals decide
theorem pl_opp {e : Int} (h : 0 ≤ e ∧ e ≤ 7) : plSwap (7 - e) = plSwap e ∧ plCos (7 - e) = plCos e ∧ plSin (7 - e) = !plSin e := by
  obtain rfl | rfl | rfl | rfl | rfl | rfl | rfl | rfl : e = 0 ∨ e = 1 ∨ e = 2 ∨ e = 3 ∨ e = 4 ∨ e = 5 ∨ e = 6 ∨ e = 7 := by omega
  all_goals decide
set_option maxRecDepth 100000 in
set_option maxHeartbeats 4000000 in
theorem place_z (w : World) (T0 : Tu w) (K : Int) (Q : Nat) (hK : -1099511627776 ≤ K ∧ K ≤ 1099511627776) (hQ : Q ≤ 40) (hz : rest (tv K Q) = 0) :
    Calls Tryd.prog 8 #[.agg #[.int .i64 K, .int .i64 Q]] w (RetE w (.bool true)) := by
  have hv := tv_range K Q
  obtain ⟨q0, q1, q2, q3⟩ := rest_range hv.1 hv.2
  have h : Fm (rest (tv K Q)) 0 0 := by rw [hz]; exact fm_zero
  obtain ⟨kf, qf, hf⟩ := fm_there hv.1 hv.2
  obtain ⟨a1, a2⟩ := quarter hv.1 hv.2
  obtain ⟨b1, b2⟩ := opposite hv.1 hv.2
  obtain ⟨ka, qa, hA⟩ : ∃ k q, Fm ((tv K Q + tv 1 2) % 1099511627776) k q := fm_there (by omega) (by omega)
  obtain ⟨ko, qo, hO⟩ : ∃ k q, Fm ((-tv K Q) % 1099511627776) k q := fm_there (by omega) (by omega)
  obtain ⟨kb, qb, hB⟩ := fm_there (tv_range 1 2).1 (tv_range 1 2).2
  have t12 : tv 1 2 = 274877906944 := by decide
  obtain ⟨r1, r2, r3, r4⟩ := hA.low
  obtain ⟨s1, s2, s3, s4⟩ := hO.low
  have rl := p2_le r3
  have sl := p2_le s3
  rw [p2_40] at rl sl
  have hea : eighth (tv ka qa) = (eighth (tv K Q) + 2) % 8 := by rw [hA.tv, t12]; exact a1
  have hra : Fm (rest (tv ka qa)) (0 : Int) (0 : Nat) := by rw [hA.tv, t12, a2]; exact h
  have hro : Fm (rest (tv ko qo)) (0 : Int) (0 : Nat) := by rw [hO.tv, b1]; exact h
  obtain ⟨e, he⟩ : ∃ e, eighth (tv K Q) = e := ⟨_, rfl⟩
  rw [he] at hea q0 q1
  obtain ⟨p1, p2, p3⟩ := pl_quarter ⟨q0, q1⟩
  obtain ⟨f, heo⟩ : ∃ f, eighth (tv ko qo) = f := ⟨_, rfl⟩
  obtain ⟨l1, l2, l3, l4⟩ := h.low
  have lq := p2_le l3
  rw [p2_40] at lq
  have lp := p2_pos (0 : Nat)
  have hr1 : rightT K Q = true := rightT_iff.2 (by omega)
  have HR1 := Lib.hid (fun w' => rright_lit w' K Q true hr1 (by omega) (by omega))
  have HS := Lib.hid (fun w' (T' : Tu w') => tsplit_any w' T'.tb K (0 : Int) e Q (0 : Nat) (by omega) hQ he h)
  have HA := Lib.hid (fun w' (T' : Tu w') => tadd_any w' T'.tb K 1 ka Q 2 qa (by omega) (by omega) hQ (by omega) hA)
  have HO := Lib.hid (fun w' (T' : Tu w') => tflip_any w' T'.tb K ko Q qo (by omega) hQ hO)
  have HSA := Lib.hid (fun w' (T' : Tu w') => tsplit_any w' T'.tb ka (0 : Int) _ qa (0 : Nat) (by omega) r3 hea hra)
  have HSO := Lib.hid (fun w' (T' : Tu w') => tsplit_any w' T'.tb ko (0 : Int) _ qo (0 : Nat) (by omega) s3 heo hro)
  obtain ⟨s, hs⟩ : ∃ s, plSwap e = s := ⟨_, rfl⟩
  obtain ⟨c, hc⟩ : ∃ c, plCos e = c := ⟨_, rfl⟩
  obtain ⟨n, hn⟩ : ∃ n, plSin e = n := ⟨_, rfl⟩
  rw [hs] at p1; rw [hn] at p2; rw [hc] at p3
  have HP1 := Lib.hid (fun w' (T' : Tu w') => tplace_lit w' T'.pl e s c n hs hc hn)
  have HP2 := Lib.hid (fun w' (T' : Tu w') => tplace_lit w' T'.pl ((e + 2) % 8) (!s) (!n) c p1 p2 p3)
  have HP3 := Lib.hid (fun w' (T' : Tu w') => tplace_any w' T'.pl f)
  generalize plSwap f = x1 at *
  generalize plCos f = x2 at *
  generalize plSin f = x3 at *
  obtain ⟨ea, hea2⟩ : ∃ g, (e + 2) % 8 = g := ⟨_, rfl⟩
  rw [hea2] at HP2 HSA
  clear hv q0 q1 q2 q3 h hf a1 a2 b1 b2 hA hO hB t12 r1 r2 r3 r4 s1 s2 s3 s4 rl sl hea hra hro heo he p1 p2 p3 l1 l2 l4 lq hr1 hs hc hn hea2 hz
  have T := Lib.hid T0
  clear T0
  go_enter Tryd.func8, Tryd.ntmps8
  go_wp2_with fail
  refine (headT_any _ (T.out.ext ((Ext.refl w).alloc _))).mono ?_
  rintro _ w1 ⟨rfl, f1⟩
  have Ba : B2 w1 (w.heap.size) (.int .i64 K) (.int .i64 (Q : Int)) := B2.at ((Ext.refl _).trans f1) (by simp)
  have e1 : Ext w w1 := ((Ext.refl w).alloc _).trans f1
  have E1 : Ext w w1 := e1
  clear f1
  obtain ⟨Ba_0, Ba_1⟩ := id Ba
  have Ba_l := World.block_lt_of_cell? _ _ Ba_0
  go_wp2_with fail
  refine (HR1.out _).mono ?_
  rintro _ w2 ⟨rfl, f2⟩
  clear Ba_0 Ba_1 Ba_l
  have e2 : Ext w1 w2 := (Ext.refl w1).trans f2
  replace Ba := Ba.ext e2
  have E2 : Ext w w2 := E1.trans e2
  clear f2
  obtain ⟨Ba_0, Ba_1⟩ := id Ba
  have Ba_l := World.block_lt_of_cell? _ _ Ba_0
  go_wp2_with fail
  refine (HS.out _ (T.out.ext (E2.trans (Ext.refl w2)))).mono ?_
  rintro _ w3 ⟨rfl, f3⟩
  clear Ba_0 Ba_1 Ba_l
  have e3 : Ext w2 w3 := (Ext.refl w2).trans f3
  replace Ba := Ba.ext e3
  have E3 : Ext w w3 := E2.trans e3
  clear f3
  obtain ⟨Ba_0, Ba_1⟩ := id Ba
  have Ba_l := World.block_lt_of_cell? _ _ Ba_0
  go_wp2_with fail
  refine (HA.out _ (T.out.ext (E3.trans ((Ext.refl w3).alloc _)))).mono ?_
  rintro _ w4 ⟨rfl, f4⟩
  clear Ba_0 Ba_1 Ba_l
  have Bp : B3 w4 (w3.heap.size) (.int .i64 e) (.int .i64 0) (.int .i64 0) := B3.at ((Ext.refl _).trans f4) (by simp)
  have e4 : Ext w3 w4 := ((Ext.refl w3).alloc _).trans f4
  replace Ba := Ba.ext e4
  have E4 : Ext w w4 := E3.trans e4
  clear f4
  go_wp2_with fail
  refine (HSA.out _ (T.out.ext (E4.trans (Ext.refl w4)))).mono ?_
  rintro _ w5 ⟨rfl, f5⟩
  have e5 : Ext w4 w5 := (Ext.refl w4).trans f5
  replace Ba := Ba.ext e5
  replace Bp := Bp.ext e5
  have E5 : Ext w w5 := E4.trans e5
  clear f5
  obtain ⟨Ba_0, Ba_1⟩ := id Ba
  have Ba_l := World.block_lt_of_cell? _ _ Ba_0
  go_wp2_with fail
  refine (HO.out _ (T.out.ext (E5.trans ((Ext.refl w5).alloc _)))).mono ?_
  rintro _ w6 ⟨rfl, f6⟩
  clear Ba_0 Ba_1 Ba_l
  have Bq : B3 w6 (w5.heap.size) (.int .i64 ea) (.int .i64 0) (.int .i64 0) := B3.at ((Ext.refl _).trans f6) (by simp)
  have e6 : Ext w5 w6 := ((Ext.refl w5).alloc _).trans f6
  replace Ba := Ba.ext e6
  replace Bp := Bp.ext e6
  have E6 : Ext w w6 := E5.trans e6
  clear f6
  go_wp2_with fail
  refine (HSO.out _ (T.out.ext (E6.trans (Ext.refl w6)))).mono ?_
  rintro _ w7 ⟨rfl, f7⟩
  have e7 : Ext w6 w7 := (Ext.refl w6).trans f7
  replace Ba := Ba.ext e7
  replace Bp := Bp.ext e7
  replace Bq := Bq.ext e7
  have E7 : Ext w w7 := E6.trans e7
  clear f7
  obtain ⟨Bp_0, Bp_1, Bp_2⟩ := id Bp
  have Bp_l := World.block_lt_of_cell? _ _ Bp_0
  obtain ⟨Bq_0, Bq_1, Bq_2⟩ := id Bq
  have Bq_l := World.block_lt_of_cell? _ _ Bq_0
  go_wp2_with fail
  refine (HP1.out _ (T.out.ext (E7.trans ((Ext.refl w7).alloc _)))).mono ?_
  rintro _ w8 ⟨rfl, f8⟩
  clear Bp_0 Bp_1 Bp_2 Bp_l Bq_0 Bq_1 Bq_2 Bq_l
  have Br : B3 w8 (w7.heap.size) (.int .i64 f) (.int .i64 0) (.int .i64 0) := B3.at ((Ext.refl _).trans f8) (by simp)
  have e8 : Ext w7 w8 := ((Ext.refl w7).alloc _).trans f8
  replace Ba := Ba.ext e8
  replace Bp := Bp.ext e8
  replace Bq := Bq.ext e8
  have E8 : Ext w w8 := E7.trans e8
  clear f8
  obtain ⟨Bq_0, Bq_1, Bq_2⟩ := id Bq
  have Bq_l := World.block_lt_of_cell? _ _ Bq_0
  go_wp2_with fail
  refine (HP2.out _ (T.out.ext (E8.trans (Ext.refl w8)))).mono ?_
  rintro _ w9 ⟨rfl, f9⟩
  clear Bq_0 Bq_1 Bq_2 Bq_l
  have e9 : Ext w8 w9 := (Ext.refl w8).trans f9
  replace Ba := Ba.ext e9
  replace Bp := Bp.ext e9
  replace Bq := Bq.ext e9
  replace Br := Br.ext e9
  have E9 : Ext w w9 := E8.trans e9
  clear f9
  obtain ⟨Br_0, Br_1, Br_2⟩ := id Br
  have Br_l := World.block_lt_of_cell? _ _ Br_0
  go_wp2_with fail
  refine (HP3.out _ (T.out.ext (E9.trans (Ext.refl w9)))).mono ?_
  rintro _ w10 ⟨rfl, f10⟩
  clear Br_0 Br_1 Br_2 Br_l
  have e10 : Ext w9 w10 := (Ext.refl w9).trans f10
  replace Ba := Ba.ext e10
  replace Bp := Bp.ext e10
  replace Bq := Bq.ext e10
  replace Br := Br.ext e10
  have E10 : Ext w w10 := E9.trans e10
  clear f10
  obtain ⟨Bp_0, Bp_1, Bp_2⟩ := id Bp
  have Bp_l := World.block_lt_of_cell? _ _ Bp_0
  go_wp2
  refine wp_region_held_drew (S := (fun w' => (w'.cell? ⟨w.heap.size, 0, none⟩ = some (.int .i64 K) ∧ w'.cell? ⟨w.heap.size, 1, none⟩ = some (.int .i64 (Q : Int))) ∧ (w'.cell? ⟨w3.heap.size, 0, none⟩ = some (.int .i64 e) ∧ w'.cell? ⟨w3.heap.size, 1, none⟩ = some (.int .i64 0) ∧ w'.cell? ⟨w3.heap.size, 2, none⟩ = some (.int .i64 0)) ∧ (w'.cell? ⟨w5.heap.size, 0, none⟩ = some (.int .i64 ea) ∧ w'.cell? ⟨w5.heap.size, 1, none⟩ = some (.int .i64 0) ∧ w'.cell? ⟨w5.heap.size, 2, none⟩ = some (.int .i64 0)) ∧ (w'.cell? ⟨w7.heap.size, 0, none⟩ = some (.int .i64 f) ∧ w'.cell? ⟨w7.heap.size, 1, none⟩ = some (.int .i64 0) ∧ w'.cell? ⟨w7.heap.size, 2, none⟩ = some (.int .i64 0)))) (by as_aux_lemma => kernel_rfl) ⟨b2 (Ba.ext (Ext.refl w10).drew), b3 (Bp.ext (Ext.refl w10).drew), b3 (Bq.ext (Ext.refl w10).drew), b3 (Br.ext (Ext.refl w10).drew)⟩ (fun hHeld => ?_)
  refine wpAnyH_take (i := 0) (v := ?_) rfl (by as_aux_lemma => kernel_rfl) (by as_aux_lemma => kernel_rfl) (by as_aux_lemma => kernel_rfl) (fun _ _ _ h => h) (Or.inl ⟨by rfl, ?_⟩) (by assumption) ?_
  rotate_left
  · (intro w hSw; (try dsimp only at hSw); go_simp); (try with_reducible rfl)
  simp only [List.getElem_toArray, List.getElem_cons_zero, Act.put, List.setIfInBounds_toArray, List.set_cons_zero, List.set_cons_succ]
  refine wpAnyH_take (i := 2) (v := ?_) rfl (by as_aux_lemma => kernel_rfl) (by as_aux_lemma => kernel_rfl) (by as_aux_lemma => kernel_rfl) (fun _ _ _ h => h) (Or.inl ⟨by rfl, ?_⟩) (by assumption) ?_
  rotate_left
  · (intro w hSw; (try dsimp only at hSw); go_simp); (try with_reducible rfl)
  simp only [List.getElem_toArray, List.getElem_cons_zero, List.getElem_cons_succ, Act.put, List.setIfInBounds_toArray, List.set_cons_zero, List.set_cons_succ]
  refine wpAnyH_take (i := 1) (v := ?_) rfl (by as_aux_lemma => kernel_rfl) (by as_aux_lemma => kernel_rfl) (by as_aux_lemma => kernel_rfl) (fun _ _ _ h => h) (Or.inl ⟨by rfl, ?_⟩) (by assumption) ?_
  rotate_left
  · (intro w hSw; (try dsimp only at hSw); go_simp); (try with_reducible rfl)
  simp only [List.getElem_toArray, List.getElem_cons_zero, List.getElem_cons_succ, Act.put, List.setIfInBounds_toArray, List.set_cons_zero, List.set_cons_succ]
  refine wpAnyH_take (i := 3) (v := ?_) rfl (by as_aux_lemma => kernel_rfl) (by as_aux_lemma => kernel_rfl) (by as_aux_lemma => kernel_rfl) (fun _ _ _ h => h) (Or.inl ⟨by rfl, ?_⟩) (by assumption) ?_
  rotate_left
  · (intro w hSw; (try dsimp only at hSw); go_simp); (try with_reducible rfl)
  simp only [List.getElem_toArray, List.getElem_cons_zero, List.getElem_cons_succ, Act.put, List.setIfInBounds_toArray, List.set_cons_zero, List.set_cons_succ]
  refine wpAnyH_take (i := 4) (v := ?_) rfl (by as_aux_lemma => kernel_rfl) (by as_aux_lemma => kernel_rfl) (by as_aux_lemma => kernel_rfl) (fun _ _ _ h => h) (Or.inl ⟨by rfl, ?_⟩) (by assumption) ?_
  rotate_left
  · (intro w hSw; (try dsimp only at hSw); go_simp); (try with_reducible rfl)
  simp only [List.getElem_toArray, List.getElem_cons_zero, List.getElem_cons_succ, Act.put, List.setIfInBounds_toArray, List.set_cons_zero, List.set_cons_succ]
  refine wpAnyH_take (i := 5) (v := undef) rfl (by as_aux_lemma => kernel_rfl) (by as_aux_lemma => kernel_rfl) (by as_aux_lemma => kernel_rfl) (fun _ _ _ h => h) (Or.inr ⟨by rfl, rfl⟩) (by assumption) ?_
  simp only [List.getElem_toArray, List.getElem_cons_zero, List.getElem_cons_succ, Act.put, List.setIfInBounds_toArray, List.set_cons_zero, List.set_cons_succ]
  refine wpAnyH_take (i := 9) (v := undef) rfl (by as_aux_lemma => kernel_rfl) (by as_aux_lemma => kernel_rfl) (by as_aux_lemma => kernel_rfl) (fun _ _ _ h => h) (Or.inr ⟨by rfl, rfl⟩) (by assumption) ?_
  simp only [List.getElem_toArray, List.getElem_cons_zero, List.getElem_cons_succ, Act.put, List.setIfInBounds_toArray, List.set_cons_zero, List.set_cons_succ]
  refine wpAnyH_take (i := 6) (v := undef) rfl (by as_aux_lemma => kernel_rfl) (by as_aux_lemma => kernel_rfl) (by as_aux_lemma => kernel_rfl) (fun _ _ _ h => h) (Or.inr ⟨by rfl, rfl⟩) (by assumption) ?_
  simp only [List.getElem_toArray, List.getElem_cons_zero, List.getElem_cons_succ, Act.put, List.setIfInBounds_toArray, List.set_cons_zero, List.set_cons_succ]
  refine wpAnyH_take (i := 10) (v := undef) rfl (by as_aux_lemma => kernel_rfl) (by as_aux_lemma => kernel_rfl) (by as_aux_lemma => kernel_rfl) (fun _ _ _ h => h) (Or.inr ⟨by rfl, rfl⟩) (by assumption) ?_
  simp only [List.getElem_toArray, List.getElem_cons_zero, List.getElem_cons_succ, Act.put, List.setIfInBounds_toArray, List.set_cons_zero, List.set_cons_succ]
  refine wpAnyH_take (i := 7) (v := undef) rfl (by as_aux_lemma => kernel_rfl) (by as_aux_lemma => kernel_rfl) (by as_aux_lemma => kernel_rfl) (fun _ _ _ h => h) (Or.inr ⟨by rfl, rfl⟩) (by assumption) ?_
  simp only [List.getElem_toArray, List.getElem_cons_zero, List.getElem_cons_succ, Act.put, List.setIfInBounds_toArray, List.set_cons_zero, List.set_cons_succ]
  refine wpAnyH_take (i := 11) (v := undef) rfl (by as_aux_lemma => kernel_rfl) (by as_aux_lemma => kernel_rfl) (by as_aux_lemma => kernel_rfl) (fun _ _ _ h => h) (Or.inr ⟨by rfl, rfl⟩) (by assumption) ?_
  simp only [List.getElem_toArray, List.getElem_cons_zero, List.getElem_cons_succ, Act.put, List.setIfInBounds_toArray, List.set_cons_zero, List.set_cons_succ]
  refine wpAnyH_take (i := 8) (v := undef) rfl (by as_aux_lemma => kernel_rfl) (by as_aux_lemma => kernel_rfl) (by as_aux_lemma => kernel_rfl) (fun _ _ _ h => h) (Or.inr ⟨by rfl, rfl⟩) (by assumption) ?_
  simp only [List.getElem_toArray, List.getElem_cons_zero, List.getElem_cons_succ, Act.put, List.setIfInBounds_toArray, List.set_cons_zero, List.set_cons_succ]
  refine wpAnyH_take (i := 12) (v := undef) rfl (by as_aux_lemma => kernel_rfl) (by as_aux_lemma => kernel_rfl) (by as_aux_lemma => kernel_rfl) (fun _ _ _ h => h) (Or.inr ⟨by rfl, rfl⟩) (by assumption) ?_
  simp only [List.getElem_toArray, List.getElem_cons_zero, List.getElem_cons_succ, Act.put, List.setIfInBounds_toArray, List.set_cons_zero, List.set_cons_succ]
  refine wpAnyH_take (i := 13) (v := undef) rfl (by as_aux_lemma => kernel_rfl) (by as_aux_lemma => kernel_rfl) (by as_aux_lemma => kernel_rfl) (fun _ _ _ h => h) (Or.inr ⟨by rfl, rfl⟩) (by assumption) ?_
  simp only [List.getElem_toArray, List.getElem_cons_zero, List.getElem_cons_succ, Act.put, List.setIfInBounds_toArray, List.set_cons_zero, List.set_cons_succ]
  refine wpAnyH_take (i := 14) (v := ?_) rfl (by as_aux_lemma => kernel_rfl) (by as_aux_lemma => kernel_rfl) (by as_aux_lemma => kernel_rfl) (fun _ _ _ h => h) (Or.inl ⟨by rfl, ?_⟩) (by assumption) ?_
  rotate_left
  · (intro w hSw; (try dsimp only at hSw); go_simp); (try with_reducible rfl)
  simp only [List.getElem_toArray, List.getElem_cons_zero, List.getElem_cons_succ, Act.put, List.setIfInBounds_toArray, List.set_cons_zero, List.set_cons_succ]
  refine wpAnyH_done (by as_aux_lemma => kernel_rfl) ?_ _
  clear Bp_0 Bp_1 Bp_2 Bp_l
  have Fa0 : Ext w10 w10.drew := (Ext.refl w10).drew
  replace Ba := Ba.ext Fa0
  replace Bp := Bp.ext Fa0
  replace Bq := Bq.ext Fa0
  replace Br := Br.ext Fa0
  have Ea := E10.trans Fa0
  clear Fa0 hHeld
  generalize w10.drew = Va at *
  go_wp2
  go_ret
  exact ⟨rfl, Ea⟩
set_option maxRecDepth 100000 in
set_option maxHeartbeats 4000000 in
theorem place_e (w : World) (T0 : Tu w) (K : Int) (Q : Nat) (hK : -1099511627776 ≤ K ∧ K ≤ 1099511627776) (hQ : Q ≤ 40) (hz : rest (tv K Q) = 137438953472) :
    Calls Tryd.prog 8 #[.agg #[.int .i64 K, .int .i64 Q]] w (RetE w (.bool true)) := by
  have hv := tv_range K Q
  obtain ⟨q0, q1, q2, q3⟩ := rest_range hv.1 hv.2
  have h : Fm (rest (tv K Q)) 1 3 := by rw [hz]; exact fm_num (by decide)
  obtain ⟨kf, qf, hf⟩ := fm_there hv.1 hv.2
  obtain ⟨a1, a2⟩ := quarter hv.1 hv.2
  obtain ⟨b1, b2⟩ := opposite hv.1 hv.2
  obtain ⟨ka, qa, hA⟩ : ∃ k q, Fm ((tv K Q + tv 1 2) % 1099511627776) k q := fm_there (by omega) (by omega)
  obtain ⟨ko, qo, hO⟩ : ∃ k q, Fm ((-tv K Q) % 1099511627776) k q := fm_there (by omega) (by omega)
  obtain ⟨kb, qb, hB⟩ := fm_there (tv_range 1 2).1 (tv_range 1 2).2
  have t12 : tv 1 2 = 274877906944 := by decide
  obtain ⟨r1, r2, r3, r4⟩ := hA.low
  obtain ⟨s1, s2, s3, s4⟩ := hO.low
  have rl := p2_le r3
  have sl := p2_le s3
  rw [p2_40] at rl sl
  have hea : eighth (tv ka qa) = (eighth (tv K Q) + 2) % 8 := by rw [hA.tv, t12]; exact a1
  have hra : Fm (rest (tv ka qa)) (1 : Int) (3 : Nat) := by rw [hA.tv, t12, a2]; exact h
  have hro : Fm (rest (tv ko qo)) (1 : Int) (3 : Nat) := by rw [hO.tv, b1]; exact h
  obtain ⟨e, he⟩ : ∃ e, eighth (tv K Q) = e := ⟨_, rfl⟩
  rw [he] at hea q0 q1
  obtain ⟨p1, p2, p3⟩ := pl_quarter ⟨q0, q1⟩
  obtain ⟨f, heo⟩ : ∃ f, eighth (tv ko qo) = f := ⟨_, rfl⟩
  obtain ⟨l1, l2, l3, l4⟩ := h.low
  have lq := p2_le l3
  rw [p2_40] at lq
  have lp := p2_pos (3 : Nat)
  have hr1 : rightT K Q = true := rightT_iff.2 (by omega)
  have HR1 := Lib.hid (fun w' => rright_lit w' K Q true hr1 (by omega) (by omega))
  have HS := Lib.hid (fun w' (T' : Tu w') => tsplit_any w' T'.tb K (1 : Int) e Q (3 : Nat) (by omega) hQ he h)
  have HA := Lib.hid (fun w' (T' : Tu w') => tadd_any w' T'.tb K 1 ka Q 2 qa (by omega) (by omega) hQ (by omega) hA)
  have HO := Lib.hid (fun w' (T' : Tu w') => tflip_any w' T'.tb K ko Q qo (by omega) hQ hO)
  have HSA := Lib.hid (fun w' (T' : Tu w') => tsplit_any w' T'.tb ka (1 : Int) _ qa (3 : Nat) (by omega) r3 hea hra)
  have HSO := Lib.hid (fun w' (T' : Tu w') => tsplit_any w' T'.tb ko (1 : Int) _ qo (3 : Nat) (by omega) s3 heo hro)
  obtain ⟨s, hs⟩ : ∃ s, plSwap e = s := ⟨_, rfl⟩
  obtain ⟨c, hc⟩ : ∃ c, plCos e = c := ⟨_, rfl⟩
  obtain ⟨n, hn⟩ : ∃ n, plSin e = n := ⟨_, rfl⟩
  rw [hs] at p1; rw [hn] at p2; rw [hc] at p3
  have HP1 := Lib.hid (fun w' (T' : Tu w') => tplace_lit w' T'.pl e s c n hs hc hn)
  have HP2 := Lib.hid (fun w' (T' : Tu w') => tplace_lit w' T'.pl ((e + 2) % 8) (!s) (!n) c p1 p2 p3)
  have HP3 := Lib.hid (fun w' (T' : Tu w') => tplace_any w' T'.pl f)
  generalize plSwap f = x1 at *
  generalize plCos f = x2 at *
  generalize plSin f = x3 at *
  obtain ⟨ea, hea2⟩ : ∃ g, (e + 2) % 8 = g := ⟨_, rfl⟩
  rw [hea2] at HP2 HSA
  clear hv q0 q1 q2 q3 h hf a1 a2 b1 b2 hA hO hB t12 r1 r2 r3 r4 s1 s2 s3 s4 rl sl hea hra hro heo he p1 p2 p3 l1 l2 l4 lq hr1 hs hc hn hea2 hz
  have T := Lib.hid T0
  clear T0
  go_enter Tryd.func8, Tryd.ntmps8
  go_wp2_with fail
  refine (headT_any _ (T.out.ext ((Ext.refl w).alloc _))).mono ?_
  rintro _ w1 ⟨rfl, f1⟩
  have Ba : B2 w1 (w.heap.size) (.int .i64 K) (.int .i64 (Q : Int)) := B2.at ((Ext.refl _).trans f1) (by simp)
  have e1 : Ext w w1 := ((Ext.refl w).alloc _).trans f1
  have E1 : Ext w w1 := e1
  clear f1
  obtain ⟨Ba_0, Ba_1⟩ := id Ba
  have Ba_l := World.block_lt_of_cell? _ _ Ba_0
  go_wp2_with fail
  refine (HR1.out _).mono ?_
  rintro _ w2 ⟨rfl, f2⟩
  clear Ba_0 Ba_1 Ba_l
  have e2 : Ext w1 w2 := (Ext.refl w1).trans f2
  replace Ba := Ba.ext e2
  have E2 : Ext w w2 := E1.trans e2
  clear f2
  obtain ⟨Ba_0, Ba_1⟩ := id Ba
  have Ba_l := World.block_lt_of_cell? _ _ Ba_0
  go_wp2_with fail
  refine (HS.out _ (T.out.ext (E2.trans (Ext.refl w2)))).mono ?_
  rintro _ w3 ⟨rfl, f3⟩
  clear Ba_0 Ba_1 Ba_l
  have e3 : Ext w2 w3 := (Ext.refl w2).trans f3
  replace Ba := Ba.ext e3
  have E3 : Ext w w3 := E2.trans e3
  clear f3
  obtain ⟨Ba_0, Ba_1⟩ := id Ba
  have Ba_l := World.block_lt_of_cell? _ _ Ba_0
  go_wp2_with fail
  refine (HA.out _ (T.out.ext (E3.trans ((Ext.refl w3).alloc _)))).mono ?_
  rintro _ w4 ⟨rfl, f4⟩
  clear Ba_0 Ba_1 Ba_l
  have Bp : B3 w4 (w3.heap.size) (.int .i64 e) (.int .i64 1) (.int .i64 3) := B3.at ((Ext.refl _).trans f4) (by simp)
  have e4 : Ext w3 w4 := ((Ext.refl w3).alloc _).trans f4
  replace Ba := Ba.ext e4
  have E4 : Ext w w4 := E3.trans e4
  clear f4
  go_wp2_with fail
  refine (HSA.out _ (T.out.ext (E4.trans (Ext.refl w4)))).mono ?_
  rintro _ w5 ⟨rfl, f5⟩
  have e5 : Ext w4 w5 := (Ext.refl w4).trans f5
  replace Ba := Ba.ext e5
  replace Bp := Bp.ext e5
  have E5 : Ext w w5 := E4.trans e5
  clear f5
  obtain ⟨Ba_0, Ba_1⟩ := id Ba
  have Ba_l := World.block_lt_of_cell? _ _ Ba_0
  go_wp2_with fail
  refine (HO.out _ (T.out.ext (E5.trans ((Ext.refl w5).alloc _)))).mono ?_
  rintro _ w6 ⟨rfl, f6⟩
  clear Ba_0 Ba_1 Ba_l
  have Bq : B3 w6 (w5.heap.size) (.int .i64 ea) (.int .i64 1) (.int .i64 3) := B3.at ((Ext.refl _).trans f6) (by simp)
  have e6 : Ext w5 w6 := ((Ext.refl w5).alloc _).trans f6
  replace Ba := Ba.ext e6
  replace Bp := Bp.ext e6
  have E6 : Ext w w6 := E5.trans e6
  clear f6
  go_wp2_with fail
  refine (HSO.out _ (T.out.ext (E6.trans (Ext.refl w6)))).mono ?_
  rintro _ w7 ⟨rfl, f7⟩
  have e7 : Ext w6 w7 := (Ext.refl w6).trans f7
  replace Ba := Ba.ext e7
  replace Bp := Bp.ext e7
  replace Bq := Bq.ext e7
  have E7 : Ext w w7 := E6.trans e7
  clear f7
  obtain ⟨Bp_0, Bp_1, Bp_2⟩ := id Bp
  have Bp_l := World.block_lt_of_cell? _ _ Bp_0
  obtain ⟨Bq_0, Bq_1, Bq_2⟩ := id Bq
  have Bq_l := World.block_lt_of_cell? _ _ Bq_0
  go_wp2_with fail
  refine (HP1.out _ (T.out.ext (E7.trans ((Ext.refl w7).alloc _)))).mono ?_
  rintro _ w8 ⟨rfl, f8⟩
  clear Bp_0 Bp_1 Bp_2 Bp_l Bq_0 Bq_1 Bq_2 Bq_l
  have Br : B3 w8 (w7.heap.size) (.int .i64 f) (.int .i64 1) (.int .i64 3) := B3.at ((Ext.refl _).trans f8) (by simp)
  have e8 : Ext w7 w8 := ((Ext.refl w7).alloc _).trans f8
  replace Ba := Ba.ext e8
  replace Bp := Bp.ext e8
  replace Bq := Bq.ext e8
  have E8 : Ext w w8 := E7.trans e8
  clear f8
  obtain ⟨Bq_0, Bq_1, Bq_2⟩ := id Bq
  have Bq_l := World.block_lt_of_cell? _ _ Bq_0
  go_wp2_with fail
  refine (HP2.out _ (T.out.ext (E8.trans (Ext.refl w8)))).mono ?_
  rintro _ w9 ⟨rfl, f9⟩
  clear Bq_0 Bq_1 Bq_2 Bq_l
  have e9 : Ext w8 w9 := (Ext.refl w8).trans f9
  replace Ba := Ba.ext e9
  replace Bp := Bp.ext e9
  replace Bq := Bq.ext e9
  replace Br := Br.ext e9
  have E9 : Ext w w9 := E8.trans e9
  clear f9
  obtain ⟨Br_0, Br_1, Br_2⟩ := id Br
  have Br_l := World.block_lt_of_cell? _ _ Br_0
  go_wp2_with fail
  refine (HP3.out _ (T.out.ext (E9.trans (Ext.refl w9)))).mono ?_
  rintro _ w10 ⟨rfl, f10⟩
  clear Br_0 Br_1 Br_2 Br_l
  have e10 : Ext w9 w10 := (Ext.refl w9).trans f10
  replace Ba := Ba.ext e10
  replace Bp := Bp.ext e10
  replace Bq := Bq.ext e10
  replace Br := Br.ext e10
  have E10 : Ext w w10 := E9.trans e10
  clear f10
  obtain ⟨Bp_0, Bp_1, Bp_2⟩ := id Bp
  have Bp_l := World.block_lt_of_cell? _ _ Bp_0
  go_wp2
  refine wp_region_held_drew (S := (fun w' => (w'.cell? ⟨w.heap.size, 0, none⟩ = some (.int .i64 K) ∧ w'.cell? ⟨w.heap.size, 1, none⟩ = some (.int .i64 (Q : Int))) ∧ (w'.cell? ⟨w3.heap.size, 0, none⟩ = some (.int .i64 e) ∧ w'.cell? ⟨w3.heap.size, 1, none⟩ = some (.int .i64 1) ∧ w'.cell? ⟨w3.heap.size, 2, none⟩ = some (.int .i64 3)) ∧ (w'.cell? ⟨w5.heap.size, 0, none⟩ = some (.int .i64 ea) ∧ w'.cell? ⟨w5.heap.size, 1, none⟩ = some (.int .i64 1) ∧ w'.cell? ⟨w5.heap.size, 2, none⟩ = some (.int .i64 3)) ∧ (w'.cell? ⟨w7.heap.size, 0, none⟩ = some (.int .i64 f) ∧ w'.cell? ⟨w7.heap.size, 1, none⟩ = some (.int .i64 1) ∧ w'.cell? ⟨w7.heap.size, 2, none⟩ = some (.int .i64 3)))) (by as_aux_lemma => kernel_rfl) ⟨b2 (Ba.ext (Ext.refl w10).drew), b3 (Bp.ext (Ext.refl w10).drew), b3 (Bq.ext (Ext.refl w10).drew), b3 (Br.ext (Ext.refl w10).drew)⟩ (fun hHeld => ?_)
  refine wpAnyH_take (i := 0) (v := ?_) rfl (by as_aux_lemma => kernel_rfl) (by as_aux_lemma => kernel_rfl) (by as_aux_lemma => kernel_rfl) (fun _ _ _ h => h) (Or.inl ⟨by rfl, ?_⟩) (by assumption) ?_
  rotate_left
  · (intro w hSw; (try dsimp only at hSw); go_simp); (try with_reducible rfl)
  simp only [List.getElem_toArray, List.getElem_cons_zero, Act.put, List.setIfInBounds_toArray, List.set_cons_zero, List.set_cons_succ]
  refine wpAnyH_take (i := 2) (v := ?_) rfl (by as_aux_lemma => kernel_rfl) (by as_aux_lemma => kernel_rfl) (by as_aux_lemma => kernel_rfl) (fun _ _ _ h => h) (Or.inl ⟨by rfl, ?_⟩) (by assumption) ?_
  rotate_left
  · (intro w hSw; (try dsimp only at hSw); go_simp); (try with_reducible rfl)
  simp only [List.getElem_toArray, List.getElem_cons_zero, List.getElem_cons_succ, Act.put, List.setIfInBounds_toArray, List.set_cons_zero, List.set_cons_succ]
  refine wpAnyH_take (i := 1) (v := ?_) rfl (by as_aux_lemma => kernel_rfl) (by as_aux_lemma => kernel_rfl) (by as_aux_lemma => kernel_rfl) (fun _ _ _ h => h) (Or.inl ⟨by rfl, ?_⟩) (by assumption) ?_
  rotate_left
  · (intro w hSw; (try dsimp only at hSw); go_simp); (try with_reducible rfl)
  simp only [List.getElem_toArray, List.getElem_cons_zero, List.getElem_cons_succ, Act.put, List.setIfInBounds_toArray, List.set_cons_zero, List.set_cons_succ]
  refine wpAnyH_take (i := 3) (v := ?_) rfl (by as_aux_lemma => kernel_rfl) (by as_aux_lemma => kernel_rfl) (by as_aux_lemma => kernel_rfl) (fun _ _ _ h => h) (Or.inl ⟨by rfl, ?_⟩) (by assumption) ?_
  rotate_left
  · (intro w hSw; (try dsimp only at hSw); go_simp); (try with_reducible rfl)
  simp only [List.getElem_toArray, List.getElem_cons_zero, List.getElem_cons_succ, Act.put, List.setIfInBounds_toArray, List.set_cons_zero, List.set_cons_succ]
  refine wpAnyH_take (i := 4) (v := ?_) rfl (by as_aux_lemma => kernel_rfl) (by as_aux_lemma => kernel_rfl) (by as_aux_lemma => kernel_rfl) (fun _ _ _ h => h) (Or.inl ⟨by rfl, ?_⟩) (by assumption) ?_
  rotate_left
  · (intro w hSw; (try dsimp only at hSw); go_simp); (try with_reducible rfl)
  simp only [List.getElem_toArray, List.getElem_cons_zero, List.getElem_cons_succ, Act.put, List.setIfInBounds_toArray, List.set_cons_zero, List.set_cons_succ]
  refine wpAnyH_take (i := 5) (v := ?_) rfl (by as_aux_lemma => kernel_rfl) (by as_aux_lemma => kernel_rfl) (by as_aux_lemma => kernel_rfl) (fun _ _ _ h => h) (Or.inl ⟨by rfl, ?_⟩) (by assumption) ?_
  rotate_left
  · (intro w hSw; (try dsimp only at hSw); go_simp); (try with_reducible rfl)
  simp only [List.getElem_toArray, List.getElem_cons_zero, List.getElem_cons_succ, Act.put, List.setIfInBounds_toArray, List.set_cons_zero, List.set_cons_succ]
  refine wpAnyH_take (i := 9) (v := ?_) rfl (by as_aux_lemma => kernel_rfl) (by as_aux_lemma => kernel_rfl) (by as_aux_lemma => kernel_rfl) (fun _ _ _ h => h) (Or.inl ⟨by rfl, ?_⟩) (by assumption) ?_
  rotate_left
  · (intro w hSw; (try dsimp only at hSw); go_simp); (try with_reducible rfl)
  simp only [List.getElem_toArray, List.getElem_cons_zero, List.getElem_cons_succ, Act.put, List.setIfInBounds_toArray, List.set_cons_zero, List.set_cons_succ]
  refine wpAnyH_take (i := 6) (v := ?_) rfl (by as_aux_lemma => kernel_rfl) (by as_aux_lemma => kernel_rfl) (by as_aux_lemma => kernel_rfl) (fun _ _ _ h => h) (Or.inl ⟨by rfl, ?_⟩) (by assumption) ?_
  rotate_left
  · (intro w hSw; (try dsimp only at hSw); go_simp); (try with_reducible rfl)
  simp only [List.getElem_toArray, List.getElem_cons_zero, List.getElem_cons_succ, Act.put, List.setIfInBounds_toArray, List.set_cons_zero, List.set_cons_succ]
  refine wpAnyH_take (i := 10) (v := ?_) rfl (by as_aux_lemma => kernel_rfl) (by as_aux_lemma => kernel_rfl) (by as_aux_lemma => kernel_rfl) (fun _ _ _ h => h) (Or.inl ⟨by rfl, ?_⟩) (by assumption) ?_
  rotate_left
  · (intro w hSw; (try dsimp only at hSw); go_simp); (try with_reducible rfl)
  simp only [List.getElem_toArray, List.getElem_cons_zero, List.getElem_cons_succ, Act.put, List.setIfInBounds_toArray, List.set_cons_zero, List.set_cons_succ]
  refine wpAnyH_take (i := 7) (v := ?_) rfl (by as_aux_lemma => kernel_rfl) (by as_aux_lemma => kernel_rfl) (by as_aux_lemma => kernel_rfl) (fun _ _ _ h => h) (Or.inl ⟨by rfl, ?_⟩) (by assumption) ?_
  rotate_left
  · (intro w hSw; (try dsimp only at hSw); go_simp); (try with_reducible rfl)
  simp only [List.getElem_toArray, List.getElem_cons_zero, List.getElem_cons_succ, Act.put, List.setIfInBounds_toArray, List.set_cons_zero, List.set_cons_succ]
  refine wpAnyH_take (i := 11) (v := ?_) rfl (by as_aux_lemma => kernel_rfl) (by as_aux_lemma => kernel_rfl) (by as_aux_lemma => kernel_rfl) (fun _ _ _ h => h) (Or.inl ⟨by rfl, ?_⟩) (by assumption) ?_
  rotate_left
  · (intro w hSw; (try dsimp only at hSw); go_simp); (try with_reducible rfl)
  simp only [List.getElem_toArray, List.getElem_cons_zero, List.getElem_cons_succ, Act.put, List.setIfInBounds_toArray, List.set_cons_zero, List.set_cons_succ]
  refine wpAnyH_take (i := 8) (v := ?_) rfl (by as_aux_lemma => kernel_rfl) (by as_aux_lemma => kernel_rfl) (by as_aux_lemma => kernel_rfl) (fun _ _ _ h => h) (Or.inl ⟨by rfl, ?_⟩) (by assumption) ?_
  rotate_left
  · (intro w hSw; (try dsimp only at hSw); go_simp); (try with_reducible rfl)
  simp only [List.getElem_toArray, List.getElem_cons_zero, List.getElem_cons_succ, Act.put, List.setIfInBounds_toArray, List.set_cons_zero, List.set_cons_succ]
  refine wpAnyH_take (i := 12) (v := ?_) rfl (by as_aux_lemma => kernel_rfl) (by as_aux_lemma => kernel_rfl) (by as_aux_lemma => kernel_rfl) (fun _ _ _ h => h) (Or.inl ⟨by rfl, ?_⟩) (by assumption) ?_
  rotate_left
  · (intro w hSw; (try dsimp only at hSw); go_simp); (try with_reducible rfl)
  simp only [List.getElem_toArray, List.getElem_cons_zero, List.getElem_cons_succ, Act.put, List.setIfInBounds_toArray, List.set_cons_zero, List.set_cons_succ]
  refine wpAnyH_take (i := 13) (v := ?_) rfl (by as_aux_lemma => kernel_rfl) (by as_aux_lemma => kernel_rfl) (by as_aux_lemma => kernel_rfl) (fun _ _ _ h => h) (Or.inl ⟨by rfl, ?_⟩) (by assumption) ?_
  rotate_left
  · (intro w hSw; (try dsimp only at hSw); go_simp); (try with_reducible rfl)
  simp only [List.getElem_toArray, List.getElem_cons_zero, List.getElem_cons_succ, Act.put, List.setIfInBounds_toArray, List.set_cons_zero, List.set_cons_succ]
  refine wpAnyH_take (i := 14) (v := ?_) rfl (by as_aux_lemma => kernel_rfl) (by as_aux_lemma => kernel_rfl) (by as_aux_lemma => kernel_rfl) (fun _ _ _ h => h) (Or.inl ⟨by rfl, ?_⟩) (by assumption) ?_
  rotate_left
  · (intro w hSw; (try dsimp only at hSw); go_simp); (try with_reducible rfl)
  simp only [List.getElem_toArray, List.getElem_cons_zero, List.getElem_cons_succ, Act.put, List.setIfInBounds_toArray, List.set_cons_zero, List.set_cons_succ]
  refine wpAnyH_done (by as_aux_lemma => kernel_rfl) ?_ _
  clear Bp_0 Bp_1 Bp_2 Bp_l
  have Fa0 : Ext w10 w10.drew := (Ext.refl w10).drew
  replace Ba := Ba.ext Fa0
  replace Bp := Bp.ext Fa0
  replace Bq := Bq.ext Fa0
  replace Br := Br.ext Fa0
  have Ea := E10.trans Fa0
  clear Fa0 hHeld
  generalize w10.drew = Va at *
  go_wp2
  go_ret
  exact ⟨rfl, Ea⟩
set_option maxRecDepth 100000 in
set_option maxHeartbeats 4000000 in
theorem place_p (w : World) (T0 : Tu w) (K : Int) (Q : Nat) (hK : -1099511627776 ≤ K ∧ K ≤ 1099511627776) (hQ : Q ≤ 40) (hz : ¬ rest (tv K Q) = 0 ∧ ¬ rest (tv K Q) = 137438953472) :
    Calls Tryd.prog 8 #[.agg #[.int .i64 K, .int .i64 Q]] w (RetE w (.bool true)) := by
  have hv := tv_range K Q
  obtain ⟨q0, q1, q2, q3⟩ := rest_range hv.1 hv.2
  obtain ⟨k, q, h⟩ : ∃ k q, Fm (rest (tv K Q)) k q := fm_there q2 (by omega)
  obtain ⟨kf, qf, hf⟩ := fm_there hv.1 hv.2
  obtain ⟨a1, a2⟩ := quarter hv.1 hv.2
  obtain ⟨b1, b2⟩ := opposite hv.1 hv.2
  obtain ⟨ka, qa, hA⟩ : ∃ k q, Fm ((tv K Q + tv 1 2) % 1099511627776) k q := fm_there (by omega) (by omega)
  obtain ⟨ko, qo, hO⟩ : ∃ k q, Fm ((-tv K Q) % 1099511627776) k q := fm_there (by omega) (by omega)
  obtain ⟨kb, qb, hB⟩ := fm_there (tv_range 1 2).1 (tv_range 1 2).2
  have t12 : tv 1 2 = 274877906944 := by decide
  obtain ⟨r1, r2, r3, r4⟩ := hA.low
  obtain ⟨s1, s2, s3, s4⟩ := hO.low
  have rl := p2_le r3
  have sl := p2_le s3
  rw [p2_40] at rl sl
  have hea : eighth (tv ka qa) = (eighth (tv K Q) + 2) % 8 := by rw [hA.tv, t12]; exact a1
  have hra : Fm (rest (tv ka qa)) k q := by rw [hA.tv, t12, a2]; exact h
  have hro : Fm (rest (tv ko qo)) k q := by rw [hO.tv, b1]; exact h
  have c0 : 0 < rest (tv K Q) := by omega
  have c1 : rest (tv K Q) < 137438953472 := by omega
  have heo : eighth (tv ko qo) = 7 - eighth (tv K Q) := by rw [hO.tv]; exact b2 c0 c1
  have hps := fm_pos' h c0
  have hk0 : (k == 0) = false := beq_eq_false_iff_ne.2 (by omega)
  have hed := fm_edge' h c1
  have hed' : (8 * k == 2 ^ q) = false := beq_eq_false_iff_ne.2 hed
  obtain ⟨e, he⟩ : ∃ e, eighth (tv K Q) = e := ⟨_, rfl⟩
  rw [he] at hea q0 q1 heo
  obtain ⟨p1, p2, p3⟩ := pl_quarter ⟨q0, q1⟩
  obtain ⟨o1, o2, o3⟩ := pl_opp ⟨q0, q1⟩
  obtain ⟨l1, l2, l3, l4⟩ := h.low
  have lq := p2_le l3
  rw [p2_40] at lq
  have lp := p2_pos q
  have hr1 : rightT K Q = true := rightT_iff.2 (by omega)
  have HR1 := Lib.hid (fun w' => rright_lit w' K Q true hr1 (by omega) (by omega))
  have HS := Lib.hid (fun w' (T' : Tu w') => tsplit_any w' T'.tb K k e Q q (by omega) hQ he h)
  have HA := Lib.hid (fun w' (T' : Tu w') => tadd_any w' T'.tb K 1 ka Q 2 qa (by omega) (by omega) hQ (by omega) hA)
  have HO := Lib.hid (fun w' (T' : Tu w') => tflip_any w' T'.tb K ko Q qo (by omega) hQ hO)
  have HSA := Lib.hid (fun w' (T' : Tu w') => tsplit_any w' T'.tb ka k _ qa q (by omega) r3 hea hra)
  have HSO := Lib.hid (fun w' (T' : Tu w') => tsplit_any w' T'.tb ko k _ qo q (by omega) s3 heo hro)
  obtain ⟨s, hs⟩ : ∃ s, plSwap e = s := ⟨_, rfl⟩
  obtain ⟨c, hc⟩ : ∃ c, plCos e = c := ⟨_, rfl⟩
  obtain ⟨n, hn⟩ : ∃ n, plSin e = n := ⟨_, rfl⟩
  rw [hs] at p1; rw [hn] at p2; rw [hc] at p3
  have HP1 := Lib.hid (fun w' (T' : Tu w') => tplace_lit w' T'.pl e s c n hs hc hn)
  have HP2 := Lib.hid (fun w' (T' : Tu w') => tplace_lit w' T'.pl ((e + 2) % 8) (!s) (!n) c p1 p2 p3)
  rw [hs] at o1; rw [hc] at o2; rw [hn] at o3
  have HP3 := Lib.hid (fun w' (T' : Tu w') => tplace_lit w' T'.pl (7 - e) s c (!n) o1 o2 o3)
  obtain ⟨g, hg⟩ : ∃ g, 7 - e = g := ⟨_, rfl⟩
  rw [hg] at HP3 HSO
  obtain ⟨ea, hea2⟩ : ∃ g, (e + 2) % 8 = g := ⟨_, rfl⟩
  rw [hea2] at HP2 HSA
  have hw8 : IntKind.i64.wrap (8 * k) = 8 * k := IntWalk.i64_in _ (by omega)
  have hwq : IntKind.i64.wrap ((2 : Int) ^ q) = 2 ^ q := two_pow_word (by omega)
  have l3' : (q : Int) ≤ 40 := by omega
  clear hv q0 q1 q2 q3 h hf a1 a2 b1 b2 hA hO hB t12 r1 r2 r3 r4 s1 s2 s3 s4 rl sl hea hra hro heo he p1 p2 p3 l1 l2 l4 lq hr1 hs hc hn hea2 hz c0 c1 o1 o2 o3 hg
  have T := Lib.hid T0
  clear T0
  go_enter Tryd.func8, Tryd.ntmps8
  go_wp2_with fail
  refine (headT_any _ (T.out.ext ((Ext.refl w).alloc _))).mono ?_
  rintro _ w1 ⟨rfl, f1⟩
  have Ba : B2 w1 (w.heap.size) (.int .i64 K) (.int .i64 (Q : Int)) := B2.at ((Ext.refl _).trans f1) (by simp)
  have e1 : Ext w w1 := ((Ext.refl w).alloc _).trans f1
  have E1 : Ext w w1 := e1
  clear f1
  obtain ⟨Ba_0, Ba_1⟩ := id Ba
  have Ba_l := World.block_lt_of_cell? _ _ Ba_0
  go_wp2_with fail
  refine (HR1.out _).mono ?_
  rintro _ w2 ⟨rfl, f2⟩
  clear Ba_0 Ba_1 Ba_l
  have e2 : Ext w1 w2 := (Ext.refl w1).trans f2
  replace Ba := Ba.ext e2
  have E2 : Ext w w2 := E1.trans e2
  clear f2
  obtain ⟨Ba_0, Ba_1⟩ := id Ba
  have Ba_l := World.block_lt_of_cell? _ _ Ba_0
  go_wp2_with fail
  refine (HS.out _ (T.out.ext (E2.trans (Ext.refl w2)))).mono ?_
  rintro _ w3 ⟨rfl, f3⟩
  clear Ba_0 Ba_1 Ba_l
  have e3 : Ext w2 w3 := (Ext.refl w2).trans f3
  replace Ba := Ba.ext e3
  have E3 : Ext w w3 := E2.trans e3
  clear f3
  obtain ⟨Ba_0, Ba_1⟩ := id Ba
  have Ba_l := World.block_lt_of_cell? _ _ Ba_0
  go_wp2_with fail
  refine (HA.out _ (T.out.ext (E3.trans ((Ext.refl w3).alloc _)))).mono ?_
  rintro _ w4 ⟨rfl, f4⟩
  clear Ba_0 Ba_1 Ba_l
  have Bp : B3 w4 (w3.heap.size) (.int .i64 e) (.int .i64 k) (.int .i64 (q : Int)) := B3.at ((Ext.refl _).trans f4) (by simp)
  have e4 : Ext w3 w4 := ((Ext.refl w3).alloc _).trans f4
  replace Ba := Ba.ext e4
  have E4 : Ext w w4 := E3.trans e4
  clear f4
  go_wp2_with fail
  refine (HSA.out _ (T.out.ext (E4.trans (Ext.refl w4)))).mono ?_
  rintro _ w5 ⟨rfl, f5⟩
  have e5 : Ext w4 w5 := (Ext.refl w4).trans f5
  replace Ba := Ba.ext e5
  replace Bp := Bp.ext e5
  have E5 : Ext w w5 := E4.trans e5
  clear f5
  obtain ⟨Ba_0, Ba_1⟩ := id Ba
  have Ba_l := World.block_lt_of_cell? _ _ Ba_0
  go_wp2_with fail
  refine (HO.out _ (T.out.ext (E5.trans ((Ext.refl w5).alloc _)))).mono ?_
  rintro _ w6 ⟨rfl, f6⟩
  clear Ba_0 Ba_1 Ba_l
  have Bq : B3 w6 (w5.heap.size) (.int .i64 ea) (.int .i64 k) (.int .i64 (q : Int)) := B3.at ((Ext.refl _).trans f6) (by simp)
  have e6 : Ext w5 w6 := ((Ext.refl w5).alloc _).trans f6
  replace Ba := Ba.ext e6
  replace Bp := Bp.ext e6
  have E6 : Ext w w6 := E5.trans e6
  clear f6
  go_wp2_with fail
  refine (HSO.out _ (T.out.ext (E6.trans (Ext.refl w6)))).mono ?_
  rintro _ w7 ⟨rfl, f7⟩
  have e7 : Ext w6 w7 := (Ext.refl w6).trans f7
  replace Ba := Ba.ext e7
  replace Bp := Bp.ext e7
  replace Bq := Bq.ext e7
  have E7 : Ext w w7 := E6.trans e7
  clear f7
  obtain ⟨Bp_0, Bp_1, Bp_2⟩ := id Bp
  have Bp_l := World.block_lt_of_cell? _ _ Bp_0
  obtain ⟨Bq_0, Bq_1, Bq_2⟩ := id Bq
  have Bq_l := World.block_lt_of_cell? _ _ Bq_0
  go_wp2_with fail
  refine (HP1.out _ (T.out.ext (E7.trans ((Ext.refl w7).alloc _)))).mono ?_
  rintro _ w8 ⟨rfl, f8⟩
  clear Bp_0 Bp_1 Bp_2 Bp_l Bq_0 Bq_1 Bq_2 Bq_l
  have Br : B3 w8 (w7.heap.size) (.int .i64 g) (.int .i64 k) (.int .i64 (q : Int)) := B3.at ((Ext.refl _).trans f8) (by simp)
  have e8 : Ext w7 w8 := ((Ext.refl w7).alloc _).trans f8
  replace Ba := Ba.ext e8
  replace Bp := Bp.ext e8
  replace Bq := Bq.ext e8
  have E8 : Ext w w8 := E7.trans e8
  clear f8
  obtain ⟨Bq_0, Bq_1, Bq_2⟩ := id Bq
  have Bq_l := World.block_lt_of_cell? _ _ Bq_0
  go_wp2_with fail
  refine (HP2.out _ (T.out.ext (E8.trans (Ext.refl w8)))).mono ?_
  rintro _ w9 ⟨rfl, f9⟩
  clear Bq_0 Bq_1 Bq_2 Bq_l
  have e9 : Ext w8 w9 := (Ext.refl w8).trans f9
  replace Ba := Ba.ext e9
  replace Bp := Bp.ext e9
  replace Bq := Bq.ext e9
  replace Br := Br.ext e9
  have E9 : Ext w w9 := E8.trans e9
  clear f9
  obtain ⟨Br_0, Br_1, Br_2⟩ := id Br
  have Br_l := World.block_lt_of_cell? _ _ Br_0
  go_wp2_with fail
  refine (HP3.out _ (T.out.ext (E9.trans (Ext.refl w9)))).mono ?_
  rintro _ w10 ⟨rfl, f10⟩
  clear Br_0 Br_1 Br_2 Br_l
  have e10 : Ext w9 w10 := (Ext.refl w9).trans f10
  replace Ba := Ba.ext e10
  replace Bp := Bp.ext e10
  replace Bq := Bq.ext e10
  replace Br := Br.ext e10
  have E10 : Ext w w10 := E9.trans e10
  clear f10
  obtain ⟨Bp_0, Bp_1, Bp_2⟩ := id Bp
  have Bp_l := World.block_lt_of_cell? _ _ Bp_0
  go_wp2
  refine wp_region_held_drew (S := (fun w' => (w'.cell? ⟨w.heap.size, 0, none⟩ = some (.int .i64 K) ∧ w'.cell? ⟨w.heap.size, 1, none⟩ = some (.int .i64 (Q : Int))) ∧ (w'.cell? ⟨w3.heap.size, 0, none⟩ = some (.int .i64 e) ∧ w'.cell? ⟨w3.heap.size, 1, none⟩ = some (.int .i64 k) ∧ w'.cell? ⟨w3.heap.size, 2, none⟩ = some (.int .i64 (q : Int))) ∧ (w'.cell? ⟨w5.heap.size, 0, none⟩ = some (.int .i64 ea) ∧ w'.cell? ⟨w5.heap.size, 1, none⟩ = some (.int .i64 k) ∧ w'.cell? ⟨w5.heap.size, 2, none⟩ = some (.int .i64 (q : Int))) ∧ (w'.cell? ⟨w7.heap.size, 0, none⟩ = some (.int .i64 g) ∧ w'.cell? ⟨w7.heap.size, 1, none⟩ = some (.int .i64 k) ∧ w'.cell? ⟨w7.heap.size, 2, none⟩ = some (.int .i64 (q : Int))))) (by as_aux_lemma => kernel_rfl) ⟨b2 (Ba.ext (Ext.refl w10).drew), b3 (Bp.ext (Ext.refl w10).drew), b3 (Bq.ext (Ext.refl w10).drew), b3 (Br.ext (Ext.refl w10).drew)⟩ (fun hHeld => ?_)
  refine wpAnyH_take (i := 0) (v := ?_) rfl (by as_aux_lemma => kernel_rfl) (by as_aux_lemma => kernel_rfl) (by as_aux_lemma => kernel_rfl) (fun _ _ _ h => h) (Or.inl ⟨by rfl, ?_⟩) (by assumption) ?_
  rotate_left
  · (intro w hSw; (try dsimp only at hSw); go_simp); (try with_reducible rfl)
  simp only [List.getElem_toArray, List.getElem_cons_zero, Act.put, List.setIfInBounds_toArray, List.set_cons_zero, List.set_cons_succ]
  refine wpAnyH_take (i := 2) (v := ?_) rfl (by as_aux_lemma => kernel_rfl) (by as_aux_lemma => kernel_rfl) (by as_aux_lemma => kernel_rfl) (fun _ _ _ h => h) (Or.inl ⟨by rfl, ?_⟩) (by assumption) ?_
  rotate_left
  · (intro w hSw; (try dsimp only at hSw); go_simp); (try with_reducible rfl)
  simp only [List.getElem_toArray, List.getElem_cons_zero, List.getElem_cons_succ, Act.put, List.setIfInBounds_toArray, List.set_cons_zero, List.set_cons_succ]
  refine wpAnyH_take (i := 1) (v := ?_) rfl (by as_aux_lemma => kernel_rfl) (by as_aux_lemma => kernel_rfl) (by as_aux_lemma => kernel_rfl) (fun _ _ _ h => h) (Or.inl ⟨by rfl, ?_⟩) (by assumption) ?_
  rotate_left
  · (intro w hSw; (try dsimp only at hSw); go_simp); (try with_reducible rfl)
  simp only [List.getElem_toArray, List.getElem_cons_zero, List.getElem_cons_succ, Act.put, List.setIfInBounds_toArray, List.set_cons_zero, List.set_cons_succ]
  refine wpAnyH_take (i := 3) (v := ?_) rfl (by as_aux_lemma => kernel_rfl) (by as_aux_lemma => kernel_rfl) (by as_aux_lemma => kernel_rfl) (fun _ _ _ h => h) (Or.inl ⟨by rfl, ?_⟩) (by assumption) ?_
  rotate_left
  · (intro w hSw; (try dsimp only at hSw); go_simp); (try with_reducible rfl)
  simp only [List.getElem_toArray, List.getElem_cons_zero, List.getElem_cons_succ, Act.put, List.setIfInBounds_toArray, List.set_cons_zero, List.set_cons_succ]
  refine wpAnyH_take (i := 4) (v := ?_) rfl (by as_aux_lemma => kernel_rfl) (by as_aux_lemma => kernel_rfl) (by as_aux_lemma => kernel_rfl) (fun _ _ _ h => h) (Or.inl ⟨by rfl, ?_⟩) (by assumption) ?_
  rotate_left
  · (intro w hSw; (try dsimp only at hSw); go_simp); (try with_reducible rfl)
  simp only [List.getElem_toArray, List.getElem_cons_zero, List.getElem_cons_succ, Act.put, List.setIfInBounds_toArray, List.set_cons_zero, List.set_cons_succ]
  refine wpAnyH_take (i := 5) (v := ?_) rfl (by as_aux_lemma => kernel_rfl) (by as_aux_lemma => kernel_rfl) (by as_aux_lemma => kernel_rfl) (fun _ _ _ h => h) (Or.inl ⟨by rfl, ?_⟩) (by assumption) ?_
  rotate_left
  · (intro w hSw; (try dsimp only at hSw); go_simp); (try with_reducible rfl)
  simp only [List.getElem_toArray, List.getElem_cons_zero, List.getElem_cons_succ, Act.put, List.setIfInBounds_toArray, List.set_cons_zero, List.set_cons_succ]
  refine wpAnyH_take (i := 9) (v := ?_) rfl (by as_aux_lemma => kernel_rfl) (by as_aux_lemma => kernel_rfl) (by as_aux_lemma => kernel_rfl) (fun _ _ _ h => h) (Or.inl ⟨by rfl, ?_⟩) (by assumption) ?_
  rotate_left
  · (intro w hSw; (try dsimp only at hSw); go_simp); (try with_reducible rfl)
  simp only [List.getElem_toArray, List.getElem_cons_zero, List.getElem_cons_succ, Act.put, List.setIfInBounds_toArray, List.set_cons_zero, List.set_cons_succ]
  refine wpAnyH_take (i := 6) (v := ?_) rfl (by as_aux_lemma => kernel_rfl) (by as_aux_lemma => kernel_rfl) (by as_aux_lemma => kernel_rfl) (fun _ _ _ h => h) (Or.inl ⟨by rfl, ?_⟩) (by assumption) ?_
  rotate_left
  · (intro w hSw; (try dsimp only at hSw); go_simp); (try with_reducible rfl)
  simp only [List.getElem_toArray, List.getElem_cons_zero, List.getElem_cons_succ, Act.put, List.setIfInBounds_toArray, List.set_cons_zero, List.set_cons_succ]
  refine wpAnyH_take (i := 10) (v := ?_) rfl (by as_aux_lemma => kernel_rfl) (by as_aux_lemma => kernel_rfl) (by as_aux_lemma => kernel_rfl) (fun _ _ _ h => h) (Or.inl ⟨by rfl, ?_⟩) (by assumption) ?_
  rotate_left
  · (intro w hSw; (try dsimp only at hSw); go_simp); (try with_reducible rfl)
  simp only [List.getElem_toArray, List.getElem_cons_zero, List.getElem_cons_succ, Act.put, List.setIfInBounds_toArray, List.set_cons_zero, List.set_cons_succ]
  refine wpAnyH_take (i := 7) (v := ?_) rfl (by as_aux_lemma => kernel_rfl) (by as_aux_lemma => kernel_rfl) (by as_aux_lemma => kernel_rfl) (fun _ _ _ h => h) (Or.inl ⟨by rfl, ?_⟩) (by assumption) ?_
  rotate_left
  · (intro w hSw; (try dsimp only at hSw); go_simp); (try with_reducible rfl)
  simp only [List.getElem_toArray, List.getElem_cons_zero, List.getElem_cons_succ, Act.put, List.setIfInBounds_toArray, List.set_cons_zero, List.set_cons_succ]
  refine wpAnyH_take (i := 11) (v := ?_) rfl (by as_aux_lemma => kernel_rfl) (by as_aux_lemma => kernel_rfl) (by as_aux_lemma => kernel_rfl) (fun _ _ _ h => h) (Or.inl ⟨by rfl, ?_⟩) (by assumption) ?_
  rotate_left
  · (intro w hSw; (try dsimp only at hSw); go_simp); (try with_reducible rfl)
  simp only [List.getElem_toArray, List.getElem_cons_zero, List.getElem_cons_succ, Act.put, List.setIfInBounds_toArray, List.set_cons_zero, List.set_cons_succ]
  refine wpAnyH_take (i := 8) (v := ?_) rfl (by as_aux_lemma => kernel_rfl) (by as_aux_lemma => kernel_rfl) (by as_aux_lemma => kernel_rfl) (fun _ _ _ h => h) (Or.inl ⟨by rfl, ?_⟩) (by assumption) ?_
  rotate_left
  · (intro w hSw; (try dsimp only at hSw); go_simp); (try with_reducible rfl)
  simp only [List.getElem_toArray, List.getElem_cons_zero, List.getElem_cons_succ, Act.put, List.setIfInBounds_toArray, List.set_cons_zero, List.set_cons_succ]
  refine wpAnyH_take (i := 12) (v := ?_) rfl (by as_aux_lemma => kernel_rfl) (by as_aux_lemma => kernel_rfl) (by as_aux_lemma => kernel_rfl) (fun _ _ _ h => h) (Or.inl ⟨by rfl, ?_⟩) (by assumption) ?_
  rotate_left
  · (intro w hSw; (try dsimp only at hSw); go_simp); (try with_reducible rfl)
  simp only [List.getElem_toArray, List.getElem_cons_zero, List.getElem_cons_succ, Act.put, List.setIfInBounds_toArray, List.set_cons_zero, List.set_cons_succ]
  refine wpAnyH_take (i := 13) (v := ?_) rfl (by as_aux_lemma => kernel_rfl) (by as_aux_lemma => kernel_rfl) (by as_aux_lemma => kernel_rfl) (fun _ _ _ h => h) (Or.inl ⟨by rfl, ?_⟩) (by assumption) ?_
  rotate_left
  · (intro w hSw; (try dsimp only at hSw); go_simp); (try with_reducible rfl)
  simp only [List.getElem_toArray, List.getElem_cons_zero, List.getElem_cons_succ, Act.put, List.setIfInBounds_toArray, List.set_cons_zero, List.set_cons_succ]
  refine wpAnyH_take (i := 14) (v := ?_) rfl (by as_aux_lemma => kernel_rfl) (by as_aux_lemma => kernel_rfl) (by as_aux_lemma => kernel_rfl) (fun _ _ _ h => h) (Or.inl ⟨by rfl, ?_⟩) (by assumption) ?_
  rotate_left
  · (intro w hSw; (try dsimp only at hSw); go_simp); (try with_reducible rfl)
  simp only [List.getElem_toArray, List.getElem_cons_zero, List.getElem_cons_succ, Act.put, List.setIfInBounds_toArray, List.set_cons_zero, List.set_cons_succ]
  refine wpAnyH_done (by as_aux_lemma => kernel_rfl) ?_ _
  clear Bp_0 Bp_1 Bp_2 Bp_l
  have Fa0 : Ext w10 w10.drew := (Ext.refl w10).drew
  replace Ba := Ba.ext Fa0
  replace Bp := Bp.ext Fa0
  replace Bq := Bq.ext Fa0
  replace Br := Br.ext Fa0
  have Ea := E10.trans Fa0
  clear Fa0 hHeld
  generalize w10.drew = Va at *
  go_wp2
  go_ret
  exact ⟨rfl, Ea⟩
theorem walk_TurnPlace (w : World) (T : Tu w) (K Q : Int) (hK : -9223372036854775808 ≤ K ∧ K ≤ 9223372036854775807) (hQ : -9223372036854775808 ≤ Q ∧ Q ≤ 9223372036854775807) : Calls Tryd.prog 8 #[.agg #[.int .i64 K, .int .i64 Q]] w (RetE w (.bool true)) := by
  cases hr : rightT K Q
  · exact place_no w T K Q hK hQ hr
  · obtain ⟨h1, h2⟩ := rightT_iff.1 hr
    obtain ⟨n, rfl⟩ : ∃ n : Nat, Q = (n : Int) := ⟨Q.toNat, by omega⟩
    by_cases hz : rest (tv K n) = 0
    · exact place_z w T K n h2 (by omega) hz
    · by_cases hy : rest (tv K n) = 137438953472
      · exact place_e w T K n h2 (by omega) hy
      · exact place_p w T K n h2 (by omega) ⟨hz, hy⟩
end Go.Proofs.YtncopdgonbgaaaaDoor
