/- Walks of package turn: measures and its closures. -/
import Derived.Test.YtncopdgonbgaaaaDoorTC
import Derived.Laws.StructEq
namespace Go.Proofs.YtncopdgonbgaaaaDoor
open Go.RowKit
set_option linter.unusedVariables false
set_option maxRecDepth 4000 in
set_option maxHeartbeats 1000000 in
theorem tmeas1_any (w : World) (T : Tb w) (g : Nat) (vq kq K k : Int) (qq Q q : Nat) (B : B2 w g (.int .i64 kq) (.int .i64 (qq : Int))) (hq : Fm vq kq qq) (hK : -1099511627776 ≤ K ∧ K ≤ 1099511627776) (hQ : Q ≤ 40) (h : Fm ((vq - tv K Q) % 1099511627776) k q) :
    Calls Tryd.prog 29 #[.agg #[.int .i64 K, .int .i64 Q], .pointer (some ⟨g, 0, none⟩)] w (RetE w (.agg #[.int .i64 k, .int .i64 q])) := by
  have hlq := hq.low
  have hle := p2_le hlq.2.2.1
  rw [p2_40] at hle
  have hgl := World.block_lt_of_cell? _ _ B.c0
  obtain ⟨kf, qf, hf⟩ : ∃ k q, Fm ((-tv K Q) % 1099511627776) k q := fm_there (by omega) (by omega)
  have hlf := hf.low
  have hlf2 := p2_le hlf.2.2.1
  rw [p2_40] at hlf2
  have HF := Lib.hid (fun w' T' => tflip_any w' T' K kf Q qf hK hQ hf)
  have HA := Lib.hid (fun w' T' => tadd_any w' T' kq kf k qq qf q (by omega) (by omega) hlq.2.2.1 hlf.2.2.1 (by rw [hq.tv, hf.tv, show (vq + -tv K Q % 1099511627776) % 1099511627776 = (vq - tv K Q) % 1099511627776 by omega]; exact h))
  clear hf hlf hlf2
  have hgl' : g < w.heap.size := hgl
  clear hq hlq hle h hK hQ hgl
  replace T := Lib.hid T
  go_enter Tryd.func29, Tryd.ntmps29
  go_upto_region 1 with fail
  generalize hW : ((w.alloc (.cells #[.int .i64 K, .int .i64 (Q : Int)] 23)).alloc (.cells #[.int .i64 0, .int .i64 0] 23)) = W0
  have B_n : B2 W0 (g) (.int .i64 kq) (.int .i64 (qq : Int)) := by rw [← hW]; exact ((B.ext ((Ext.refl _).alloc _)).ext ((Ext.refl _).alloc _))
  have Bt_n : B2 W0 (w.heap.size) (.int .i64 K) (.int .i64 (Q : Int)) := by rw [← hW]; exact ((B2.fresh (by simp)).ext ((Ext.refl _).alloc _))
  have Z_n : Z2 W0 (w.heap.size + 1) := by rw [← hW]; exact (Z2.fresh (by simp))
  have E_n : Ext w W0 := by rw [← hW]; exact (((Ext.refl w).alloc _).alloc _)
  clear hW B
  have B := B_n
  clear B_n
  have Bt := Bt_n
  clear Bt_n
  have Z := Z_n
  clear Z_n
  have E := E_n
  clear E_n
  refine wp_region_held_drew (S := (fun w' => (w'.cell? ⟨w.heap.size, 0, none⟩ = some (.int .i64 K) ∧ w'.cell? ⟨w.heap.size, 1, none⟩ = some (.int .i64 (Q : Int))) ∧ (w'.cell? ⟨g, 0, none⟩ = some (.int .i64 kq) ∧ w'.cell? ⟨g, 1, none⟩ = some (.int .i64 (qq : Int))))) (by as_aux_lemma => kernel_rfl) ⟨b2 (Bt.ext (Ext.refl W0).drew), b2 (B.ext (Ext.refl W0).drew)⟩ (fun hHeld => ?_)
  refine wpAnyH_take (i := 0) (v := ?_) rfl (by as_aux_lemma => kernel_rfl) (by as_aux_lemma => kernel_rfl) (by as_aux_lemma => kernel_rfl) (fun _ _ _ h => h) (Or.inl ⟨by rfl, ?_⟩) (by assumption) ?_
  rotate_left
  · (intro w hSw; (try dsimp only at hSw); go_simp); (try with_reducible rfl)
  simp only [List.getElem_toArray, List.getElem_cons_zero, Act.put, List.setIfInBounds_toArray, List.set_cons_zero, List.set_cons_succ]
  refine wpAnyH_take (i := 1) (v := ?_) rfl (by as_aux_lemma => kernel_rfl) (by as_aux_lemma => kernel_rfl) (by as_aux_lemma => kernel_rfl) (fun _ _ _ h => h) (Or.inl ⟨by rfl, ?_⟩) (by assumption) ?_
  rotate_left
  · (intro w hSw; (try dsimp only at hSw); go_simp); (try with_reducible rfl)
  simp only [List.getElem_toArray, List.getElem_cons_zero, List.getElem_cons_succ, Act.put, List.setIfInBounds_toArray, List.set_cons_zero, List.set_cons_succ]
  refine wpAnyH_ready (rs := [2]) (by as_aux_lemma => kernel_rfl) (by simp) ?_
  refine AllReadyH.cons rfl (fun K hK => ?_) AllReadyH.nil
  go_simp
  refine (HF.out _ (T.out.ext (E.trans (Ext.refl W0).drew))).mono ?_
  rintro _ u1 ⟨rfl, eu1⟩
  have Fu1 : Ext W0 u1 := (Ext.refl W0).drew.trans eu1
  refine hK.out _ _ ⟨b2 (Bt.ext Fu1), b2 (B.ext Fu1)⟩ (fun hHeld => ?_)
  clear hK K eu1
  refine wpAnyH_ready (rs := [3]) (by as_aux_lemma => kernel_rfl) (by simp) ?_
  refine AllReadyH.cons rfl (fun K hK => ?_) AllReadyH.nil
  go_simp
  refine (HA.out _ (T.out.ext (E.trans Fu1))).mono ?_
  rintro _ u2 ⟨rfl, eu2⟩
  have Fu2 : Ext W0 u2 := Fu1.trans eu2
  refine hK.out _ _ ⟨b2 (Bt.ext Fu2), b2 (B.ext Fu2)⟩ (fun hHeld => ?_)
  clear hK K eu2 Fu1
  have Zr := Z.ext Fu2
  have Zr_c0 := Zr.c0
  have Zr_c1 := Zr.c1
  have Zr_f0 := Zr.f 0
  have Zr_f1 := Zr.f 1
  refine wpAnyH_ready (rs := [4]) (by as_aux_lemma => kernel_rfl) (by simp) ?_
  refine AllReadyH.cons rfl (fun K hK => ?_) AllReadyH.nil
  go_simp
  refine hK.out _ _ ⟨b2 (B2.off (Bt.ext Fu2) (show (w.heap.size : Nat) ≠ w.heap.size + 1 by omega)), b2 (B2.off (B.ext Fu2) (show (g : Nat) ≠ w.heap.size + 1 by omega))⟩ (fun hHeld => ?_)
  clear hK K
  refine wpAnyH_done (by as_aux_lemma => kernel_rfl) ?_ _
  go_wp2
  obtain ⟨k0, k1, hD⟩ := Zr.done (E.trans Fu2) (by omega)
  exact bodyPost_ret (by simp [results, Tryd.results29, go_sem, k0, k1]) rfl ⟨rfl, hD⟩
set_option maxRecDepth 4000 in
set_option maxHeartbeats 1000000 in
theorem tmeas2_any (w : World) (T : Tb w) (g : Nat) (vq kq K k : Int) (qq Q q : Nat) (B : B2 w g (.int .i64 kq) (.int .i64 (qq : Int))) (hq : Fm vq kq qq) (hK : -1099511627776 ≤ K ∧ K ≤ 1099511627776) (hQ : Q ≤ 40) (h : Fm ((tv K Q - vq) % 1099511627776) k q) :
    Calls Tryd.prog 30 #[.agg #[.int .i64 K, .int .i64 Q], .pointer (some ⟨g, 0, none⟩)] w (RetE w (.agg #[.int .i64 k, .int .i64 q])) := by
  have hlq := hq.low
  have hle := p2_le hlq.2.2.1
  rw [p2_40] at hle
  have hgl := World.block_lt_of_cell? _ _ B.c0
  have hvq := hq.tv
  obtain ⟨kf, qf, hf⟩ : ∃ k q, Fm ((-tv kq qq) % 1099511627776) k q := fm_there (by omega) (by omega)
  have hlf := hf.low
  have hlf2 := p2_le hlf.2.2.1
  rw [p2_40] at hlf2
  have HF := Lib.hid (fun w' T' => tflip_any w' T' kq kf qq qf (by omega) hlq.2.2.1 hf)
  have HA := Lib.hid (fun w' T' => tadd_any w' T' K kf k Q qf q (by omega) (by omega) hQ hlf.2.2.1 (by rw [hf.tv, hvq, show (tv K Q + -vq % 1099511627776) % 1099511627776 = (tv K Q - vq) % 1099511627776 by omega]; exact h))
  clear hf hlf hlf2 hvq
  have hgl' : g < w.heap.size := hgl
  clear hq hlq hle h hK hQ hgl
  replace T := Lib.hid T
  go_enter Tryd.func30, Tryd.ntmps30
  go_upto_region 1 with fail
  generalize hW : ((w.alloc (.cells #[.int .i64 K, .int .i64 (Q : Int)] 23)).alloc (.cells #[.int .i64 0, .int .i64 0] 23)) = W0
  have B_n : B2 W0 (g) (.int .i64 kq) (.int .i64 (qq : Int)) := by rw [← hW]; exact ((B.ext ((Ext.refl _).alloc _)).ext ((Ext.refl _).alloc _))
  have Bt_n : B2 W0 (w.heap.size) (.int .i64 K) (.int .i64 (Q : Int)) := by rw [← hW]; exact ((B2.fresh (by simp)).ext ((Ext.refl _).alloc _))
  have Z_n : Z2 W0 (w.heap.size + 1) := by rw [← hW]; exact (Z2.fresh (by simp))
  have E_n : Ext w W0 := by rw [← hW]; exact (((Ext.refl w).alloc _).alloc _)
  clear hW B
  have B := B_n
  clear B_n
  have Bt := Bt_n
  clear Bt_n
  have Z := Z_n
  clear Z_n
  have E := E_n
  clear E_n
  refine wp_region_held_drew (S := (fun w' => (w'.cell? ⟨w.heap.size, 0, none⟩ = some (.int .i64 K) ∧ w'.cell? ⟨w.heap.size, 1, none⟩ = some (.int .i64 (Q : Int))) ∧ (w'.cell? ⟨g, 0, none⟩ = some (.int .i64 kq) ∧ w'.cell? ⟨g, 1, none⟩ = some (.int .i64 (qq : Int))))) (by as_aux_lemma => kernel_rfl) ⟨b2 (Bt.ext (Ext.refl W0).drew), b2 (B.ext (Ext.refl W0).drew)⟩ (fun hHeld => ?_)
  refine wpAnyH_take (i := 0) (v := ?_) rfl (by as_aux_lemma => kernel_rfl) (by as_aux_lemma => kernel_rfl) (by as_aux_lemma => kernel_rfl) (fun _ _ _ h => h) (Or.inl ⟨by rfl, ?_⟩) (by assumption) ?_
  rotate_left
  · (intro w hSw; (try dsimp only at hSw); go_simp); (try with_reducible rfl)
  simp only [List.getElem_toArray, List.getElem_cons_zero, Act.put, List.setIfInBounds_toArray, List.set_cons_zero, List.set_cons_succ]
  refine wpAnyH_take (i := 1) (v := ?_) rfl (by as_aux_lemma => kernel_rfl) (by as_aux_lemma => kernel_rfl) (by as_aux_lemma => kernel_rfl) (fun _ _ _ h => h) (Or.inl ⟨by rfl, ?_⟩) (by assumption) ?_
  rotate_left
  · (intro w hSw; (try dsimp only at hSw); go_simp); (try with_reducible rfl)
  simp only [List.getElem_toArray, List.getElem_cons_zero, List.getElem_cons_succ, Act.put, List.setIfInBounds_toArray, List.set_cons_zero, List.set_cons_succ]
  refine wpAnyH_ready (rs := [2]) (by as_aux_lemma => kernel_rfl) (by simp) ?_
  refine AllReadyH.cons rfl (fun K hK => ?_) AllReadyH.nil
  go_simp
  refine (HF.out _ (T.out.ext (E.trans (Ext.refl W0).drew))).mono ?_
  rintro _ u1 ⟨rfl, eu1⟩
  have Fu1 : Ext W0 u1 := (Ext.refl W0).drew.trans eu1
  refine hK.out _ _ ⟨b2 (Bt.ext Fu1), b2 (B.ext Fu1)⟩ (fun hHeld => ?_)
  clear hK K eu1
  refine wpAnyH_ready (rs := [3]) (by as_aux_lemma => kernel_rfl) (by simp) ?_
  refine AllReadyH.cons rfl (fun K hK => ?_) AllReadyH.nil
  go_simp
  refine (HA.out _ (T.out.ext (E.trans Fu1))).mono ?_
  rintro _ u2 ⟨rfl, eu2⟩
  have Fu2 : Ext W0 u2 := Fu1.trans eu2
  refine hK.out _ _ ⟨b2 (Bt.ext Fu2), b2 (B.ext Fu2)⟩ (fun hHeld => ?_)
  clear hK K eu2 Fu1
  have Zr := Z.ext Fu2
  have Zr_c0 := Zr.c0
  have Zr_c1 := Zr.c1
  have Zr_f0 := Zr.f 0
  have Zr_f1 := Zr.f 1
  refine wpAnyH_ready (rs := [4]) (by as_aux_lemma => kernel_rfl) (by simp) ?_
  refine AllReadyH.cons rfl (fun K hK => ?_) AllReadyH.nil
  go_simp
  refine hK.out _ _ ⟨b2 (B2.off (Bt.ext Fu2) (show (w.heap.size : Nat) ≠ w.heap.size + 1 by omega)), b2 (B2.off (B.ext Fu2) (show (g : Nat) ≠ w.heap.size + 1 by omega))⟩ (fun hHeld => ?_)
  clear hK K
  refine wpAnyH_done (by as_aux_lemma => kernel_rfl) ?_ _
  go_wp2
  obtain ⟨k0, k1, hD⟩ := Zr.done (E.trans Fu2) (by omega)
  exact bodyPost_ret (by simp [results, Tryd.results30, go_sem, k0, k1]) rfl ⟨rfl, hD⟩
set_option maxRecDepth 4000 in
set_option maxHeartbeats 1000000 in
theorem tmeas3_any (w : World) (T : Tb w) (g : Nat) (vq kq K k : Int) (qq Q q : Nat) (B : B2 w g (.int .i64 kq) (.int .i64 (qq : Int))) (hq : Fm vq kq qq) (hK : -1099511627776 ≤ K ∧ K ≤ 1099511627776) (hQ : Q ≤ 40) (h : Fm ((tv K Q + vq) % 1099511627776) k q) :
    Calls Tryd.prog 31 #[.agg #[.int .i64 K, .int .i64 Q], .pointer (some ⟨g, 0, none⟩)] w (RetE w (.agg #[.int .i64 k, .int .i64 q])) := by
  have hlq := hq.low
  have hle := p2_le hlq.2.2.1
  rw [p2_40] at hle
  have hgl := World.block_lt_of_cell? _ _ B.c0
  have HA := Lib.hid (fun w' T' => tadd_any w' T' K kq k Q qq q (by omega) (by omega) hQ hlq.2.2.1 (by rw [hq.tv]; exact h))
  have hgl' : g < w.heap.size := hgl
  clear hq hlq hle h hK hQ hgl
  replace T := Lib.hid T
  go_enter Tryd.func31, Tryd.ntmps31
  obtain ⟨B_0, B_1⟩ := id B
  have B_l := World.block_lt_of_cell? _ _ B_0
  go_wp2_with fail
  refine (HA.out _ (T.out.ext (((Ext.refl w).alloc _).alloc _))).mono ?_
  rintro _ w1 ⟨rfl, f1⟩
  clear B_0 B_1 B_l
  have B_n : B2 w1 (g) (.int .i64 kq) (.int .i64 (qq : Int)) := ((B.ext ((Ext.refl _).alloc _)).ext ((Ext.refl _).alloc _)).ext f1
  have Bt_n : B2 w1 (w.heap.size) (.int .i64 K) (.int .i64 (Q : Int)) := ((B2.fresh (by simp)).ext ((Ext.refl _).alloc _)).ext f1
  have Z_n : Z2 w1 (w.heap.size + 1) := (Z2.fresh (by simp)).ext f1
  have E_n : Ext w w1 := (((Ext.refl w).alloc _).alloc _).trans f1
  clear f1 B
  have B := B_n
  clear B_n
  have Bt := Bt_n
  clear Bt_n
  have Z := Z_n
  clear Z_n
  have E := E_n
  clear E_n
  have Z_c0 := Z.c0
  have Z_f0 := Z.f 0
  have Z_c1 := Z.c1
  have Z_f1 := Z.f 1
  have Z_l := World.block_lt_of_cell? _ _ Z_c0
  go_wp2
  obtain ⟨k0, k1, hD⟩ := Z.done E (by omega)
  exact bodyPost_ret (by simp [results, Tryd.results31, go_sem, k0, k1]) rfl ⟨rfl, hD⟩
/-- It returned the two closures over a quarter. -/
def RetM (w : World) (F G : Nat) (k : Int) (q : Nat) (e : Ending) (w' : World) : Prop :=
  ∃ g, e = .returned (.tuple #[.func (.func F) #[] #[.pointer (some ⟨g, 0, none⟩)], .func (.func G) #[] #[.pointer (some ⟨g, 0, none⟩)]]) ∧ B2 w' g (.int .i64 k) (.int .i64 (q : Int)) ∧ Ext w w'
set_option maxRecDepth 4000 in
set_option maxHeartbeats 1000000 in
theorem tmeas_odd (w : World) (T : Tb w) (e kq : Int) (qq : Nat) (he : 0 ≤ e ∧ e ≤ 7) (hp : e % 2 = 1) (h : Fm (tv ((e + 1) / 2) 2) kq qq) :
    Calls Tryd.prog 25 #[.int .i64 e] w (RetM w 29 29 kq qq) := by
  have hw1 : wrap64 (e + 1) = e + 1 := by unfold wrap64; omega
  have hw1' : IntKind.i64.wrap (e + 1) = e + 1 := IntWalk.i64_in _ (by omega)
  have hd : (e + 1).tdiv 2 = (e + 1) / 2 := Int.tdiv_eq_ediv_of_nonneg (by omega)
  have hw2 : wrap64 ((e + 1) / 2) = (e + 1) / 2 := by unfold wrap64; omega
  have ht : e.tmod 2 = 1 := by rw [Int.tmod_eq_emod_of_nonneg he.1]; exact hp
  have HC := Lib.hid (fun w' T' => treduced_any w' T' ((e + 1) / 2) kq 2 qq (by omega) (by omega) h)
  have hmf : ∀ (fn : Fn) (first cap : Array Value) (w : World), (Instr.makeFunc fn first cap).run Tryd.prog w = .ok (.func fn first cap) w := fun _ _ _ _ => rfl
  clear hp h he
  replace T := Lib.hid T
  go_enter Tryd.func25, Tryd.ntmps25
  go_wp2_with fail
  refine (HC.out _ (T.out.ext (Ext.refl w))).mono ?_
  rintro _ w1 ⟨rfl, f1⟩
  have E_n : Ext w w1 := (Ext.refl w).trans f1
  clear f1
  have E := E_n
  clear E_n
  go_wp2
  exact bodyPost_ret (by simp [results, Tryd.results25, go_sem]) rfl ⟨_, rfl, B2.fresh rfl, E.alloc _⟩
set_option maxRecDepth 4000 in
set_option maxHeartbeats 1000000 in
theorem tmeas_even (w : World) (T : Tb w) (e kq : Int) (qq : Nat) (he : 0 ≤ e ∧ e ≤ 7) (hp : e % 2 = 0) (h : Fm (tv ((e + 1) / 2) 2) kq qq) :
    Calls Tryd.prog 25 #[.int .i64 e] w (RetM w 30 31 kq qq) := by
  have hw1 : wrap64 (e + 1) = e + 1 := by unfold wrap64; omega
  have hw1' : IntKind.i64.wrap (e + 1) = e + 1 := IntWalk.i64_in _ (by omega)
  have hd : (e + 1).tdiv 2 = (e + 1) / 2 := Int.tdiv_eq_ediv_of_nonneg (by omega)
  have hw2 : wrap64 ((e + 1) / 2) = (e + 1) / 2 := by unfold wrap64; omega
  have ht : e.tmod 2 = 0 := by rw [Int.tmod_eq_emod_of_nonneg he.1]; exact hp
  have HC := Lib.hid (fun w' T' => treduced_any w' T' ((e + 1) / 2) kq 2 qq (by omega) (by omega) h)
  have hmf : ∀ (fn : Fn) (first cap : Array Value) (w : World), (Instr.makeFunc fn first cap).run Tryd.prog w = .ok (.func fn first cap) w := fun _ _ _ _ => rfl
  clear hp h he
  replace T := Lib.hid T
  go_enter Tryd.func25, Tryd.ntmps25
  go_wp2_with fail
  refine (HC.out _ (T.out.ext (Ext.refl w))).mono ?_
  rintro _ w1 ⟨rfl, f1⟩
  have E_n : Ext w w1 := (Ext.refl w).trans f1
  clear f1
  have E := E_n
  clear E_n
  go_wp2
  exact bodyPost_ret (by simp [results, Tryd.results25, go_sem]) rfl ⟨_, rfl, B2.fresh rfl, E.alloc _⟩
end Go.Proofs.YtncopdgonbgaaaaDoor
