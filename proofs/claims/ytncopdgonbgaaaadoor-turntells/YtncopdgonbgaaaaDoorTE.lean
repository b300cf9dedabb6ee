/- Walks of package turn: Split, Join, Place. -/
import Derived.Test.YtncopdgonbgaaaaDoorTD
import Derived.Laws.StructEq
namespace Go.Proofs.YtncopdgonbgaaaaDoor
open Go.RowKit
set_option linter.unusedVariables false
theorem B3.fresh {w : World} {x y z : Value} {t : TypeId} {g : Nat} (hg : w.heap.size = g) : B3 (w.alloc (.cells #[x, y, z] t)) g x y z := B3.at (Ext.refl _) hg
theorem Z3.fresh {w : World} {t : TypeId} {g : Nat} (hg : w.heap.size = g) : Z3 (w.alloc (.cells #[.int .i64 0, .int .i64 0, .int .i64 0] t)) g := Z3.at (Ext.refl _) hg
theorem Z3.off {w : World} {g g' : Nat} {a b : Value} (h : Z3 w g) (hg : g ≠ g') : Z3 ((w.setCell ⟨g', 0, none⟩ a).setCell ⟨g', 1, none⟩ b) g := by
  have o : ∀ j, ((w.setCell ⟨g', 0, none⟩ a).setCell ⟨g', 1, none⟩ b).cell? ⟨g, j, none⟩ = w.cell? ⟨g, j, none⟩ := fun j => by
    rw [World.cell?_setCell_other _ _ _ _ (fun e => hg (by injection e with e; exact e.symm)), World.cell?_setCell_other _ _ _ _ (fun e => hg (by injection e with e; exact e.symm))]
  exact ⟨(o 0).trans h.c0, (o 1).trans h.c1, (o 2).trans h.c2, fun j => by simp only [World.frozen?_setCell]; exact h.f j⟩
theorem call1 : ∀ (x : Array Value) (W : World), (callFunc 29 x).run Tryd.prog W = .ok (.enter 29 x) W := fun _ _ => by kernel_rfl
theorem call2 : ∀ (x : Array Value) (W : World), (callFunc 30 x).run Tryd.prog W = .ok (.enter 30 x) W := fun _ _ => by kernel_rfl
theorem call3 : ∀ (x : Array Value) (W : World), (callFunc 31 x).run Tryd.prog W = .ok (.enter 31 x) W := fun _ _ => by kernel_rfl
theorem eighth_form {v k : Int} {q : Nat} (h : Fm v k q) : 8 * k / 2 ^ q = eighth v := by
  obtain ⟨h1, h2, h3, h4⟩ := h.low
  have hs := p2_split h3
  unfold eighth
  have e : 8 * k / 2 ^ q = 8 * k * 2 ^ (40 - q) / (2 ^ q * 2 ^ (40 - q)) := (Int.mul_ediv_mul_of_pos_left _ _ (p2_pos _)).symm
  rw [e, hs, Int.mul_assoc, ← h4]
  omega
set_option maxRecDepth 4000 in
set_option maxHeartbeats 1000000 in
theorem tsplit_odd (w : World) (T : Tb w) (K k e : Int) (Q q : Nat) (hK : -1099511627776 ≤ K ∧ K ≤ 1099511627776) (hQ : Q ≤ 40) (he : eighth (tv K Q) = e) (hp : e % 2 = 1) (h : Fm (rest (tv K Q)) k q) :
    Calls Tryd.prog 14 #[.agg #[.int .i64 K, .int .i64 Q]] w (RetE w (.agg #[.int .i64 e, .int .i64 k, .int .i64 q])) := by
  obtain ⟨v0, v1⟩ := tv_range K Q
  obtain ⟨q0, q1, q2, q3⟩ := rest_range v0 v1
  obtain ⟨kf, qf, hf⟩ := fm_there v0 v1
  obtain ⟨kq, qq, hq⟩ := fm_there (tv_range ((e + 1) / 2) 2).1 (tv_range ((e + 1) / 2) 2).2
  have hvq : tv ((e + 1) / 2) 2 = (e + 1) / 2 * 274877906944 % 1099511627776 := rfl
  have hlf := hf.low
  have hl := p2_le hlf.2.2.1
  rw [p2_40] at hl
  have h8 := eighth_form hf
  have hrest : rest (tv K Q) = (e + 1) * 137438953472 - tv K Q := by unfold rest; rw [he]; exact if_neg (by omega)
  have HF := Lib.hid (fun w' T' => tform_any w' T' K kf Q qf hK hQ hf)
  rw [he] at q0 q1
  have hve := he
  unfold eighth at hve
  have HM := Lib.hid (fun w' T' => tmeas_odd w' T' e kq qq ⟨q0, q1⟩ hp hq)
  have HC := Lib.hid (fun w' T' g B => tmeas1_any w' T' g _ kq kf k qq qf q B hq (by omega) hlf.2.2.1 (by rw [hf.tv, hvq, show ((e + 1) / 2 * 274877906944 % 1099511627776 - tv K Q) % 1099511627776 = rest (tv K Q) by rw [hrest]; omega]; exact h))
  have hw8 : IntKind.i64.wrap (8 * kf) = 8 * kf := IntWalk.i64_in _ (by omega)
  have hw8' : wrap64 (8 * kf) = 8 * kf := by unfold wrap64; omega
  rw [he] at h8
  have hqf : (qf : Int) ≤ 40 := by omega
  have hwe : wrap64 e = e := by unfold wrap64; omega
  have hcall1 := call1
  have hcall2 := call2
  clear v0 v1 q0 q1 q2 q3 hf hq hvq hlf hl hrest hve hp h he hK hQ
  replace T := Lib.hid T
  go_enter Tryd.func14, Tryd.ntmps14
  go_wp2_with fail
  refine (HF.out _ (T.out.ext (((Ext.refl w).alloc _).alloc _))).mono ?_
  rintro _ w1 ⟨rfl, f1⟩
  have B_n : M2 w1 (w.heap.size) (.int .i64 K) (.int .i64 (Q : Int)) := ((M2.fresh (by simp)).ext ((Ext.refl _).alloc _)).ext f1
  have Z_n : Z3 w1 (w.heap.size + 1) := (Z3.fresh (by simp)).ext f1
  have E_n : Ext w w1 := (((Ext.refl w).alloc _).alloc _).trans f1
  clear f1
  have B := B_n
  clear B_n
  have Z := Z_n
  clear Z_n
  have E := E_n
  clear E_n
  obtain ⟨B_0, B_1, B_f⟩ := id B
  have B_f0 := B_f 0
  have B_f1 := B_f 1
  clear B_f
  have B_l := World.block_lt_of_cell? _ _ B_0
  go_wp2_with fail
  refine (HM.out _ (T.out.ext ((E.setCell (show w.heap.size ≤ w.heap.size by omega) _).setCell (show w.heap.size ≤ w.heap.size by omega) _))).mono ?_
  rintro _ w2 ⟨g, rfl, Bg, f2⟩
  clear B_0 B_1 B_f0 B_f1 B_l
  have B_n : M2 w2 (w.heap.size) (.int .i64 kf) (.int .i64 (qf : Int)) := (B.store).ext f2
  have Z_n : Z3 w2 (w.heap.size + 1) := (Z.off (show (w.heap.size + 1 : Nat) ≠ w.heap.size by omega)).ext f2
  have E_n : Ext w w2 := ((E.setCell (show w.heap.size ≤ w.heap.size by omega) _).setCell (show w.heap.size ≤ w.heap.size by omega) _).trans f2
  clear f2 B Z E
  have B := B_n
  clear B_n
  have Z := Z_n
  clear Z_n
  have E := E_n
  clear E_n
  obtain ⟨B_0, B_1, B_f⟩ := id B
  have B_f0 := B_f 0
  have B_f1 := B_f 1
  clear B_f
  have B_l := World.block_lt_of_cell? _ _ B_0
  go_wp2_with fail
  refine (HC.out _ (T.out.ext E) g Bg).mono ?_
  rintro _ w3 ⟨rfl, f3⟩
  clear B_0 B_1 B_f0 B_f1 B_l
  have B_n : M2 w3 (w.heap.size) (.int .i64 kf) (.int .i64 (qf : Int)) := B.ext f3
  have Z_n : Z3 w3 (w.heap.size + 1) := Z.ext f3
  have Bg_n : B2 w3 (g) (.int .i64 kq) (.int .i64 (qq : Int)) := Bg.ext f3
  have E_n : Ext w w3 := E.trans f3
  clear f3 B Z Bg E
  have B := B_n
  clear B_n
  have Z := Z_n
  clear Z_n
  have Bg := Bg_n
  clear Bg_n
  have E := E_n
  clear E_n
  have Z_c0 := Z.c0
  have Z_f0 := Z.f 0
  have Z_c1 := Z.c1
  have Z_f1 := Z.f 1
  have Z_c2 := Z.c2
  have Z_f2 := Z.f 2
  have Z_l := World.block_lt_of_cell? _ _ Z_c0
  go_wp2
  obtain ⟨k0, k1, k2, hD⟩ := Z.done E (by omega)
  exact bodyPost_ret (by simp [results, Tryd.results14, go_sem, k0, k1, k2]) rfl ⟨rfl, hD⟩
set_option maxRecDepth 4000 in
set_option maxHeartbeats 1000000 in
theorem tsplit_even (w : World) (T : Tb w) (K k e : Int) (Q q : Nat) (hK : -1099511627776 ≤ K ∧ K ≤ 1099511627776) (hQ : Q ≤ 40) (he : eighth (tv K Q) = e) (hp : e % 2 = 0) (h : Fm (rest (tv K Q)) k q) :
    Calls Tryd.prog 14 #[.agg #[.int .i64 K, .int .i64 Q]] w (RetE w (.agg #[.int .i64 e, .int .i64 k, .int .i64 q])) := by
  obtain ⟨v0, v1⟩ := tv_range K Q
  obtain ⟨q0, q1, q2, q3⟩ := rest_range v0 v1
  obtain ⟨kf, qf, hf⟩ := fm_there v0 v1
  obtain ⟨kq, qq, hq⟩ := fm_there (tv_range ((e + 1) / 2) 2).1 (tv_range ((e + 1) / 2) 2).2
  have hvq : tv ((e + 1) / 2) 2 = (e + 1) / 2 * 274877906944 % 1099511627776 := rfl
  have hlf := hf.low
  have hl := p2_le hlf.2.2.1
  rw [p2_40] at hl
  have h8 := eighth_form hf
  have hrest : rest (tv K Q) = tv K Q - e * 137438953472 := by unfold rest; rw [he]; exact if_pos hp
  have HF := Lib.hid (fun w' T' => tform_any w' T' K kf Q qf hK hQ hf)
  rw [he] at q0 q1
  have hve := he
  unfold eighth at hve
  have HM := Lib.hid (fun w' T' => tmeas_even w' T' e kq qq ⟨q0, q1⟩ hp hq)
  have HC := Lib.hid (fun w' T' g B => tmeas2_any w' T' g _ kq kf k qq qf q B hq (by omega) hlf.2.2.1 (by rw [hf.tv, hvq, show (tv K Q - (e + 1) / 2 * 274877906944 % 1099511627776) % 1099511627776 = rest (tv K Q) by rw [hrest]; omega]; exact h))
  have hw8 : IntKind.i64.wrap (8 * kf) = 8 * kf := IntWalk.i64_in _ (by omega)
  have hw8' : wrap64 (8 * kf) = 8 * kf := by unfold wrap64; omega
  rw [he] at h8
  have hqf : (qf : Int) ≤ 40 := by omega
  have hwe : wrap64 e = e := by unfold wrap64; omega
  have hcall1 := call1
  have hcall2 := call2
  clear v0 v1 q0 q1 q2 q3 hf hq hvq hlf hl hrest hve hp h he hK hQ
  replace T := Lib.hid T
  go_enter Tryd.func14, Tryd.ntmps14
  go_wp2_with fail
  refine (HF.out _ (T.out.ext (((Ext.refl w).alloc _).alloc _))).mono ?_
  rintro _ w1 ⟨rfl, f1⟩
  have B_n : M2 w1 (w.heap.size) (.int .i64 K) (.int .i64 (Q : Int)) := ((M2.fresh (by simp)).ext ((Ext.refl _).alloc _)).ext f1
  have Z_n : Z3 w1 (w.heap.size + 1) := (Z3.fresh (by simp)).ext f1
  have E_n : Ext w w1 := (((Ext.refl w).alloc _).alloc _).trans f1
  clear f1
  have B := B_n
  clear B_n
  have Z := Z_n
  clear Z_n
  have E := E_n
  clear E_n
  obtain ⟨B_0, B_1, B_f⟩ := id B
  have B_f0 := B_f 0
  have B_f1 := B_f 1
  clear B_f
  have B_l := World.block_lt_of_cell? _ _ B_0
  go_wp2_with fail
  refine (HM.out _ (T.out.ext ((E.setCell (show w.heap.size ≤ w.heap.size by omega) _).setCell (show w.heap.size ≤ w.heap.size by omega) _))).mono ?_
  rintro _ w2 ⟨g, rfl, Bg, f2⟩
  clear B_0 B_1 B_f0 B_f1 B_l
  have B_n : M2 w2 (w.heap.size) (.int .i64 kf) (.int .i64 (qf : Int)) := (B.store).ext f2
  have Z_n : Z3 w2 (w.heap.size + 1) := (Z.off (show (w.heap.size + 1 : Nat) ≠ w.heap.size by omega)).ext f2
  have E_n : Ext w w2 := ((E.setCell (show w.heap.size ≤ w.heap.size by omega) _).setCell (show w.heap.size ≤ w.heap.size by omega) _).trans f2
  clear f2 B Z E
  have B := B_n
  clear B_n
  have Z := Z_n
  clear Z_n
  have E := E_n
  clear E_n
  obtain ⟨B_0, B_1, B_f⟩ := id B
  have B_f0 := B_f 0
  have B_f1 := B_f 1
  clear B_f
  have B_l := World.block_lt_of_cell? _ _ B_0
  go_wp2_with fail
  refine (HC.out _ (T.out.ext E) g Bg).mono ?_
  rintro _ w3 ⟨rfl, f3⟩
  clear B_0 B_1 B_f0 B_f1 B_l
  have B_n : M2 w3 (w.heap.size) (.int .i64 kf) (.int .i64 (qf : Int)) := B.ext f3
  have Z_n : Z3 w3 (w.heap.size + 1) := Z.ext f3
  have Bg_n : B2 w3 (g) (.int .i64 kq) (.int .i64 (qq : Int)) := Bg.ext f3
  have E_n : Ext w w3 := E.trans f3
  clear f3 B Z Bg E
  have B := B_n
  clear B_n
  have Z := Z_n
  clear Z_n
  have Bg := Bg_n
  clear Bg_n
  have E := E_n
  clear E_n
  have Z_c0 := Z.c0
  have Z_f0 := Z.f 0
  have Z_c1 := Z.c1
  have Z_f1 := Z.f 1
  have Z_c2 := Z.c2
  have Z_f2 := Z.f 2
  have Z_l := World.block_lt_of_cell? _ _ Z_c0
  go_wp2
  obtain ⟨k0, k1, k2, hD⟩ := Z.done E (by omega)
  exact bodyPost_ret (by simp [results, Tryd.results14, go_sem, k0, k1, k2]) rfl ⟨rfl, hD⟩
theorem tsplit_any (w : World) (T : Tb w) (K k e : Int) (Q q : Nat) (hK : -1099511627776 ≤ K ∧ K ≤ 1099511627776) (hQ : Q ≤ 40) (he : eighth (tv K Q) = e) (h : Fm (rest (tv K Q)) k q) :
    Calls Tryd.prog 14 #[.agg #[.int .i64 K, .int .i64 Q]] w (RetE w (.agg #[.int .i64 e, .int .i64 k, .int .i64 q])) := by
  have hm := Int.emod_nonneg e (show (2 : Int) ≠ 0 by omega)
  by_cases hp : e % 2 = 0
  · exact tsplit_even w T K k e Q q hK hQ he hp h
  · exact tsplit_odd w T K k e Q q hK hQ he (by omega) h
set_option maxRecDepth 4000 in
set_option maxHeartbeats 1000000 in
theorem tjoin_odd (w : World) (T : Tb w) (v e kr k : Int) (qr q : Nat) (hv : 0 ≤ v ∧ v < 1099511627776) (he : eighth v = e) (hp : e % 2 = 1) (hr : Fm (rest v) kr qr) (h : Fm v k q) :
    Calls Tryd.prog 24 #[.agg #[.int .i64 e, .int .i64 kr, .int .i64 qr]] w (RetE w (.agg #[.int .i64 k, .int .i64 q])) := by
  obtain ⟨q0, q1, q2, q3⟩ := rest_range hv.1 hv.2
  obtain ⟨kq, qq, hq⟩ := fm_there (tv_range ((e + 1) / 2) 2).1 (tv_range ((e + 1) / 2) 2).2
  have hvq : tv ((e + 1) / 2) 2 = (e + 1) / 2 * 274877906944 % 1099511627776 := rfl
  have hl := h.low
  have hl2 := p2_le hl.2.2.1
  have hlr := hr.low
  have hlr2 := p2_le hlr.2.2.1
  rw [p2_40] at hl2 hlr2
  have hrest : rest v = (e + 1) * 137438953472 - v := by unfold rest; rw [he]; exact if_neg (by omega)
  rw [he] at q0 q1
  have hve := he
  unfold eighth at hve
  have HM := Lib.hid (fun w' T' => tmeas_odd w' T' e kq qq ⟨q0, q1⟩ hp hq)
  have HC := Lib.hid (fun w' T' g B => tmeas1_any w' T' g _ kq kr k qq qr q B hq (by omega) hlr.2.2.1 (by rw [hr.tv, hvq, show ((e + 1) / 2 * 274877906944 % 1099511627776 - rest v) % 1099511627776 = v by rw [hrest]; omega]; exact h))
  have HS := Lib.hid (fun w' T' => tsplit_any w' T' k kr e q qr (by omega) hl.2.2.1 (by rw [h.tv]; exact he) (by rw [h.tv]; exact hr))
  have hcall1 := call1
  have hcall3 := call3
  clear q0 q1 q2 q3 hq hvq hl hl2 hlr hlr2 hrest hve hp h he hr hv
  replace T := Lib.hid T
  go_enter Tryd.func24, Tryd.ntmps24
  go_wp2_with fail
  refine (HM.out _ (T.out.ext (((Ext.refl w).alloc _).alloc _))).mono ?_
  rintro _ w1 ⟨g, rfl, Bg, f1⟩
  have B_n : B3 w1 (w.heap.size) (.int .i64 e) (.int .i64 kr) (.int .i64 (qr : Int)) := ((B3.fresh (by simp)).ext ((Ext.refl _).alloc _)).ext f1
  have Z_n : Z2 w1 (w.heap.size + 1) := (Z2.fresh (by simp)).ext f1
  have E_n : Ext w w1 := (((Ext.refl w).alloc _).alloc _).trans f1
  clear f1
  have B := B_n
  clear B_n
  have Z := Z_n
  clear Z_n
  have E := E_n
  clear E_n
  obtain ⟨B_0, B_1, B_2⟩ := id B
  have B_l := World.block_lt_of_cell? _ _ B_0
  go_wp2_with fail
  refine (HC.out _ (T.out.ext E) g Bg).mono ?_
  rintro _ w2 ⟨rfl, f2⟩
  clear B_0 B_1 B_2 B_l
  have B_n : B3 w2 (w.heap.size) (.int .i64 e) (.int .i64 kr) (.int .i64 (qr : Int)) := B.ext f2
  have Z_n : Z2 w2 (w.heap.size + 1) := Z.ext f2
  have Bg_n : B2 w2 (g) (.int .i64 kq) (.int .i64 (qq : Int)) := Bg.ext f2
  have E_n : Ext w w2 := E.trans f2
  clear f2 B Z Bg E
  have B := B_n
  clear B_n
  have Z := Z_n
  clear Z_n
  have Bg := Bg_n
  clear Bg_n
  have E := E_n
  clear E_n
  clear Bg hcall1 hcall3
  obtain ⟨B_0, B_1, B_2⟩ := id B
  have B_l := World.block_lt_of_cell? _ _ B_0
  go_upto_region 3 with fail
  clear B_0 B_1 B_2 B_l
  generalize hW : (w2.alloc (.cells #[.int .i64 k, .int .i64 (q : Int)] 23)) = W3
  have B_n : B3 W3 (w.heap.size) (.int .i64 e) (.int .i64 kr) (.int .i64 (qr : Int)) := by rw [← hW]; exact (B.ext ((Ext.refl _).alloc _))
  have Z_n : Z2 W3 (w.heap.size + 1) := by rw [← hW]; exact (Z.ext ((Ext.refl _).alloc _))
  have Bt_n : B2 W3 (w2.heap.size) (.int .i64 k) (.int .i64 (q : Int)) := by rw [← hW]; exact (B2.fresh (by simp))
  have E_n : Ext w W3 := by rw [← hW]; exact (E.alloc _)
  clear hW B Z E
  have B := B_n
  clear B_n
  have Z := Z_n
  clear Z_n
  have Bt := Bt_n
  clear Bt_n
  have E := E_n
  clear E_n
  skip
  refine wp_region_held_drew (S := (fun w' => (w'.cell? ⟨w2.heap.size, 0, none⟩ = some (.int .i64 k) ∧ w'.cell? ⟨w2.heap.size, 1, none⟩ = some (.int .i64 (q : Int))) ∧ (w'.cell? ⟨w.heap.size, 0, none⟩ = some (.int .i64 e) ∧ w'.cell? ⟨w.heap.size, 1, none⟩ = some (.int .i64 kr) ∧ w'.cell? ⟨w.heap.size, 2, none⟩ = some (.int .i64 (qr : Int))))) (by as_aux_lemma => kernel_rfl) ⟨b2 (Bt.ext (Ext.refl W3).drew), b3 (B.ext (Ext.refl W3).drew)⟩ (fun hHeld => ?_)
  refine wpAnyH_take (i := 0) (v := ?_) rfl (by as_aux_lemma => kernel_rfl) (by as_aux_lemma => kernel_rfl) (by as_aux_lemma => kernel_rfl) (fun _ _ _ h => h) (Or.inl ⟨by rfl, ?_⟩) (by assumption) ?_
  rotate_left
  · (intro w hSw; (try dsimp only at hSw); go_simp); (try with_reducible rfl)
  simp only [List.getElem_toArray, List.getElem_cons_zero, Act.put, List.setIfInBounds_toArray, List.set_cons_zero, List.set_cons_succ]
  refine wpAnyH_take (i := 2) (v := ?_) rfl (by as_aux_lemma => kernel_rfl) (by as_aux_lemma => kernel_rfl) (by as_aux_lemma => kernel_rfl) (fun _ _ _ h => h) (Or.inl ⟨by rfl, ?_⟩) (by assumption) ?_
  rotate_left
  · (intro w hSw; (try dsimp only at hSw); go_simp); (try with_reducible rfl)
  simp only [List.getElem_toArray, List.getElem_cons_zero, List.getElem_cons_succ, Act.put, List.setIfInBounds_toArray, List.set_cons_zero, List.set_cons_succ]
  refine wpAnyH_ready (rs := [1]) (by as_aux_lemma => kernel_rfl) (by simp) ?_
  refine AllReadyH.cons rfl (fun K hK => ?_) AllReadyH.nil
  go_simp
  refine (HS.out _ (T.out.ext (E.trans (Ext.refl W3).drew))).mono ?_
  rintro _ u1 ⟨rfl, eu1⟩
  have F1 : Ext W3 u1 := (Ext.refl W3).drew.trans eu1
  refine hK.out _ _ ⟨b2 (Bt.ext F1), b3 (B.ext F1)⟩ (fun hHeld => ?_)
  clear hK K eu1
  refine wpAnyH_take (i := 3) (v := ?_) rfl (by as_aux_lemma => kernel_rfl) (by as_aux_lemma => kernel_rfl) (by as_aux_lemma => kernel_rfl) (fun _ _ _ h => h) (Or.inl ⟨by rfl, ?_⟩) (by assumption) ?_
  rotate_left
  · (intro w hSw; (try dsimp only at hSw); go_simp); (try with_reducible rfl)
  simp only [List.getElem_toArray, List.getElem_cons_zero, List.getElem_cons_succ, Act.put, List.setIfInBounds_toArray, List.set_cons_zero, List.set_cons_succ]
  refine wpAnyH_done (by as_aux_lemma => kernel_rfl) ?_ _
  have Zr := Z.ext F1
  replace E := E.trans F1
  replace Bt := Bt.ext F1
  clear Z F1 hHeld
  obtain ⟨Bt_0, Bt_1⟩ := id Bt
  have Bt_l := World.block_lt_of_cell? _ _ Bt_0
  have Zr_c0 := Zr.c0
  have Zr_f0 := Zr.f 0
  have Zr_c1 := Zr.c1
  have Zr_f1 := Zr.f 1
  have Zr_l := World.block_lt_of_cell? _ _ Zr_c0
  go_wp2
  obtain ⟨k0, k1, hD⟩ := Zr.done E (by omega)
  exact bodyPost_ret (by simp [results, Tryd.results24, go_sem, k0, k1]) rfl ⟨rfl, hD⟩
set_option maxRecDepth 4000 in
set_option maxHeartbeats 1000000 in
theorem tjoin_even (w : World) (T : Tb w) (v e kr k : Int) (qr q : Nat) (hv : 0 ≤ v ∧ v < 1099511627776) (he : eighth v = e) (hp : e % 2 = 0) (hr : Fm (rest v) kr qr) (h : Fm v k q) :
    Calls Tryd.prog 24 #[.agg #[.int .i64 e, .int .i64 kr, .int .i64 qr]] w (RetE w (.agg #[.int .i64 k, .int .i64 q])) := by
  obtain ⟨q0, q1, q2, q3⟩ := rest_range hv.1 hv.2
  obtain ⟨kq, qq, hq⟩ := fm_there (tv_range ((e + 1) / 2) 2).1 (tv_range ((e + 1) / 2) 2).2
  have hvq : tv ((e + 1) / 2) 2 = (e + 1) / 2 * 274877906944 % 1099511627776 := rfl
  have hl := h.low
  have hl2 := p2_le hl.2.2.1
  have hlr := hr.low
  have hlr2 := p2_le hlr.2.2.1
  rw [p2_40] at hl2 hlr2
  have hrest : rest v = v - e * 137438953472 := by unfold rest; rw [he]; exact if_pos hp
  rw [he] at q0 q1
  have hve := he
  unfold eighth at hve
  have HM := Lib.hid (fun w' T' => tmeas_even w' T' e kq qq ⟨q0, q1⟩ hp hq)
  have HC := Lib.hid (fun w' T' g B => tmeas3_any w' T' g _ kq kr k qq qr q B hq (by omega) hlr.2.2.1 (by rw [hr.tv, hvq, show (rest v + (e + 1) / 2 * 274877906944 % 1099511627776) % 1099511627776 = v by rw [hrest]; omega]; exact h))
  have HS := Lib.hid (fun w' T' => tsplit_any w' T' k kr e q qr (by omega) hl.2.2.1 (by rw [h.tv]; exact he) (by rw [h.tv]; exact hr))
  have hcall1 := call1
  have hcall3 := call3
  clear q0 q1 q2 q3 hq hvq hl hl2 hlr hlr2 hrest hve hp h he hr hv
  replace T := Lib.hid T
  go_enter Tryd.func24, Tryd.ntmps24
  go_wp2_with fail
  refine (HM.out _ (T.out.ext (((Ext.refl w).alloc _).alloc _))).mono ?_
  rintro _ w1 ⟨g, rfl, Bg, f1⟩
  have B_n : B3 w1 (w.heap.size) (.int .i64 e) (.int .i64 kr) (.int .i64 (qr : Int)) := ((B3.fresh (by simp)).ext ((Ext.refl _).alloc _)).ext f1
  have Z_n : Z2 w1 (w.heap.size + 1) := (Z2.fresh (by simp)).ext f1
  have E_n : Ext w w1 := (((Ext.refl w).alloc _).alloc _).trans f1
  clear f1
  have B := B_n
  clear B_n
  have Z := Z_n
  clear Z_n
  have E := E_n
  clear E_n
  obtain ⟨B_0, B_1, B_2⟩ := id B
  have B_l := World.block_lt_of_cell? _ _ B_0
  go_wp2_with fail
  refine (HC.out _ (T.out.ext E) g Bg).mono ?_
  rintro _ w2 ⟨rfl, f2⟩
  clear B_0 B_1 B_2 B_l
  have B_n : B3 w2 (w.heap.size) (.int .i64 e) (.int .i64 kr) (.int .i64 (qr : Int)) := B.ext f2
  have Z_n : Z2 w2 (w.heap.size + 1) := Z.ext f2
  have Bg_n : B2 w2 (g) (.int .i64 kq) (.int .i64 (qq : Int)) := Bg.ext f2
  have E_n : Ext w w2 := E.trans f2
  clear f2 B Z Bg E
  have B := B_n
  clear B_n
  have Z := Z_n
  clear Z_n
  have Bg := Bg_n
  clear Bg_n
  have E := E_n
  clear E_n
  clear Bg hcall1 hcall3
  obtain ⟨B_0, B_1, B_2⟩ := id B
  have B_l := World.block_lt_of_cell? _ _ B_0
  go_upto_region 3 with fail
  clear B_0 B_1 B_2 B_l
  generalize hW : (w2.alloc (.cells #[.int .i64 k, .int .i64 (q : Int)] 23)) = W3
  have B_n : B3 W3 (w.heap.size) (.int .i64 e) (.int .i64 kr) (.int .i64 (qr : Int)) := by rw [← hW]; exact (B.ext ((Ext.refl _).alloc _))
  have Z_n : Z2 W3 (w.heap.size + 1) := by rw [← hW]; exact (Z.ext ((Ext.refl _).alloc _))
  have Bt_n : B2 W3 (w2.heap.size) (.int .i64 k) (.int .i64 (q : Int)) := by rw [← hW]; exact (B2.fresh (by simp))
  have E_n : Ext w W3 := by rw [← hW]; exact (E.alloc _)
  clear hW B Z E
  have B := B_n
  clear B_n
  have Z := Z_n
  clear Z_n
  have Bt := Bt_n
  clear Bt_n
  have E := E_n
  clear E_n
  skip
  refine wp_region_held_drew (S := (fun w' => (w'.cell? ⟨w2.heap.size, 0, none⟩ = some (.int .i64 k) ∧ w'.cell? ⟨w2.heap.size, 1, none⟩ = some (.int .i64 (q : Int))) ∧ (w'.cell? ⟨w.heap.size, 0, none⟩ = some (.int .i64 e) ∧ w'.cell? ⟨w.heap.size, 1, none⟩ = some (.int .i64 kr) ∧ w'.cell? ⟨w.heap.size, 2, none⟩ = some (.int .i64 (qr : Int))))) (by as_aux_lemma => kernel_rfl) ⟨b2 (Bt.ext (Ext.refl W3).drew), b3 (B.ext (Ext.refl W3).drew)⟩ (fun hHeld => ?_)
  refine wpAnyH_take (i := 0) (v := ?_) rfl (by as_aux_lemma => kernel_rfl) (by as_aux_lemma => kernel_rfl) (by as_aux_lemma => kernel_rfl) (fun _ _ _ h => h) (Or.inl ⟨by rfl, ?_⟩) (by assumption) ?_
  rotate_left
  · (intro w hSw; (try dsimp only at hSw); go_simp); (try with_reducible rfl)
  simp only [List.getElem_toArray, List.getElem_cons_zero, Act.put, List.setIfInBounds_toArray, List.set_cons_zero, List.set_cons_succ]
  refine wpAnyH_take (i := 2) (v := ?_) rfl (by as_aux_lemma => kernel_rfl) (by as_aux_lemma => kernel_rfl) (by as_aux_lemma => kernel_rfl) (fun _ _ _ h => h) (Or.inl ⟨by rfl, ?_⟩) (by assumption) ?_
  rotate_left
  · (intro w hSw; (try dsimp only at hSw); go_simp); (try with_reducible rfl)
  simp only [List.getElem_toArray, List.getElem_cons_zero, List.getElem_cons_succ, Act.put, List.setIfInBounds_toArray, List.set_cons_zero, List.set_cons_succ]
  refine wpAnyH_ready (rs := [1]) (by as_aux_lemma => kernel_rfl) (by simp) ?_
  refine AllReadyH.cons rfl (fun K hK => ?_) AllReadyH.nil
  go_simp
  refine (HS.out _ (T.out.ext (E.trans (Ext.refl W3).drew))).mono ?_
  rintro _ u1 ⟨rfl, eu1⟩
  have F1 : Ext W3 u1 := (Ext.refl W3).drew.trans eu1
  refine hK.out _ _ ⟨b2 (Bt.ext F1), b3 (B.ext F1)⟩ (fun hHeld => ?_)
  clear hK K eu1
  refine wpAnyH_take (i := 3) (v := ?_) rfl (by as_aux_lemma => kernel_rfl) (by as_aux_lemma => kernel_rfl) (by as_aux_lemma => kernel_rfl) (fun _ _ _ h => h) (Or.inl ⟨by rfl, ?_⟩) (by assumption) ?_
  rotate_left
  · (intro w hSw; (try dsimp only at hSw); go_simp); (try with_reducible rfl)
  simp only [List.getElem_toArray, List.getElem_cons_zero, List.getElem_cons_succ, Act.put, List.setIfInBounds_toArray, List.set_cons_zero, List.set_cons_succ]
  refine wpAnyH_done (by as_aux_lemma => kernel_rfl) ?_ _
  have Zr := Z.ext F1
  replace E := E.trans F1
  replace Bt := Bt.ext F1
  clear Z F1 hHeld
  obtain ⟨Bt_0, Bt_1⟩ := id Bt
  have Bt_l := World.block_lt_of_cell? _ _ Bt_0
  have Zr_c0 := Zr.c0
  have Zr_f0 := Zr.f 0
  have Zr_c1 := Zr.c1
  have Zr_f1 := Zr.f 1
  have Zr_l := World.block_lt_of_cell? _ _ Zr_c0
  go_wp2
  obtain ⟨k0, k1, hD⟩ := Zr.done E (by omega)
  exact bodyPost_ret (by simp [results, Tryd.results24, go_sem, k0, k1]) rfl ⟨rfl, hD⟩
theorem tjoin_any (w : World) (T : Tb w) (v e kr k : Int) (qr q : Nat) (hv : 0 ≤ v ∧ v < 1099511627776) (he : eighth v = e) (hr : Fm (rest v) kr qr) (h : Fm v k q) :
    Calls Tryd.prog 24 #[.agg #[.int .i64 e, .int .i64 kr, .int .i64 qr]] w (RetE w (.agg #[.int .i64 k, .int .i64 q])) := by
  by_cases hp : e % 2 = 0
  · exact tjoin_even w T v e kr k qr q hv he hp hr h
  · exact tjoin_odd w T v e kr k qr q hv he (by omega) hr h
/-- The rows of eighths lie as they were laid. -/
structure Pl (w : World) : Prop where
  out : ∀ i, i < 8 → w.cell? ⟨0, 3 * i, none⟩ = some (.bool (plSwap (i : Int))) ∧ w.cell? ⟨0, 3 * i + 1, none⟩ = some (.bool (plCos (i : Int))) ∧ w.cell? ⟨0, 3 * i + 2, none⟩ = some (.bool (plSin (i : Int)))
theorem Pl.ext {w w' : World} (h : Pl w) (E : Ext w w') : Pl w' := ⟨fun i hi => by
  obtain ⟨a, b, c⟩ := h.out i hi
  have hg : 0 < w.heap.size := World.block_lt_of_cell? w _ a
  exact ⟨(E.cell hg).trans a, (E.cell hg).trans b, (E.cell hg).trans c⟩⟩
set_option maxRecDepth 4000 in
set_option maxHeartbeats 1000000 in
theorem tplace_no (w : World) (e : Int) (h : e < 0 ∨ 7 < e) :
    Calls Tryd.prog 10 #[.int .i64 e] w (RetE w (.tuple #[.bool (plSwap e), .bool (plCos e), .bool (plSin e)])) := by
  have a : plSwap e = false := decide_eq_false (by omega)
  have b : plCos e = false := decide_eq_false (by omega)
  have c : plSin e = false := decide_eq_false (by omega)
  rw [a, b, c]
  by_cases h0 : e < 0
  · go_enter Tryd.func10, Tryd.ntmps10
    go_wp2
    exact bodyPost_ret (by simp [results, Tryd.results10, go_sem]) rfl ⟨rfl, Ext.refl w⟩
  · have h7 : 7 < e := by omega
    have h8 : ¬ e < 8 := by omega
    have h8' : 8 ≤ e := by omega
    go_enter Tryd.func10, Tryd.ntmps10
    go_wp2
    exact bodyPost_ret (by simp [results, Tryd.results10, go_sem]) rfl ⟨rfl, Ext.refl w⟩
set_option maxRecDepth 4000 in
set_option maxHeartbeats 1000000 in
theorem tplace_0 (w : World) (P : Pl w) :
    Calls Tryd.prog 10 #[.int .i64 0] w (RetE w (.tuple #[.bool (plSwap 0), .bool (plCos 0), .bool (plSin 0)])) := by
  obtain ⟨a, b, c⟩ := P.out 0 (by omega)
  have a' : w.cell? ⟨0, 0, none⟩ = some (.bool (plSwap 0)) := a
  have b' : w.cell? ⟨0, 1, none⟩ = some (.bool (plCos 0)) := b
  have c' : w.cell? ⟨0, 2, none⟩ = some (.bool (plSin 0)) := c
  generalize plSwap 0 = x at *
  generalize plCos 0 = y at *
  generalize plSin 0 = z at *
  clear a b c P
  go_enter Tryd.func10, Tryd.ntmps10
  go_wp2_with fail
  go_quiet (fail)
  go_wp2
  exact bodyPost_ret (by simp [results, Tryd.results10, go_sem]) rfl ⟨rfl, (Ext.refl w).drewN _⟩
set_option maxRecDepth 4000 in
set_option maxHeartbeats 1000000 in
theorem tplace_1 (w : World) (P : Pl w) :
    Calls Tryd.prog 10 #[.int .i64 1] w (RetE w (.tuple #[.bool (plSwap 1), .bool (plCos 1), .bool (plSin 1)])) := by
  obtain ⟨a, b, c⟩ := P.out 1 (by omega)
  have a' : w.cell? ⟨0, 3, none⟩ = some (.bool (plSwap 1)) := a
  have b' : w.cell? ⟨0, 4, none⟩ = some (.bool (plCos 1)) := b
  have c' : w.cell? ⟨0, 5, none⟩ = some (.bool (plSin 1)) := c
  generalize plSwap 1 = x at *
  generalize plCos 1 = y at *
  generalize plSin 1 = z at *
  clear a b c P
  go_enter Tryd.func10, Tryd.ntmps10
  go_wp2_with fail
  go_quiet (fail)
  go_wp2
  exact bodyPost_ret (by simp [results, Tryd.results10, go_sem]) rfl ⟨rfl, (Ext.refl w).drewN _⟩
set_option maxRecDepth 4000 in
set_option maxHeartbeats 1000000 in
theorem tplace_2 (w : World) (P : Pl w) :
    Calls Tryd.prog 10 #[.int .i64 2] w (RetE w (.tuple #[.bool (plSwap 2), .bool (plCos 2), .bool (plSin 2)])) := by
  obtain ⟨a, b, c⟩ := P.out 2 (by omega)
  have a' : w.cell? ⟨0, 6, none⟩ = some (.bool (plSwap 2)) := a
  have b' : w.cell? ⟨0, 7, none⟩ = some (.bool (plCos 2)) := b
  have c' : w.cell? ⟨0, 8, none⟩ = some (.bool (plSin 2)) := c
  generalize plSwap 2 = x at *
  generalize plCos 2 = y at *
  generalize plSin 2 = z at *
  clear a b c P
  go_enter Tryd.func10, Tryd.ntmps10
  go_wp2_with fail
  go_quiet (fail)
  go_wp2
  exact bodyPost_ret (by simp [results, Tryd.results10, go_sem]) rfl ⟨rfl, (Ext.refl w).drewN _⟩
set_option maxRecDepth 4000 in
set_option maxHeartbeats 1000000 in
theorem tplace_3 (w : World) (P : Pl w) :
    Calls Tryd.prog 10 #[.int .i64 3] w (RetE w (.tuple #[.bool (plSwap 3), .bool (plCos 3), .bool (plSin 3)])) := by
  obtain ⟨a, b, c⟩ := P.out 3 (by omega)
  have a' : w.cell? ⟨0, 9, none⟩ = some (.bool (plSwap 3)) := a
  have b' : w.cell? ⟨0, 10, none⟩ = some (.bool (plCos 3)) := b
  have c' : w.cell? ⟨0, 11, none⟩ = some (.bool (plSin 3)) := c
  generalize plSwap 3 = x at *
  generalize plCos 3 = y at *
  generalize plSin 3 = z at *
  clear a b c P
  go_enter Tryd.func10, Tryd.ntmps10
  go_wp2_with fail
  go_quiet (fail)
  go_wp2
  exact bodyPost_ret (by simp [results, Tryd.results10, go_sem]) rfl ⟨rfl, (Ext.refl w).drewN _⟩
set_option maxRecDepth 4000 in
set_option maxHeartbeats 1000000 in
theorem tplace_4 (w : World) (P : Pl w) :
    Calls Tryd.prog 10 #[.int .i64 4] w (RetE w (.tuple #[.bool (plSwap 4), .bool (plCos 4), .bool (plSin 4)])) := by
  obtain ⟨a, b, c⟩ := P.out 4 (by omega)
  have a' : w.cell? ⟨0, 12, none⟩ = some (.bool (plSwap 4)) := a
  have b' : w.cell? ⟨0, 13, none⟩ = some (.bool (plCos 4)) := b
  have c' : w.cell? ⟨0, 14, none⟩ = some (.bool (plSin 4)) := c
  generalize plSwap 4 = x at *
  generalize plCos 4 = y at *
  generalize plSin 4 = z at *
  clear a b c P
  go_enter Tryd.func10, Tryd.ntmps10
  go_wp2_with fail
  go_quiet (fail)
  go_wp2
  exact bodyPost_ret (by simp [results, Tryd.results10, go_sem]) rfl ⟨rfl, (Ext.refl w).drewN _⟩
set_option maxRecDepth 4000 in
set_option maxHeartbeats 1000000 in
theorem tplace_5 (w : World) (P : Pl w) :
    Calls Tryd.prog 10 #[.int .i64 5] w (RetE w (.tuple #[.bool (plSwap 5), .bool (plCos 5), .bool (plSin 5)])) := by
  obtain ⟨a, b, c⟩ := P.out 5 (by omega)
  have a' : w.cell? ⟨0, 15, none⟩ = some (.bool (plSwap 5)) := a
  have b' : w.cell? ⟨0, 16, none⟩ = some (.bool (plCos 5)) := b
  have c' : w.cell? ⟨0, 17, none⟩ = some (.bool (plSin 5)) := c
  generalize plSwap 5 = x at *
  generalize plCos 5 = y at *
  generalize plSin 5 = z at *
  clear a b c P
  go_enter Tryd.func10, Tryd.ntmps10
  go_wp2_with fail
  go_quiet (fail)
  go_wp2
  exact bodyPost_ret (by simp [results, Tryd.results10, go_sem]) rfl ⟨rfl, (Ext.refl w).drewN _⟩
set_option maxRecDepth 4000 in
set_option maxHeartbeats 1000000 in
theorem tplace_6 (w : World) (P : Pl w) :
    Calls Tryd.prog 10 #[.int .i64 6] w (RetE w (.tuple #[.bool (plSwap 6), .bool (plCos 6), .bool (plSin 6)])) := by
  obtain ⟨a, b, c⟩ := P.out 6 (by omega)
  have a' : w.cell? ⟨0, 18, none⟩ = some (.bool (plSwap 6)) := a
  have b' : w.cell? ⟨0, 19, none⟩ = some (.bool (plCos 6)) := b
  have c' : w.cell? ⟨0, 20, none⟩ = some (.bool (plSin 6)) := c
  generalize plSwap 6 = x at *
  generalize plCos 6 = y at *
  generalize plSin 6 = z at *
  clear a b c P
  go_enter Tryd.func10, Tryd.ntmps10
  go_wp2_with fail
  go_quiet (fail)
  go_wp2
  exact bodyPost_ret (by simp [results, Tryd.results10, go_sem]) rfl ⟨rfl, (Ext.refl w).drewN _⟩
set_option maxRecDepth 4000 in
set_option maxHeartbeats 1000000 in
theorem tplace_7 (w : World) (P : Pl w) :
    Calls Tryd.prog 10 #[.int .i64 7] w (RetE w (.tuple #[.bool (plSwap 7), .bool (plCos 7), .bool (plSin 7)])) := by
  obtain ⟨a, b, c⟩ := P.out 7 (by omega)
  have a' : w.cell? ⟨0, 21, none⟩ = some (.bool (plSwap 7)) := a
  have b' : w.cell? ⟨0, 22, none⟩ = some (.bool (plCos 7)) := b
  have c' : w.cell? ⟨0, 23, none⟩ = some (.bool (plSin 7)) := c
  generalize plSwap 7 = x at *
  generalize plCos 7 = y at *
  generalize plSin 7 = z at *
  clear a b c P
  go_enter Tryd.func10, Tryd.ntmps10
  go_wp2_with fail
  go_quiet (fail)
  go_wp2
  exact bodyPost_ret (by simp [results, Tryd.results10, go_sem]) rfl ⟨rfl, (Ext.refl w).drewN _⟩
theorem tplace_any (w : World) (P : Pl w) (e : Int) : Calls Tryd.prog 10 #[.int .i64 e] w (RetE w (.tuple #[.bool (plSwap e), .bool (plCos e), .bool (plSin e)])) := by
  by_cases h : 0 ≤ e ∧ e ≤ 7
  · obtain rfl | rfl | rfl | rfl | rfl | rfl | rfl | rfl : e = 0 ∨ e = 1 ∨ e = 2 ∨ e = 3 ∨ e = 4 ∨ e = 5 ∨ e = 6 ∨ e = 7 := by omega
    · exact tplace_0 w P
    · exact tplace_1 w P
    · exact tplace_2 w P
    · exact tplace_3 w P
    · exact tplace_4 w P
    · exact tplace_5 w P
    · exact tplace_6 w P
    · exact tplace_7 w P
  · exact tplace_no w e (by omega)
end Go.Proofs.YtncopdgonbgaaaaDoor
