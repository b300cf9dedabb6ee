/- Walks of package turn: Add. -/
import Derived.Test.YtncopdgonbgaaaaDoorTB
import Derived.Laws.StructEq
namespace Go.Proofs.YtncopdgonbgaaaaDoor
open Go.RowKit
set_option linter.unusedVariables false
theorem cell_ext {w w' : World} {g : Nat} {x : Value} (h : w.cell? ⟨g, 0, none⟩ = some x) (E : Ext w w') : w'.cell? ⟨g, 0, none⟩ = some x := by
  have hg : g < w.heap.size := World.block_lt_of_cell? w _ h
  exact (E.cell hg).trans h
theorem cell_off {w : World} {g g' : Nat} {x a b : Value} (h : w.cell? ⟨g, 0, none⟩ = some x) (hg : g ≠ g') : ((w.setCell ⟨g', 0, none⟩ a).setCell ⟨g', 1, none⟩ b).cell? ⟨g, 0, none⟩ = some x := by
  rw [World.cell?_setCell_other _ _ _ _ (fun e => hg (by injection e with e; exact e.symm)), World.cell?_setCell_other _ _ _ _ (fun e => hg (by injection e with e; exact e.symm))]; exact h
theorem callParts : ∀ (x : Array Value) (W : World), (callFunc 28 x).run Tryd.prog W = .ok (.enter 28 x) W := fun _ _ => by kernel_rfl
set_option maxRecDepth 4000 in
set_option maxHeartbeats 1000000 in
theorem tpart_any (w : World) (g : Nat) (k M N : Int) (q j : Nat) (hg : w.cell? ⟨g, 0, none⟩ = some (.int .i64 M)) (hM : M = ((q + j : Nat) : Int)) (hj : q + j ≤ 40) (hk : 0 ≤ k ∧ k < 2 ^ q) (hN : k * 2 ^ j = N) :
    Calls Tryd.prog 28 #[.agg #[.int .i64 k, .int .i64 q], .pointer (some ⟨g, 0, none⟩)] w (RetE w (.int .i64 N)) := by
  have hw1 : wrap64 (M - (q : Int)) = (j : Int) := by unfold wrap64; omega
  have hs := p2_le hj
  rw [p2_40, p2_add] at hs
  have hp := p2_pos j
  have h1 := Int.mul_nonneg hk.1 (Int.le_of_lt hp)
  have h2 := Int.mul_lt_mul_of_pos_right hk.2 hp
  have hw2 : IntKind.i64.wrap (k * 2 ^ j) = N := by rw [IntWalk.i64_in _ (by omega)]; exact hN
  have hj2 : (j : Int) ≤ 40 := by omega
  have hl := World.block_lt_of_cell? _ _ hg
  clear hs hp h1 h2 hk hM hj hN
  go_enter Tryd.func28, Tryd.ntmps28
  go_wp2
  go_ret
  exact ⟨rfl, (Ext.refl w).alloc _⟩
set_option maxRecDepth 4000 in
set_option maxHeartbeats 1000000 in
theorem tadd_lt (w : World) (T : Tb w) (Ka Kb ka kb k : Int) (Qa Qb qa qb q : Nat) (hKa : -1099511627776 ≤ Ka ∧ Ka ≤ 1099511627776) (hKb : -1099511627776 ≤ Kb ∧ Kb ≤ 1099511627776) (hQa : Qa ≤ 40) (hQb : Qb ≤ 40) (ha : Fm (tv Ka Qa) ka qa) (hb : Fm (tv Kb Qb) kb qb) (h : Fm ((tv Ka Qa + tv Kb Qb) % 1099511627776) k q) (hle : qa < qb) :
    Calls Tryd.prog 18 #[.agg #[.int .i64 Ka, .int .i64 Qa], .agg #[.int .i64 Kb, .int .i64 Qb]] w (RetE w (.agg #[.int .i64 k, .int .i64 q])) := by
  obtain ⟨la0, la1, la2, la3⟩ := ha.low
  obtain ⟨lb0, lb1, lb2, lb3⟩ := hb.low
  have pa := parts_range ha (show qa ≤ qb by omega) (by omega)
  have pb := parts_range hb (show qb ≤ qb by omega) (by omega)
  have va := fm_parts ha (show qa ≤ qb by omega) (by omega)
  have vb := fm_parts hb (show qb ≤ qb by omega) (by omega)
  have hl := p2_le (show qb ≤ 40 by omega)
  rw [p2_40] at hl
  have HA := Lib.hid (fun w' T' => tform_any w' T' Ka ka Qa qa hKa hQa ha)
  have HB := Lib.hid (fun w' T' => tform_any w' T' Kb kb Qb qb hKb hQb hb)
  obtain ⟨A, hA⟩ : ∃ A, ka * 2 ^ (qb - qa) = A := ⟨_, rfl⟩
  obtain ⟨B, hB⟩ : ∃ B, kb * 2 ^ (qb - qb) = B := ⟨_, rfl⟩
  have HPA := Lib.hid (fun w' g hg => tpart_any w' g ka (qb : Int) A qa (qb - qa) hg (by omega) (by omega) ⟨la0, la1⟩ hA)
  have HPB := Lib.hid (fun w' g hg => tpart_any w' g kb (qb : Int) B qb (qb - qb) hg (by omega) (by omega) ⟨lb0, lb1⟩ hB)
  rw [hA] at pa va
  rw [hB] at pb vb
  have ht := tv_add va vb
  rw [← ht] at h
  have HC := Lib.hid (fun w' T' => treduced_any w' T' (A + B) k qb q (by omega) (by omega) h)
  have hw : IntKind.i64.wrap (A + B) = A + B := IntWalk.i64_in _ (by omega)
  have hw' : wrap64 (A + B) = A + B := by unfold wrap64; omega
  have hmx : max (qa : Int) (qb : Int) = (qb : Int) := by omega
  have h2 : (qa : Int) < (qb : Int) := by omega
  have h3 : decide ((qa : Int) < (qb : Int)) = true := decide_eq_true (by omega)
  clear hKa hKb hQa hQb ha hb h la0 la1 la2 la3 lb0 lb1 lb2 lb3 pa pb va vb hl ht hA hB
  replace T := Lib.hid T
  have hmf : ∀ (fn : Fn) (first cap : Array Value) (w : World), (Instr.makeFunc fn first cap).run Tryd.prog w = .ok (.func fn first cap) w := fun _ _ _ _ => rfl
  have hcall := callParts
  go_enter Tryd.func18, Tryd.ntmps18
  go_upto_region 1 with fail
  go_cut [] from 7 (fun wx => Ext w wx ∧ M2 wx w.heap.size (.int .i64 ka) (.int .i64 (qa : Int)) ∧ M2 wx (w.heap.size + 1) (.int .i64 kb) (.int .i64 (qb : Int)) ∧ Z2 wx (w.heap.size + 1 + 1))
  case first =>
    refine wp_region_held_drew (S := fun _ => True) (by as_aux_lemma => kernel_rfl) trivial (fun hHeld => ?_)
    have hd : Ext (((w.alloc (.cells #[.int .i64 Ka, .int .i64 (Qa : Int)] 23)).alloc (.cells #[.int .i64 Kb, .int .i64 (Qb : Int)] 23)).alloc (.cells #[.int .i64 0, .int .i64 0] 23)) (World.drew (((w.alloc (.cells #[.int .i64 Ka, .int .i64 (Qa : Int)] 23)).alloc (.cells #[.int .i64 Kb, .int .i64 (Qb : Int)] 23)).alloc (.cells #[.int .i64 0, .int .i64 0] 23))) := (Ext.refl _).drew
    generalize hgen : World.drew (((w.alloc (.cells #[.int .i64 Ka, .int .i64 (Qa : Int)] 23)).alloc (.cells #[.int .i64 Kb, .int .i64 (Qb : Int)] 23)).alloc (.cells #[.int .i64 0, .int .i64 0] 23)) = W1 at hd ⊢
    clear hgen
    have Ba_n : M2 W1 (w.heap.size) (.int .i64 Ka) (.int .i64 (Qa : Int)) := (((M2.fresh (by simp)).ext ((Ext.refl _).alloc _)).ext ((Ext.refl _).alloc _)).ext hd
    have Bb_n : M2 W1 (w.heap.size + 1) (.int .i64 Kb) (.int .i64 (Qb : Int)) := ((M2.fresh (by simp)).ext ((Ext.refl _).alloc _)).ext hd
    have Z_n : Z2 W1 (w.heap.size + 1 + 1) := (Z2.fresh (by simp)).ext hd
    have E_n : Ext w W1 := ((((Ext.refl w).alloc _).alloc _).alloc _).trans hd
    clear hd
    have Ba := Ba_n
    clear Ba_n
    have Bb := Bb_n
    clear Bb_n
    have Z := Z_n
    clear Z_n
    have E := E_n
    clear E_n
    obtain ⟨Ba_0, Ba_1, Ba_f⟩ := id Ba
    have Ba_f0 := Ba_f 0
    have Ba_f1 := Ba_f 1
    clear Ba_f
    have Ba_l := World.block_lt_of_cell? _ _ Ba_0
    obtain ⟨Bb_0, Bb_1, Bb_f⟩ := id Bb
    have Bb_f0 := Bb_f 0
    have Bb_f1 := Bb_f 1
    clear Bb_f
    have Bb_l := World.block_lt_of_cell? _ _ Bb_0
    refine wpAnyH_ready (rs := [0, 2]) (by as_aux_lemma => kernel_rfl) (by simp) ?_
    refine AllReadyH.cons rfl (fun K hK => ?_) (AllReadyH.cons rfl (fun K hK => ?_) AllReadyH.nil)
    · go_simp
      refine hK.out _ _ trivial (fun hHeld => ?_)
      clear hK K
      refine wpAnyH_ready (rs := [1, 2]) (by as_aux_lemma => kernel_rfl) (by simp) ?_
      refine AllReadyH.cons rfl (fun K hK => ?_) (AllReadyH.cons rfl (fun K hK => ?_) AllReadyH.nil)
      · go_simp
        refine (HA.out _ (T.out.ext E)).mono ?_
        rintro _ w1 ⟨rfl, f1⟩
        clear Ba_0 Ba_1 Ba_f0 Ba_f1 Ba_l Bb_0 Bb_1 Bb_f0 Bb_f1 Bb_l
        have Ba_n : M2 w1 (w.heap.size) (.int .i64 Ka) (.int .i64 (Qa : Int)) := Ba.ext f1
        have Bb_n : M2 w1 (w.heap.size + 1) (.int .i64 Kb) (.int .i64 (Qb : Int)) := Bb.ext f1
        have Z_n : Z2 w1 (w.heap.size + 1 + 1) := Z.ext f1
        have E_n : Ext w w1 := E.trans f1
        clear f1 Ba Bb Z E
        have Ba := Ba_n
        clear Ba_n
        have Bb := Bb_n
        clear Bb_n
        have Z := Z_n
        clear Z_n
        have E := E_n
        clear E_n
        obtain ⟨Ba_0, Ba_1, Ba_f⟩ := id Ba
        have Ba_f0 := Ba_f 0
        have Ba_f1 := Ba_f 1
        clear Ba_f
        have Ba_l := World.block_lt_of_cell? _ _ Ba_0
        obtain ⟨Bb_0, Bb_1, Bb_f⟩ := id Bb
        have Bb_f0 := Bb_f 0
        have Bb_f1 := Bb_f 1
        clear Bb_f
        have Bb_l := World.block_lt_of_cell? _ _ Bb_0
        refine hK.out _ _ trivial (fun hHeld => ?_)
        clear hK K
        refine wpAnyH_ready (rs := [2]) (by as_aux_lemma => kernel_rfl) (by simp) ?_
        refine AllReadyH.cons rfl (fun K hK => ?_) AllReadyH.nil
        go_simp
        refine hK.out _ _ trivial (fun hHeld => ?_)
        clear hK K
        refine wpAnyH_ready (rs := [3]) (by as_aux_lemma => kernel_rfl) (by simp) ?_
        refine AllReadyH.cons rfl (fun K hK => ?_) AllReadyH.nil
        go_simp
        refine (HB.out _ (T.out.ext E)).mono ?_
        rintro _ w2 ⟨rfl, f2⟩
        clear Ba_0 Ba_1 Ba_f0 Ba_f1 Ba_l Bb_0 Bb_1 Bb_f0 Bb_f1 Bb_l
        have Ba_n : M2 w2 (w.heap.size) (.int .i64 Ka) (.int .i64 (Qa : Int)) := Ba.ext f2
        have Bb_n : M2 w2 (w.heap.size + 1) (.int .i64 Kb) (.int .i64 (Qb : Int)) := Bb.ext f2
        have Z_n : Z2 w2 (w.heap.size + 1 + 1) := Z.ext f2
        have E_n : Ext w w2 := E.trans f2
        clear f2 Ba Bb Z E
        have Ba := Ba_n
        clear Ba_n
        have Bb := Bb_n
        clear Bb_n
        have Z := Z_n
        clear Z_n
        have E := E_n
        clear E_n
        obtain ⟨Ba_0, Ba_1, Ba_f⟩ := id Ba
        have Ba_f0 := Ba_f 0
        have Ba_f1 := Ba_f 1
        clear Ba_f
        have Ba_l := World.block_lt_of_cell? _ _ Ba_0
        obtain ⟨Bb_0, Bb_1, Bb_f⟩ := id Bb
        have Bb_f0 := Bb_f 0
        have Bb_f1 := Bb_f 1
        clear Bb_f
        have Bb_l := World.block_lt_of_cell? _ _ Bb_0
        refine hK.out _ _ trivial (fun hHeld => ?_)
        clear hK K
        refine wpAnyH_ready (rs := [4]) (by as_aux_lemma => kernel_rfl) (by simp) ?_
        refine AllReadyH.cons rfl (fun K hK => ?_) AllReadyH.nil
        go_simp
        refine hK.out _ _ trivial (fun hHeld => ?_)
        clear hK K
        refine wpAnyH_ready (rs := [5]) (by as_aux_lemma => kernel_rfl) (by simp) ?_
        refine AllReadyH.cons rfl (fun K hK => ?_) AllReadyH.nil
        go_simp
        refine hK.out _ _ trivial (fun hHeld => ?_)
        clear hK K
        refine wpAnyH_done (by as_aux_lemma => kernel_rfl) ?_ _
        go_wp2_with fail
        go_meet
        case rel =>
          exact ⟨((((E.setCell (show w.heap.size ≤ w.heap.size by omega) _).setCell (show w.heap.size ≤ w.heap.size by omega) _).setCell (show w.heap.size ≤ w.heap.size + 1 by omega) _).setCell (show w.heap.size ≤ w.heap.size + 1 by omega) _), ((Ba.store).off (show (w.heap.size : Nat) ≠ w.heap.size + 1 by omega)), ((Bb.off (show (w.heap.size + 1 : Nat) ≠ w.heap.size by omega)).store), ((Z.off (show (w.heap.size + 1 + 1 : Nat) ≠ w.heap.size by omega)).off (show (w.heap.size + 1 + 1 : Nat) ≠ w.heap.size + 1 by omega))⟩
      · go_simp
        refine hK.out _ _ trivial (fun hHeld => ?_)
        clear hK K
        refine wpAnyH_ready (rs := [1]) (by as_aux_lemma => kernel_rfl) (by simp) ?_
        refine AllReadyH.cons rfl (fun K hK => ?_) AllReadyH.nil
        go_simp
        refine (HA.out _ (T.out.ext E)).mono ?_
        rintro _ w1 ⟨rfl, f1⟩
        clear Ba_0 Ba_1 Ba_f0 Ba_f1 Ba_l Bb_0 Bb_1 Bb_f0 Bb_f1 Bb_l
        have Ba_n : M2 w1 (w.heap.size) (.int .i64 Ka) (.int .i64 (Qa : Int)) := Ba.ext f1
        have Bb_n : M2 w1 (w.heap.size + 1) (.int .i64 Kb) (.int .i64 (Qb : Int)) := Bb.ext f1
        have Z_n : Z2 w1 (w.heap.size + 1 + 1) := Z.ext f1
        have E_n : Ext w w1 := E.trans f1
        clear f1 Ba Bb Z E
        have Ba := Ba_n
        clear Ba_n
        have Bb := Bb_n
        clear Bb_n
        have Z := Z_n
        clear Z_n
        have E := E_n
        clear E_n
        obtain ⟨Ba_0, Ba_1, Ba_f⟩ := id Ba
        have Ba_f0 := Ba_f 0
        have Ba_f1 := Ba_f 1
        clear Ba_f
        have Ba_l := World.block_lt_of_cell? _ _ Ba_0
        obtain ⟨Bb_0, Bb_1, Bb_f⟩ := id Bb
        have Bb_f0 := Bb_f 0
        have Bb_f1 := Bb_f 1
        clear Bb_f
        have Bb_l := World.block_lt_of_cell? _ _ Bb_0
        refine hK.out _ _ trivial (fun hHeld => ?_)
        clear hK K
        refine wpAnyH_ready (rs := [3]) (by as_aux_lemma => kernel_rfl) (by simp) ?_
        refine AllReadyH.cons rfl (fun K hK => ?_) AllReadyH.nil
        go_simp
        refine (HB.out _ (T.out.ext E)).mono ?_
        rintro _ w2 ⟨rfl, f2⟩
        clear Ba_0 Ba_1 Ba_f0 Ba_f1 Ba_l Bb_0 Bb_1 Bb_f0 Bb_f1 Bb_l
        have Ba_n : M2 w2 (w.heap.size) (.int .i64 Ka) (.int .i64 (Qa : Int)) := Ba.ext f2
        have Bb_n : M2 w2 (w.heap.size + 1) (.int .i64 Kb) (.int .i64 (Qb : Int)) := Bb.ext f2
        have Z_n : Z2 w2 (w.heap.size + 1 + 1) := Z.ext f2
        have E_n : Ext w w2 := E.trans f2
        clear f2 Ba Bb Z E
        have Ba := Ba_n
        clear Ba_n
        have Bb := Bb_n
        clear Bb_n
        have Z := Z_n
        clear Z_n
        have E := E_n
        clear E_n
        obtain ⟨Ba_0, Ba_1, Ba_f⟩ := id Ba
        have Ba_f0 := Ba_f 0
        have Ba_f1 := Ba_f 1
        clear Ba_f
        have Ba_l := World.block_lt_of_cell? _ _ Ba_0
        obtain ⟨Bb_0, Bb_1, Bb_f⟩ := id Bb
        have Bb_f0 := Bb_f 0
        have Bb_f1 := Bb_f 1
        clear Bb_f
        have Bb_l := World.block_lt_of_cell? _ _ Bb_0
        refine hK.out _ _ trivial (fun hHeld => ?_)
        clear hK K
        refine wpAnyH_ready (rs := [4]) (by as_aux_lemma => kernel_rfl) (by simp) ?_
        refine AllReadyH.cons rfl (fun K hK => ?_) AllReadyH.nil
        go_simp
        refine hK.out _ _ trivial (fun hHeld => ?_)
        clear hK K
        refine wpAnyH_ready (rs := [5]) (by as_aux_lemma => kernel_rfl) (by simp) ?_
        refine AllReadyH.cons rfl (fun K hK => ?_) AllReadyH.nil
        go_simp
        refine hK.out _ _ trivial (fun hHeld => ?_)
        clear hK K
        refine wpAnyH_done (by as_aux_lemma => kernel_rfl) ?_ _
        go_wp2_with fail
        go_meet
        case rel =>
          exact ⟨((((E.setCell (show w.heap.size ≤ w.heap.size by omega) _).setCell (show w.heap.size ≤ w.heap.size by omega) _).setCell (show w.heap.size ≤ w.heap.size + 1 by omega) _).setCell (show w.heap.size ≤ w.heap.size + 1 by omega) _), ((Ba.store).off (show (w.heap.size : Nat) ≠ w.heap.size + 1 by omega)), ((Bb.off (show (w.heap.size + 1 : Nat) ≠ w.heap.size by omega)).store), ((Z.off (show (w.heap.size + 1 + 1 : Nat) ≠ w.heap.size by omega)).off (show (w.heap.size + 1 + 1 : Nat) ≠ w.heap.size + 1 by omega))⟩
    · go_simp
      refine hK.out _ _ trivial (fun hHeld => ?_)
      clear hK K
      refine wpAnyH_ready (rs := [0]) (by as_aux_lemma => kernel_rfl) (by simp) ?_
      refine AllReadyH.cons rfl (fun K hK => ?_) AllReadyH.nil
      go_simp
      refine hK.out _ _ trivial (fun hHeld => ?_)
      clear hK K
      refine wpAnyH_ready (rs := [1]) (by as_aux_lemma => kernel_rfl) (by simp) ?_
      refine AllReadyH.cons rfl (fun K hK => ?_) AllReadyH.nil
      go_simp
      refine (HA.out _ (T.out.ext E)).mono ?_
      rintro _ w1 ⟨rfl, f1⟩
      clear Ba_0 Ba_1 Ba_f0 Ba_f1 Ba_l Bb_0 Bb_1 Bb_f0 Bb_f1 Bb_l
      have Ba_n : M2 w1 (w.heap.size) (.int .i64 Ka) (.int .i64 (Qa : Int)) := Ba.ext f1
      have Bb_n : M2 w1 (w.heap.size + 1) (.int .i64 Kb) (.int .i64 (Qb : Int)) := Bb.ext f1
      have Z_n : Z2 w1 (w.heap.size + 1 + 1) := Z.ext f1
      have E_n : Ext w w1 := E.trans f1
      clear f1 Ba Bb Z E
      have Ba := Ba_n
      clear Ba_n
      have Bb := Bb_n
      clear Bb_n
      have Z := Z_n
      clear Z_n
      have E := E_n
      clear E_n
      obtain ⟨Ba_0, Ba_1, Ba_f⟩ := id Ba
      have Ba_f0 := Ba_f 0
      have Ba_f1 := Ba_f 1
      clear Ba_f
      have Ba_l := World.block_lt_of_cell? _ _ Ba_0
      obtain ⟨Bb_0, Bb_1, Bb_f⟩ := id Bb
      have Bb_f0 := Bb_f 0
      have Bb_f1 := Bb_f 1
      clear Bb_f
      have Bb_l := World.block_lt_of_cell? _ _ Bb_0
      refine hK.out _ _ trivial (fun hHeld => ?_)
      clear hK K
      refine wpAnyH_ready (rs := [3]) (by as_aux_lemma => kernel_rfl) (by simp) ?_
      refine AllReadyH.cons rfl (fun K hK => ?_) AllReadyH.nil
      go_simp
      refine (HB.out _ (T.out.ext E)).mono ?_
      rintro _ w2 ⟨rfl, f2⟩
      clear Ba_0 Ba_1 Ba_f0 Ba_f1 Ba_l Bb_0 Bb_1 Bb_f0 Bb_f1 Bb_l
      have Ba_n : M2 w2 (w.heap.size) (.int .i64 Ka) (.int .i64 (Qa : Int)) := Ba.ext f2
      have Bb_n : M2 w2 (w.heap.size + 1) (.int .i64 Kb) (.int .i64 (Qb : Int)) := Bb.ext f2
      have Z_n : Z2 w2 (w.heap.size + 1 + 1) := Z.ext f2
      have E_n : Ext w w2 := E.trans f2
      clear f2 Ba Bb Z E
      have Ba := Ba_n
      clear Ba_n
      have Bb := Bb_n
      clear Bb_n
      have Z := Z_n
      clear Z_n
      have E := E_n
      clear E_n
      obtain ⟨Ba_0, Ba_1, Ba_f⟩ := id Ba
      have Ba_f0 := Ba_f 0
      have Ba_f1 := Ba_f 1
      clear Ba_f
      have Ba_l := World.block_lt_of_cell? _ _ Ba_0
      obtain ⟨Bb_0, Bb_1, Bb_f⟩ := id Bb
      have Bb_f0 := Bb_f 0
      have Bb_f1 := Bb_f 1
      clear Bb_f
      have Bb_l := World.block_lt_of_cell? _ _ Bb_0
      refine hK.out _ _ trivial (fun hHeld => ?_)
      clear hK K
      refine wpAnyH_ready (rs := [4]) (by as_aux_lemma => kernel_rfl) (by simp) ?_
      refine AllReadyH.cons rfl (fun K hK => ?_) AllReadyH.nil
      go_simp
      refine hK.out _ _ trivial (fun hHeld => ?_)
      clear hK K
      refine wpAnyH_ready (rs := [5]) (by as_aux_lemma => kernel_rfl) (by simp) ?_
      refine AllReadyH.cons rfl (fun K hK => ?_) AllReadyH.nil
      go_simp
      refine hK.out _ _ trivial (fun hHeld => ?_)
      clear hK K
      refine wpAnyH_done (by as_aux_lemma => kernel_rfl) ?_ _
      go_wp2_with fail
      go_meet
      case rel =>
        exact ⟨((((E.setCell (show w.heap.size ≤ w.heap.size by omega) _).setCell (show w.heap.size ≤ w.heap.size by omega) _).setCell (show w.heap.size ≤ w.heap.size + 1 by omega) _).setCell (show w.heap.size ≤ w.heap.size + 1 by omega) _), ((Ba.store).off (show (w.heap.size : Nat) ≠ w.heap.size + 1 by omega)), ((Bb.off (show (w.heap.size + 1 : Nat) ≠ w.heap.size by omega)).store), ((Z.off (show (w.heap.size + 1 + 1 : Nat) ≠ w.heap.size by omega)).off (show (w.heap.size + 1 + 1 : Nat) ≠ w.heap.size + 1 by omega))⟩
  case rest =>
    obtain ⟨E, Ba, Bb, Z⟩ := hcut
    have hZl := World.block_lt_of_cell? _ _ Z.c0
    skip
    clear hcall
    obtain ⟨Ba_0, Ba_1, Ba_f⟩ := id Ba
    have Ba_f0 := Ba_f 0
    have Ba_f1 := Ba_f 1
    clear Ba_f
    have Ba_l := World.block_lt_of_cell? _ _ Ba_0
    obtain ⟨Bb_0, Bb_1, Bb_f⟩ := id Bb
    have Bb_f0 := Bb_f 0
    have Bb_f1 := Bb_f 1
    clear Bb_f
    have Bb_l := World.block_lt_of_cell? _ _ Bb_0
    go_upto_region 4 with fail
    have hcall := callParts
    have Bq : (wc.alloc (.cells #[.int .i64 (qb : Int)] 3)).cell? ⟨wc.heap.size, 0, none⟩ = some (.int .i64 (qb : Int)) := by rw [World.cell?_alloc_new]; rfl
    have eQ : Ext wc (wc.alloc (.cells #[.int .i64 (qb : Int)] 3)) := (Ext.refl _).alloc _
    clear Ba_0 Ba_1 Ba_f0 Ba_f1 Ba_l Bb_0 Bb_1 Bb_f0 Bb_f1 Bb_l
    have Ba2 := Ba.b2.ext eQ
    have Bb2 := Bb.b2.ext eQ
    replace Z := Z.ext eQ
    replace E := E.trans eQ
    have hq : (wc.heap.size : Nat) ≠ w.heap.size + 1 + 1 := by have := hZl; simp at this; omega
    clear Ba Bb eQ hZl
    generalize hgen : wc.alloc (.cells #[.int .i64 (qb : Int)] 3) = W3 at *
    clear hgen
    generalize hgq : wc.heap.size = gq at *
    clear hgq
    refine wp_region_held_drew (S := (fun w' => (w'.cell? ⟨w.heap.size, 0, none⟩ = some (.int .i64 ka) ∧ w'.cell? ⟨w.heap.size, 1, none⟩ = some (.int .i64 (qa : Int))) ∧ (w'.cell? ⟨w.heap.size + 1, 0, none⟩ = some (.int .i64 kb) ∧ w'.cell? ⟨w.heap.size + 1, 1, none⟩ = some (.int .i64 (qb : Int))) ∧ w'.cell? ⟨gq, 0, none⟩ = some (.int .i64 (qb : Int)))) (by as_aux_lemma => kernel_rfl) ⟨b2 (Ba2.ext (Ext.refl W3).drew), b2 (Bb2.ext (Ext.refl W3).drew), cell_ext Bq (Ext.refl W3).drew⟩ (fun hHeld => ?_)
    refine wpAnyH_take (i := 0) (v := ?_) rfl (by as_aux_lemma => kernel_rfl) (by as_aux_lemma => kernel_rfl) (by as_aux_lemma => kernel_rfl) (fun _ _ _ h => h) (Or.inl ⟨by rfl, ?_⟩) (by assumption) ?_
    rotate_left
    · (intro w hSw; (try dsimp only at hSw); go_simp); (try with_reducible rfl)
    simp only [List.getElem_toArray, List.getElem_cons_zero, Act.put, List.setIfInBounds_toArray, List.set_cons_zero, List.set_cons_succ]
    refine wpAnyH_take (i := 1) (v := ?_) rfl (by as_aux_lemma => kernel_rfl) (by as_aux_lemma => kernel_rfl) (by as_aux_lemma => kernel_rfl) (fun _ _ _ h => h) (Or.inl ⟨by rfl, ?_⟩) (by assumption) ?_
    rotate_left
    · (intro w hSw; (try dsimp only at hSw); go_simp); (try with_reducible rfl)
    simp only [List.getElem_toArray, List.getElem_cons_zero, List.getElem_cons_succ, Act.put, List.setIfInBounds_toArray, List.set_cons_zero, List.set_cons_succ]
    refine wpAnyH_take (i := 3) (v := ?_) rfl (by as_aux_lemma => kernel_rfl) (by as_aux_lemma => kernel_rfl) (by as_aux_lemma => kernel_rfl) (fun _ _ _ h => h) (Or.inl ⟨by rfl, ?_⟩) (by assumption) ?_
    rotate_left
    · (intro w hSw; (try dsimp only at hSw); go_simp); (try with_reducible rfl)
    simp only [List.getElem_toArray, List.getElem_cons_zero, List.getElem_cons_succ, Act.put, List.setIfInBounds_toArray, List.set_cons_zero, List.set_cons_succ]
    refine wpAnyH_take (i := 4) (v := ?_) rfl (by as_aux_lemma => kernel_rfl) (by as_aux_lemma => kernel_rfl) (by as_aux_lemma => kernel_rfl) (fun _ _ _ h => h) (Or.inl ⟨by rfl, ?_⟩) (by assumption) ?_
    rotate_left
    · (intro w hSw; (try dsimp only at hSw); go_simp); (try with_reducible rfl)
    simp only [List.getElem_toArray, List.getElem_cons_zero, List.getElem_cons_succ, Act.put, List.setIfInBounds_toArray, List.set_cons_zero, List.set_cons_succ]
    refine wpAnyH_take (i := 7) (v := ?_) rfl (by as_aux_lemma => kernel_rfl) (by as_aux_lemma => kernel_rfl) (by as_aux_lemma => kernel_rfl) (fun _ _ _ h => h) (Or.inl ⟨by rfl, ?_⟩) (by assumption) ?_
    rotate_left
    · (intro w hSw; (try dsimp only at hSw); go_simp); (try with_reducible rfl)
    simp only [List.getElem_toArray, List.getElem_cons_zero, List.getElem_cons_succ, Act.put, List.setIfInBounds_toArray, List.set_cons_zero, List.set_cons_succ]
    refine wpAnyH_ready (rs := [2]) (by as_aux_lemma => kernel_rfl) (by simp) ?_
    refine AllReadyH.cons rfl (fun K hK => ?_) AllReadyH.nil
    go_simp
    refine (HPA.out _ _ (cell_ext Bq (Ext.refl W3).drew)).mono ?_
    rintro _ u1 ⟨rfl, eu1⟩
    have F1 : Ext W3 u1 := (Ext.refl W3).drew.trans eu1
    refine hK.out _ _ ⟨b2 (Ba2.ext F1), b2 (Bb2.ext F1), cell_ext Bq F1⟩ (fun hHeld => ?_)
    clear hK K eu1
    refine wpAnyH_ready (rs := [5]) (by as_aux_lemma => kernel_rfl) (by simp) ?_
    refine AllReadyH.cons rfl (fun K hK => ?_) AllReadyH.nil
    go_simp
    refine (HPB.out _ _ (cell_ext Bq F1)).mono ?_
    rintro _ u2 ⟨rfl, eu2⟩
    have F2 : Ext W3 u2 := F1.trans eu2
    refine hK.out _ _ ⟨b2 (Ba2.ext F2), b2 (Bb2.ext F2), cell_ext Bq F2⟩ (fun hHeld => ?_)
    clear hK K eu2 F1
    refine wpAnyH_take (i := 6) (v := ?_) rfl (by as_aux_lemma => kernel_rfl) (by as_aux_lemma => kernel_rfl) (by as_aux_lemma => kernel_rfl) (fun _ _ _ h => h) (Or.inl ⟨by rfl, ?_⟩) (by assumption) ?_
    rotate_left
    · (intro w hSw; (try dsimp only at hSw); go_simp); (try with_reducible rfl)
    simp only [List.getElem_toArray, List.getElem_cons_zero, List.getElem_cons_succ, Act.put, List.setIfInBounds_toArray, List.set_cons_zero, List.set_cons_succ]
    refine wpAnyH_ready (rs := [8]) (by as_aux_lemma => kernel_rfl) (by simp) ?_
    refine AllReadyH.cons rfl (fun K hK => ?_) AllReadyH.nil
    go_simp
    refine (HC.out _ (T.out.ext (E.trans F2))).mono ?_
    rintro _ u3 ⟨rfl, eu3⟩
    have F3 : Ext W3 u3 := F2.trans eu3
    refine hK.out _ _ ⟨b2 (Ba2.ext F3), b2 (Bb2.ext F3), cell_ext Bq F3⟩ (fun hHeld => ?_)
    clear hK K eu3 F2
    have Zr := Z.ext F3
    have Zr_c0 := Zr.c0
    have Zr_c1 := Zr.c1
    have Zr_f0 := Zr.f 0
    have Zr_f1 := Zr.f 1
    refine wpAnyH_ready (rs := [9]) (by as_aux_lemma => kernel_rfl) (by simp) ?_
    refine AllReadyH.cons rfl (fun K hK => ?_) AllReadyH.nil
    go_simp
    refine hK.out _ _ ⟨b2 (B2.off (Ba2.ext F3) (show (w.heap.size : Nat) ≠ w.heap.size + 1 + 1 by omega)), b2 (B2.off (Bb2.ext F3) (show (w.heap.size + 1 : Nat) ≠ w.heap.size + 1 + 1 by omega)), cell_off (cell_ext Bq F3) hq⟩ (fun hHeld => ?_)
    clear hK K
    refine wpAnyH_done (by as_aux_lemma => kernel_rfl) ?_ _
    go_wp2
    obtain ⟨k0, k1, hD⟩ := Zr.done (E.trans F3) (by omega)
    exact bodyPost_ret (by simp [results, Tryd.results18, go_sem, k0, k1]) rfl ⟨rfl, hD⟩
set_option maxRecDepth 4000 in
set_option maxHeartbeats 1000000 in
theorem tadd_ge (w : World) (T : Tb w) (Ka Kb ka kb k : Int) (Qa Qb qa qb q : Nat) (hKa : -1099511627776 ≤ Ka ∧ Ka ≤ 1099511627776) (hKb : -1099511627776 ≤ Kb ∧ Kb ≤ 1099511627776) (hQa : Qa ≤ 40) (hQb : Qb ≤ 40) (ha : Fm (tv Ka Qa) ka qa) (hb : Fm (tv Kb Qb) kb qb) (h : Fm ((tv Ka Qa + tv Kb Qb) % 1099511627776) k q) (hle : ¬ qa < qb) :
    Calls Tryd.prog 18 #[.agg #[.int .i64 Ka, .int .i64 Qa], .agg #[.int .i64 Kb, .int .i64 Qb]] w (RetE w (.agg #[.int .i64 k, .int .i64 q])) := by
  obtain ⟨la0, la1, la2, la3⟩ := ha.low
  obtain ⟨lb0, lb1, lb2, lb3⟩ := hb.low
  have pa := parts_range ha (show qa ≤ qa by omega) (by omega)
  have pb := parts_range hb (show qb ≤ qa by omega) (by omega)
  have va := fm_parts ha (show qa ≤ qa by omega) (by omega)
  have vb := fm_parts hb (show qb ≤ qa by omega) (by omega)
  have hl := p2_le (show qa ≤ 40 by omega)
  rw [p2_40] at hl
  have HA := Lib.hid (fun w' T' => tform_any w' T' Ka ka Qa qa hKa hQa ha)
  have HB := Lib.hid (fun w' T' => tform_any w' T' Kb kb Qb qb hKb hQb hb)
  obtain ⟨A, hA⟩ : ∃ A, ka * 2 ^ (qa - qa) = A := ⟨_, rfl⟩
  obtain ⟨B, hB⟩ : ∃ B, kb * 2 ^ (qa - qb) = B := ⟨_, rfl⟩
  have HPA := Lib.hid (fun w' g hg => tpart_any w' g ka (qa : Int) A qa (qa - qa) hg (by omega) (by omega) ⟨la0, la1⟩ hA)
  have HPB := Lib.hid (fun w' g hg => tpart_any w' g kb (qa : Int) B qb (qa - qb) hg (by omega) (by omega) ⟨lb0, lb1⟩ hB)
  rw [hA] at pa va
  rw [hB] at pb vb
  have ht := tv_add va vb
  rw [← ht] at h
  have HC := Lib.hid (fun w' T' => treduced_any w' T' (A + B) k qa q (by omega) (by omega) h)
  have hw : IntKind.i64.wrap (A + B) = A + B := IntWalk.i64_in _ (by omega)
  have hw' : wrap64 (A + B) = A + B := by unfold wrap64; omega
  have hmx : max (qa : Int) (qb : Int) = (qa : Int) := by omega
  have h2 : ¬ (qa : Int) < (qb : Int) := by omega
  have h3 : decide ((qa : Int) < (qb : Int)) = false := decide_eq_false (by omega)
  clear hKa hKb hQa hQb ha hb h la0 la1 la2 la3 lb0 lb1 lb2 lb3 pa pb va vb hl ht hA hB
  replace T := Lib.hid T
  have hmf : ∀ (fn : Fn) (first cap : Array Value) (w : World), (Instr.makeFunc fn first cap).run Tryd.prog w = .ok (.func fn first cap) w := fun _ _ _ _ => rfl
  have hcall := callParts
  go_enter Tryd.func18, Tryd.ntmps18
  go_upto_region 1 with fail
  go_cut [] from 7 (fun wx => Ext w wx ∧ M2 wx w.heap.size (.int .i64 ka) (.int .i64 (qa : Int)) ∧ M2 wx (w.heap.size + 1) (.int .i64 kb) (.int .i64 (qb : Int)) ∧ Z2 wx (w.heap.size + 1 + 1))
  case first =>
    refine wp_region_held_drew (S := fun _ => True) (by as_aux_lemma => kernel_rfl) trivial (fun hHeld => ?_)
    have hd : Ext (((w.alloc (.cells #[.int .i64 Ka, .int .i64 (Qa : Int)] 23)).alloc (.cells #[.int .i64 Kb, .int .i64 (Qb : Int)] 23)).alloc (.cells #[.int .i64 0, .int .i64 0] 23)) (World.drew (((w.alloc (.cells #[.int .i64 Ka, .int .i64 (Qa : Int)] 23)).alloc (.cells #[.int .i64 Kb, .int .i64 (Qb : Int)] 23)).alloc (.cells #[.int .i64 0, .int .i64 0] 23))) := (Ext.refl _).drew
    generalize hgen : World.drew (((w.alloc (.cells #[.int .i64 Ka, .int .i64 (Qa : Int)] 23)).alloc (.cells #[.int .i64 Kb, .int .i64 (Qb : Int)] 23)).alloc (.cells #[.int .i64 0, .int .i64 0] 23)) = W1 at hd ⊢
    clear hgen
    have Ba_n : M2 W1 (w.heap.size) (.int .i64 Ka) (.int .i64 (Qa : Int)) := (((M2.fresh (by simp)).ext ((Ext.refl _).alloc _)).ext ((Ext.refl _).alloc _)).ext hd
    have Bb_n : M2 W1 (w.heap.size + 1) (.int .i64 Kb) (.int .i64 (Qb : Int)) := ((M2.fresh (by simp)).ext ((Ext.refl _).alloc _)).ext hd
    have Z_n : Z2 W1 (w.heap.size + 1 + 1) := (Z2.fresh (by simp)).ext hd
    have E_n : Ext w W1 := ((((Ext.refl w).alloc _).alloc _).alloc _).trans hd
    clear hd
    have Ba := Ba_n
    clear Ba_n
    have Bb := Bb_n
    clear Bb_n
    have Z := Z_n
    clear Z_n
    have E := E_n
    clear E_n
    obtain ⟨Ba_0, Ba_1, Ba_f⟩ := id Ba
    have Ba_f0 := Ba_f 0
    have Ba_f1 := Ba_f 1
    clear Ba_f
    have Ba_l := World.block_lt_of_cell? _ _ Ba_0
    obtain ⟨Bb_0, Bb_1, Bb_f⟩ := id Bb
    have Bb_f0 := Bb_f 0
    have Bb_f1 := Bb_f 1
    clear Bb_f
    have Bb_l := World.block_lt_of_cell? _ _ Bb_0
    refine wpAnyH_ready (rs := [0, 2]) (by as_aux_lemma => kernel_rfl) (by simp) ?_
    refine AllReadyH.cons rfl (fun K hK => ?_) (AllReadyH.cons rfl (fun K hK => ?_) AllReadyH.nil)
    · go_simp
      refine hK.out _ _ trivial (fun hHeld => ?_)
      clear hK K
      refine wpAnyH_ready (rs := [1, 2]) (by as_aux_lemma => kernel_rfl) (by simp) ?_
      refine AllReadyH.cons rfl (fun K hK => ?_) (AllReadyH.cons rfl (fun K hK => ?_) AllReadyH.nil)
      · go_simp
        refine (HA.out _ (T.out.ext E)).mono ?_
        rintro _ w1 ⟨rfl, f1⟩
        clear Ba_0 Ba_1 Ba_f0 Ba_f1 Ba_l Bb_0 Bb_1 Bb_f0 Bb_f1 Bb_l
        have Ba_n : M2 w1 (w.heap.size) (.int .i64 Ka) (.int .i64 (Qa : Int)) := Ba.ext f1
        have Bb_n : M2 w1 (w.heap.size + 1) (.int .i64 Kb) (.int .i64 (Qb : Int)) := Bb.ext f1
        have Z_n : Z2 w1 (w.heap.size + 1 + 1) := Z.ext f1
        have E_n : Ext w w1 := E.trans f1
        clear f1 Ba Bb Z E
        have Ba := Ba_n
        clear Ba_n
        have Bb := Bb_n
        clear Bb_n
        have Z := Z_n
        clear Z_n
        have E := E_n
        clear E_n
        obtain ⟨Ba_0, Ba_1, Ba_f⟩ := id Ba
        have Ba_f0 := Ba_f 0
        have Ba_f1 := Ba_f 1
        clear Ba_f
        have Ba_l := World.block_lt_of_cell? _ _ Ba_0
        obtain ⟨Bb_0, Bb_1, Bb_f⟩ := id Bb
        have Bb_f0 := Bb_f 0
        have Bb_f1 := Bb_f 1
        clear Bb_f
        have Bb_l := World.block_lt_of_cell? _ _ Bb_0
        refine hK.out _ _ trivial (fun hHeld => ?_)
        clear hK K
        refine wpAnyH_ready (rs := [2]) (by as_aux_lemma => kernel_rfl) (by simp) ?_
        refine AllReadyH.cons rfl (fun K hK => ?_) AllReadyH.nil
        go_simp
        refine hK.out _ _ trivial (fun hHeld => ?_)
        clear hK K
        refine wpAnyH_ready (rs := [3]) (by as_aux_lemma => kernel_rfl) (by simp) ?_
        refine AllReadyH.cons rfl (fun K hK => ?_) AllReadyH.nil
        go_simp
        refine (HB.out _ (T.out.ext E)).mono ?_
        rintro _ w2 ⟨rfl, f2⟩
        clear Ba_0 Ba_1 Ba_f0 Ba_f1 Ba_l Bb_0 Bb_1 Bb_f0 Bb_f1 Bb_l
        have Ba_n : M2 w2 (w.heap.size) (.int .i64 Ka) (.int .i64 (Qa : Int)) := Ba.ext f2
        have Bb_n : M2 w2 (w.heap.size + 1) (.int .i64 Kb) (.int .i64 (Qb : Int)) := Bb.ext f2
        have Z_n : Z2 w2 (w.heap.size + 1 + 1) := Z.ext f2
        have E_n : Ext w w2 := E.trans f2
        clear f2 Ba Bb Z E
        have Ba := Ba_n
        clear Ba_n
        have Bb := Bb_n
        clear Bb_n
        have Z := Z_n
        clear Z_n
        have E := E_n
        clear E_n
        obtain ⟨Ba_0, Ba_1, Ba_f⟩ := id Ba
        have Ba_f0 := Ba_f 0
        have Ba_f1 := Ba_f 1
        clear Ba_f
        have Ba_l := World.block_lt_of_cell? _ _ Ba_0
        obtain ⟨Bb_0, Bb_1, Bb_f⟩ := id Bb
        have Bb_f0 := Bb_f 0
        have Bb_f1 := Bb_f 1
        clear Bb_f
        have Bb_l := World.block_lt_of_cell? _ _ Bb_0
        refine hK.out _ _ trivial (fun hHeld => ?_)
        clear hK K
        refine wpAnyH_ready (rs := [4]) (by as_aux_lemma => kernel_rfl) (by simp) ?_
        refine AllReadyH.cons rfl (fun K hK => ?_) AllReadyH.nil
        go_simp
        refine hK.out _ _ trivial (fun hHeld => ?_)
        clear hK K
        refine wpAnyH_ready (rs := [5]) (by as_aux_lemma => kernel_rfl) (by simp) ?_
        refine AllReadyH.cons rfl (fun K hK => ?_) AllReadyH.nil
        go_simp
        refine hK.out _ _ trivial (fun hHeld => ?_)
        clear hK K
        refine wpAnyH_done (by as_aux_lemma => kernel_rfl) ?_ _
        go_wp2_with fail
        go_meet
        case rel =>
          exact ⟨((((E.setCell (show w.heap.size ≤ w.heap.size by omega) _).setCell (show w.heap.size ≤ w.heap.size by omega) _).setCell (show w.heap.size ≤ w.heap.size + 1 by omega) _).setCell (show w.heap.size ≤ w.heap.size + 1 by omega) _), ((Ba.store).off (show (w.heap.size : Nat) ≠ w.heap.size + 1 by omega)), ((Bb.off (show (w.heap.size + 1 : Nat) ≠ w.heap.size by omega)).store), ((Z.off (show (w.heap.size + 1 + 1 : Nat) ≠ w.heap.size by omega)).off (show (w.heap.size + 1 + 1 : Nat) ≠ w.heap.size + 1 by omega))⟩
      · go_simp
        refine hK.out _ _ trivial (fun hHeld => ?_)
        clear hK K
        refine wpAnyH_ready (rs := [1]) (by as_aux_lemma => kernel_rfl) (by simp) ?_
        refine AllReadyH.cons rfl (fun K hK => ?_) AllReadyH.nil
        go_simp
        refine (HA.out _ (T.out.ext E)).mono ?_
        rintro _ w1 ⟨rfl, f1⟩
        clear Ba_0 Ba_1 Ba_f0 Ba_f1 Ba_l Bb_0 Bb_1 Bb_f0 Bb_f1 Bb_l
        have Ba_n : M2 w1 (w.heap.size) (.int .i64 Ka) (.int .i64 (Qa : Int)) := Ba.ext f1
        have Bb_n : M2 w1 (w.heap.size + 1) (.int .i64 Kb) (.int .i64 (Qb : Int)) := Bb.ext f1
        have Z_n : Z2 w1 (w.heap.size + 1 + 1) := Z.ext f1
        have E_n : Ext w w1 := E.trans f1
        clear f1 Ba Bb Z E
        have Ba := Ba_n
        clear Ba_n
        have Bb := Bb_n
        clear Bb_n
        have Z := Z_n
        clear Z_n
        have E := E_n
        clear E_n
        obtain ⟨Ba_0, Ba_1, Ba_f⟩ := id Ba
        have Ba_f0 := Ba_f 0
        have Ba_f1 := Ba_f 1
        clear Ba_f
        have Ba_l := World.block_lt_of_cell? _ _ Ba_0
        obtain ⟨Bb_0, Bb_1, Bb_f⟩ := id Bb
        have Bb_f0 := Bb_f 0
        have Bb_f1 := Bb_f 1
        clear Bb_f
        have Bb_l := World.block_lt_of_cell? _ _ Bb_0
        refine hK.out _ _ trivial (fun hHeld => ?_)
        clear hK K
        refine wpAnyH_ready (rs := [3]) (by as_aux_lemma => kernel_rfl) (by simp) ?_
        refine AllReadyH.cons rfl (fun K hK => ?_) AllReadyH.nil
        go_simp
        refine (HB.out _ (T.out.ext E)).mono ?_
        rintro _ w2 ⟨rfl, f2⟩
        clear Ba_0 Ba_1 Ba_f0 Ba_f1 Ba_l Bb_0 Bb_1 Bb_f0 Bb_f1 Bb_l
        have Ba_n : M2 w2 (w.heap.size) (.int .i64 Ka) (.int .i64 (Qa : Int)) := Ba.ext f2
        have Bb_n : M2 w2 (w.heap.size + 1) (.int .i64 Kb) (.int .i64 (Qb : Int)) := Bb.ext f2
        have Z_n : Z2 w2 (w.heap.size + 1 + 1) := Z.ext f2
        have E_n : Ext w w2 := E.trans f2
        clear f2 Ba Bb Z E
        have Ba := Ba_n
        clear Ba_n
        have Bb := Bb_n
        clear Bb_n
        have Z := Z_n
        clear Z_n
        have E := E_n
        clear E_n
        obtain ⟨Ba_0, Ba_1, Ba_f⟩ := id Ba
        have Ba_f0 := Ba_f 0
        have Ba_f1 := Ba_f 1
        clear Ba_f
        have Ba_l := World.block_lt_of_cell? _ _ Ba_0
        obtain ⟨Bb_0, Bb_1, Bb_f⟩ := id Bb
        have Bb_f0 := Bb_f 0
        have Bb_f1 := Bb_f 1
        clear Bb_f
        have Bb_l := World.block_lt_of_cell? _ _ Bb_0
        refine hK.out _ _ trivial (fun hHeld => ?_)
        clear hK K
        refine wpAnyH_ready (rs := [4]) (by as_aux_lemma => kernel_rfl) (by simp) ?_
        refine AllReadyH.cons rfl (fun K hK => ?_) AllReadyH.nil
        go_simp
        refine hK.out _ _ trivial (fun hHeld => ?_)
        clear hK K
        refine wpAnyH_ready (rs := [5]) (by as_aux_lemma => kernel_rfl) (by simp) ?_
        refine AllReadyH.cons rfl (fun K hK => ?_) AllReadyH.nil
        go_simp
        refine hK.out _ _ trivial (fun hHeld => ?_)
        clear hK K
        refine wpAnyH_done (by as_aux_lemma => kernel_rfl) ?_ _
        go_wp2_with fail
        go_meet
        case rel =>
          exact ⟨((((E.setCell (show w.heap.size ≤ w.heap.size by omega) _).setCell (show w.heap.size ≤ w.heap.size by omega) _).setCell (show w.heap.size ≤ w.heap.size + 1 by omega) _).setCell (show w.heap.size ≤ w.heap.size + 1 by omega) _), ((Ba.store).off (show (w.heap.size : Nat) ≠ w.heap.size + 1 by omega)), ((Bb.off (show (w.heap.size + 1 : Nat) ≠ w.heap.size by omega)).store), ((Z.off (show (w.heap.size + 1 + 1 : Nat) ≠ w.heap.size by omega)).off (show (w.heap.size + 1 + 1 : Nat) ≠ w.heap.size + 1 by omega))⟩
    · go_simp
      refine hK.out _ _ trivial (fun hHeld => ?_)
      clear hK K
      refine wpAnyH_ready (rs := [0]) (by as_aux_lemma => kernel_rfl) (by simp) ?_
      refine AllReadyH.cons rfl (fun K hK => ?_) AllReadyH.nil
      go_simp
      refine hK.out _ _ trivial (fun hHeld => ?_)
      clear hK K
      refine wpAnyH_ready (rs := [1]) (by as_aux_lemma => kernel_rfl) (by simp) ?_
      refine AllReadyH.cons rfl (fun K hK => ?_) AllReadyH.nil
      go_simp
      refine (HA.out _ (T.out.ext E)).mono ?_
      rintro _ w1 ⟨rfl, f1⟩
      clear Ba_0 Ba_1 Ba_f0 Ba_f1 Ba_l Bb_0 Bb_1 Bb_f0 Bb_f1 Bb_l
      have Ba_n : M2 w1 (w.heap.size) (.int .i64 Ka) (.int .i64 (Qa : Int)) := Ba.ext f1
      have Bb_n : M2 w1 (w.heap.size + 1) (.int .i64 Kb) (.int .i64 (Qb : Int)) := Bb.ext f1
      have Z_n : Z2 w1 (w.heap.size + 1 + 1) := Z.ext f1
      have E_n : Ext w w1 := E.trans f1
      clear f1 Ba Bb Z E
      have Ba := Ba_n
      clear Ba_n
      have Bb := Bb_n
      clear Bb_n
      have Z := Z_n
      clear Z_n
      have E := E_n
      clear E_n
      obtain ⟨Ba_0, Ba_1, Ba_f⟩ := id Ba
      have Ba_f0 := Ba_f 0
      have Ba_f1 := Ba_f 1
      clear Ba_f
      have Ba_l := World.block_lt_of_cell? _ _ Ba_0
      obtain ⟨Bb_0, Bb_1, Bb_f⟩ := id Bb
      have Bb_f0 := Bb_f 0
      have Bb_f1 := Bb_f 1
      clear Bb_f
      have Bb_l := World.block_lt_of_cell? _ _ Bb_0
      refine hK.out _ _ trivial (fun hHeld => ?_)
      clear hK K
      refine wpAnyH_ready (rs := [3]) (by as_aux_lemma => kernel_rfl) (by simp) ?_
      refine AllReadyH.cons rfl (fun K hK => ?_) AllReadyH.nil
      go_simp
      refine (HB.out _ (T.out.ext E)).mono ?_
      rintro _ w2 ⟨rfl, f2⟩
      clear Ba_0 Ba_1 Ba_f0 Ba_f1 Ba_l Bb_0 Bb_1 Bb_f0 Bb_f1 Bb_l
      have Ba_n : M2 w2 (w.heap.size) (.int .i64 Ka) (.int .i64 (Qa : Int)) := Ba.ext f2
      have Bb_n : M2 w2 (w.heap.size + 1) (.int .i64 Kb) (.int .i64 (Qb : Int)) := Bb.ext f2
      have Z_n : Z2 w2 (w.heap.size + 1 + 1) := Z.ext f2
      have E_n : Ext w w2 := E.trans f2
      clear f2 Ba Bb Z E
      have Ba := Ba_n
      clear Ba_n
      have Bb := Bb_n
      clear Bb_n
      have Z := Z_n
      clear Z_n
      have E := E_n
      clear E_n
      obtain ⟨Ba_0, Ba_1, Ba_f⟩ := id Ba
      have Ba_f0 := Ba_f 0
      have Ba_f1 := Ba_f 1
      clear Ba_f
      have Ba_l := World.block_lt_of_cell? _ _ Ba_0
      obtain ⟨Bb_0, Bb_1, Bb_f⟩ := id Bb
      have Bb_f0 := Bb_f 0
      have Bb_f1 := Bb_f 1
      clear Bb_f
      have Bb_l := World.block_lt_of_cell? _ _ Bb_0
      refine hK.out _ _ trivial (fun hHeld => ?_)
      clear hK K
      refine wpAnyH_ready (rs := [4]) (by as_aux_lemma => kernel_rfl) (by simp) ?_
      refine AllReadyH.cons rfl (fun K hK => ?_) AllReadyH.nil
      go_simp
      refine hK.out _ _ trivial (fun hHeld => ?_)
      clear hK K
      refine wpAnyH_ready (rs := [5]) (by as_aux_lemma => kernel_rfl) (by simp) ?_
      refine AllReadyH.cons rfl (fun K hK => ?_) AllReadyH.nil
      go_simp
      refine hK.out _ _ trivial (fun hHeld => ?_)
      clear hK K
      refine wpAnyH_done (by as_aux_lemma => kernel_rfl) ?_ _
      go_wp2_with fail
      go_meet
      case rel =>
        exact ⟨((((E.setCell (show w.heap.size ≤ w.heap.size by omega) _).setCell (show w.heap.size ≤ w.heap.size by omega) _).setCell (show w.heap.size ≤ w.heap.size + 1 by omega) _).setCell (show w.heap.size ≤ w.heap.size + 1 by omega) _), ((Ba.store).off (show (w.heap.size : Nat) ≠ w.heap.size + 1 by omega)), ((Bb.off (show (w.heap.size + 1 : Nat) ≠ w.heap.size by omega)).store), ((Z.off (show (w.heap.size + 1 + 1 : Nat) ≠ w.heap.size by omega)).off (show (w.heap.size + 1 + 1 : Nat) ≠ w.heap.size + 1 by omega))⟩
  case rest =>
    obtain ⟨E, Ba, Bb, Z⟩ := hcut
    have hZl := World.block_lt_of_cell? _ _ Z.c0
    skip
    clear hcall
    obtain ⟨Ba_0, Ba_1, Ba_f⟩ := id Ba
    have Ba_f0 := Ba_f 0
    have Ba_f1 := Ba_f 1
    clear Ba_f
    have Ba_l := World.block_lt_of_cell? _ _ Ba_0
    obtain ⟨Bb_0, Bb_1, Bb_f⟩ := id Bb
    have Bb_f0 := Bb_f 0
    have Bb_f1 := Bb_f 1
    clear Bb_f
    have Bb_l := World.block_lt_of_cell? _ _ Bb_0
    go_upto_region 4 with fail
    have hcall := callParts
    have Bq : (wc.alloc (.cells #[.int .i64 (qa : Int)] 3)).cell? ⟨wc.heap.size, 0, none⟩ = some (.int .i64 (qa : Int)) := by rw [World.cell?_alloc_new]; rfl
    have eQ : Ext wc (wc.alloc (.cells #[.int .i64 (qa : Int)] 3)) := (Ext.refl _).alloc _
    clear Ba_0 Ba_1 Ba_f0 Ba_f1 Ba_l Bb_0 Bb_1 Bb_f0 Bb_f1 Bb_l
    have Ba2 := Ba.b2.ext eQ
    have Bb2 := Bb.b2.ext eQ
    replace Z := Z.ext eQ
    replace E := E.trans eQ
    have hq : (wc.heap.size : Nat) ≠ w.heap.size + 1 + 1 := by have := hZl; simp at this; omega
    clear Ba Bb eQ hZl
    generalize hgen : wc.alloc (.cells #[.int .i64 (qa : Int)] 3) = W3 at *
    clear hgen
    generalize hgq : wc.heap.size = gq at *
    clear hgq
    refine wp_region_held_drew (S := (fun w' => (w'.cell? ⟨w.heap.size, 0, none⟩ = some (.int .i64 ka) ∧ w'.cell? ⟨w.heap.size, 1, none⟩ = some (.int .i64 (qa : Int))) ∧ (w'.cell? ⟨w.heap.size + 1, 0, none⟩ = some (.int .i64 kb) ∧ w'.cell? ⟨w.heap.size + 1, 1, none⟩ = some (.int .i64 (qb : Int))) ∧ w'.cell? ⟨gq, 0, none⟩ = some (.int .i64 (qa : Int)))) (by as_aux_lemma => kernel_rfl) ⟨b2 (Ba2.ext (Ext.refl W3).drew), b2 (Bb2.ext (Ext.refl W3).drew), cell_ext Bq (Ext.refl W3).drew⟩ (fun hHeld => ?_)
    refine wpAnyH_take (i := 0) (v := ?_) rfl (by as_aux_lemma => kernel_rfl) (by as_aux_lemma => kernel_rfl) (by as_aux_lemma => kernel_rfl) (fun _ _ _ h => h) (Or.inl ⟨by rfl, ?_⟩) (by assumption) ?_
    rotate_left
    · (intro w hSw; (try dsimp only at hSw); go_simp); (try with_reducible rfl)
    simp only [List.getElem_toArray, List.getElem_cons_zero, Act.put, List.setIfInBounds_toArray, List.set_cons_zero, List.set_cons_succ]
    refine wpAnyH_take (i := 1) (v := ?_) rfl (by as_aux_lemma => kernel_rfl) (by as_aux_lemma => kernel_rfl) (by as_aux_lemma => kernel_rfl) (fun _ _ _ h => h) (Or.inl ⟨by rfl, ?_⟩) (by assumption) ?_
    rotate_left
    · (intro w hSw; (try dsimp only at hSw); go_simp); (try with_reducible rfl)
    simp only [List.getElem_toArray, List.getElem_cons_zero, List.getElem_cons_succ, Act.put, List.setIfInBounds_toArray, List.set_cons_zero, List.set_cons_succ]
    refine wpAnyH_take (i := 3) (v := ?_) rfl (by as_aux_lemma => kernel_rfl) (by as_aux_lemma => kernel_rfl) (by as_aux_lemma => kernel_rfl) (fun _ _ _ h => h) (Or.inl ⟨by rfl, ?_⟩) (by assumption) ?_
    rotate_left
    · (intro w hSw; (try dsimp only at hSw); go_simp); (try with_reducible rfl)
    simp only [List.getElem_toArray, List.getElem_cons_zero, List.getElem_cons_succ, Act.put, List.setIfInBounds_toArray, List.set_cons_zero, List.set_cons_succ]
    refine wpAnyH_take (i := 4) (v := ?_) rfl (by as_aux_lemma => kernel_rfl) (by as_aux_lemma => kernel_rfl) (by as_aux_lemma => kernel_rfl) (fun _ _ _ h => h) (Or.inl ⟨by rfl, ?_⟩) (by assumption) ?_
    rotate_left
    · (intro w hSw; (try dsimp only at hSw); go_simp); (try with_reducible rfl)
    simp only [List.getElem_toArray, List.getElem_cons_zero, List.getElem_cons_succ, Act.put, List.setIfInBounds_toArray, List.set_cons_zero, List.set_cons_succ]
    refine wpAnyH_take (i := 7) (v := ?_) rfl (by as_aux_lemma => kernel_rfl) (by as_aux_lemma => kernel_rfl) (by as_aux_lemma => kernel_rfl) (fun _ _ _ h => h) (Or.inl ⟨by rfl, ?_⟩) (by assumption) ?_
    rotate_left
    · (intro w hSw; (try dsimp only at hSw); go_simp); (try with_reducible rfl)
    simp only [List.getElem_toArray, List.getElem_cons_zero, List.getElem_cons_succ, Act.put, List.setIfInBounds_toArray, List.set_cons_zero, List.set_cons_succ]
    refine wpAnyH_ready (rs := [2]) (by as_aux_lemma => kernel_rfl) (by simp) ?_
    refine AllReadyH.cons rfl (fun K hK => ?_) AllReadyH.nil
    go_simp
    refine (HPA.out _ _ (cell_ext Bq (Ext.refl W3).drew)).mono ?_
    rintro _ u1 ⟨rfl, eu1⟩
    have F1 : Ext W3 u1 := (Ext.refl W3).drew.trans eu1
    refine hK.out _ _ ⟨b2 (Ba2.ext F1), b2 (Bb2.ext F1), cell_ext Bq F1⟩ (fun hHeld => ?_)
    clear hK K eu1
    refine wpAnyH_ready (rs := [5]) (by as_aux_lemma => kernel_rfl) (by simp) ?_
    refine AllReadyH.cons rfl (fun K hK => ?_) AllReadyH.nil
    go_simp
    refine (HPB.out _ _ (cell_ext Bq F1)).mono ?_
    rintro _ u2 ⟨rfl, eu2⟩
    have F2 : Ext W3 u2 := F1.trans eu2
    refine hK.out _ _ ⟨b2 (Ba2.ext F2), b2 (Bb2.ext F2), cell_ext Bq F2⟩ (fun hHeld => ?_)
    clear hK K eu2 F1
    refine wpAnyH_take (i := 6) (v := ?_) rfl (by as_aux_lemma => kernel_rfl) (by as_aux_lemma => kernel_rfl) (by as_aux_lemma => kernel_rfl) (fun _ _ _ h => h) (Or.inl ⟨by rfl, ?_⟩) (by assumption) ?_
    rotate_left
    · (intro w hSw; (try dsimp only at hSw); go_simp); (try with_reducible rfl)
    simp only [List.getElem_toArray, List.getElem_cons_zero, List.getElem_cons_succ, Act.put, List.setIfInBounds_toArray, List.set_cons_zero, List.set_cons_succ]
    refine wpAnyH_ready (rs := [8]) (by as_aux_lemma => kernel_rfl) (by simp) ?_
    refine AllReadyH.cons rfl (fun K hK => ?_) AllReadyH.nil
    go_simp
    refine (HC.out _ (T.out.ext (E.trans F2))).mono ?_
    rintro _ u3 ⟨rfl, eu3⟩
    have F3 : Ext W3 u3 := F2.trans eu3
    refine hK.out _ _ ⟨b2 (Ba2.ext F3), b2 (Bb2.ext F3), cell_ext Bq F3⟩ (fun hHeld => ?_)
    clear hK K eu3 F2
    have Zr := Z.ext F3
    have Zr_c0 := Zr.c0
    have Zr_c1 := Zr.c1
    have Zr_f0 := Zr.f 0
    have Zr_f1 := Zr.f 1
    refine wpAnyH_ready (rs := [9]) (by as_aux_lemma => kernel_rfl) (by simp) ?_
    refine AllReadyH.cons rfl (fun K hK => ?_) AllReadyH.nil
    go_simp
    refine hK.out _ _ ⟨b2 (B2.off (Ba2.ext F3) (show (w.heap.size : Nat) ≠ w.heap.size + 1 + 1 by omega)), b2 (B2.off (Bb2.ext F3) (show (w.heap.size + 1 : Nat) ≠ w.heap.size + 1 + 1 by omega)), cell_off (cell_ext Bq F3) hq⟩ (fun hHeld => ?_)
    clear hK K
    refine wpAnyH_done (by as_aux_lemma => kernel_rfl) ?_ _
    go_wp2
    obtain ⟨k0, k1, hD⟩ := Zr.done (E.trans F3) (by omega)
    exact bodyPost_ret (by simp [results, Tryd.results18, go_sem, k0, k1]) rfl ⟨rfl, hD⟩
theorem tadd_any (w : World) (T : Tb w) (Ka Kb k : Int) (Qa Qb q : Nat) (hKa : -1099511627776 ≤ Ka ∧ Ka ≤ 1099511627776) (hKb : -1099511627776 ≤ Kb ∧ Kb ≤ 1099511627776) (hQa : Qa ≤ 40) (hQb : Qb ≤ 40) (h : Fm ((tv Ka Qa + tv Kb Qb) % 1099511627776) k q) :
    Calls Tryd.prog 18 #[.agg #[.int .i64 Ka, .int .i64 Qa], .agg #[.int .i64 Kb, .int .i64 Qb]] w (RetE w (.agg #[.int .i64 k, .int .i64 q])) := by
  obtain ⟨ka, qa, ha⟩ := fm_there (tv_range Ka Qa).1 (tv_range Ka Qa).2
  obtain ⟨kb, qb, hb⟩ := fm_there (tv_range Kb Qb).1 (tv_range Kb Qb).2
  by_cases hle : qa < qb
  · exact tadd_lt w T Ka Kb ka kb k Qa Qb qa qb q hKa hKb hQa hQb ha hb h hle
  · exact tadd_ge w T Ka Kb ka kb k Qa Qb qa qb q hKa hKb hQa hQb ha hb h hle
end Go.Proofs.YtncopdgonbgaaaaDoor
