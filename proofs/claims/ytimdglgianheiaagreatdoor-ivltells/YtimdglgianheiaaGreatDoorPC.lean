/- What the laws on enclosures ask of what they are handed: Good. -/
import Derived.Test.YtimdglgianheiaaGreatDoorPB
namespace Go.Proofs.YtimdglgianheiaaGreatDoor
open Go.RowKit
theorem Row.uniq {w : World} {v : Value} {xs ys : List Int} (h : Row w v xs) (k : Row w v ys) : xs = ys := by
  obtain ⟨A, c, rfl, h1, h2, h3⟩ := h
  obtain ⟨A', c', hv, k1, k2, k3⟩ := k
  simp only [Value.slice.injEq] at hv
  obtain ⟨rfl, hl, rfl⟩ := hv
  apply List.ext_getElem hl
  intro i hi hi'
  obtain ⟨b, off, rfl, hb, hc⟩ := h3 (by omega)
  obtain ⟨b', off', hA, hb', hc'⟩ := k3 (by omega)
  simp only [Option.some.injEq, Addr.mk.injEq, and_true] at hA
  obtain ⟨rfl, rfl⟩ := hA
  have e1 := hc i hi
  have e2 := hc' i hi'
  rw [e1] at e2
  simp only [Option.some.injEq, Value.int.injEq, true_and] at e2
  rw [nth_eq hi, nth_eq hi'] at e2
  exact e2
/-- The number that a flag, limbs and a power of two tell. -/
def num (nb : Bool) (xs : List Int) (e : Int) : Dyadic := dy (sg nb (val xs).toNat) e
theorem Dn.num {w : World} {nb : Bool} {v : Value} {xs : List Int} {e : Int} {d : Dyadic} (h : Dn w (.agg #[.bool nb, v, .int .i64 e]) d) (r : Row w v xs) : d = num nb xs e := by
  obtain ⟨M, z, e', hv, ⟨ys, r2, nf, ev⟩, hc, rfl⟩ := h
  simp only [Value.agg.injEq, Array.mk.injEq, List.cons.injEq, Value.bool.injEq, Value.int.injEq, true_and, and_true] at hv
  obtain ⟨rfl, rfl, rfl⟩ := hv
  obtain rfl := r.uniq r2
  unfold Go.Proofs.YtimdglgianheiaaGreatDoor.num
  congr 1
  rw [ev, Int.toNat_natCast]
  exact (sg_of z).symm
def goodI (nb : Bool) (xs : List Int) (e : Int) (nb' : Bool) (xs' : List Int) (e' : Int) : Bool := goodB nb xs e && (goodB nb' xs' e' && decide (num nb xs e ≤ num nb' xs' e'))
theorem good_two {n1 n2 : Bool} {x1 x2 : List Int} {e1 e2 : Int} (h : goodAll 2 (pk n1 n2 n2) (pk x1 x2 x2) (pk e1 e2 e2) = true) : goodB n1 x1 e1 = true ∧ goodB n2 x2 e2 = true := by
  have := pk_all (goodAll_true h)
  exact ⟨this.1 (by omega), this.2.1 (by omega)⟩
theorem good_no {n1 n2 : Bool} {x1 x2 : List Int} {e1 e2 : Int} (h : goodAll 2 (pk n1 n2 n2) (pk x1 x2 x2) (pk e1 e2 e2) = false) : goodI n1 x1 e1 n2 x2 e2 = false := by
  unfold goodI
  cases h1 : goodB n1 x1 e1
  · rfl
  · cases h2 : goodB n2 x2 e2
    · rfl
    · exfalso
      unfold goodAll at h
      have := of_decide_eq_false h
      apply this
      intro j hj
      obtain rfl | rfl : j = 0 ∨ j = 1 := by omega
      · exact h1
      · exact h2
/-- At g lie k enclosures, one behind the other. -/
structure ManyI (w : World) (g k : Nat) (nb : Nat → Bool) (v : Nat → Value) (xs : Nat → List Int) (e : Nat → Int) (nb' : Nat → Bool) (v' : Nat → Value) (xs' : Nat → List Int) (e' : Nat → Int) : Prop where
  c0 : ∀ j, j < k → w.cell? ⟨g, j * 6, none⟩ = some (.bool (nb j))
  c1 : ∀ j, j < k → w.cell? ⟨g, j * 6 + 1, none⟩ = some (v j)
  c2 : ∀ j, j < k → w.cell? ⟨g, j * 6 + 2, none⟩ = some (.int .i64 (e j))
  c3 : ∀ j, j < k → w.cell? ⟨g, j * 6 + 3, none⟩ = some (.bool (nb' j))
  c4 : ∀ j, j < k → w.cell? ⟨g, j * 6 + 4, none⟩ = some (v' j)
  c5 : ∀ j, j < k → w.cell? ⟨g, j * 6 + 5, none⟩ = some (.int .i64 (e' j))
  row : ∀ j, j < k → Row w (v j) (xs j)
  row' : ∀ j, j < k → Row w (v' j) (xs' j)
  int : ∀ j, j < k → -9223372036854775808 ≤ e j ∧ e j ≤ 9223372036854775807
  int' : ∀ j, j < k → -9223372036854775808 ≤ e' j ∧ e' j ≤ 9223372036854775807
theorem ManyI.ext {w w' : World} {g k : Nat} {nb : Nat → Bool} {v : Nat → Value} {xs : Nat → List Int} {e : Nat → Int} {nb' : Nat → Bool} {v' : Nat → Value} {xs' : Nat → List Int} {e' : Nat → Int} (h : ManyI w g k nb v xs e nb' v' xs' e') (E : Ext w w') : ManyI w' g k nb v xs e nb' v' xs' e' :=
  ⟨fun j hj => (E.cell (World.block_lt_of_cell? w _ (h.c0 j hj))).trans (h.c0 j hj), fun j hj => (E.cell (World.block_lt_of_cell? w _ (h.c1 j hj))).trans (h.c1 j hj), fun j hj => (E.cell (World.block_lt_of_cell? w _ (h.c2 j hj))).trans (h.c2 j hj),
   fun j hj => (E.cell (World.block_lt_of_cell? w _ (h.c3 j hj))).trans (h.c3 j hj), fun j hj => (E.cell (World.block_lt_of_cell? w _ (h.c4 j hj))).trans (h.c4 j hj), fun j hj => (E.cell (World.block_lt_of_cell? w _ (h.c5 j hj))).trans (h.c5 j hj),
   fun j hj => (h.row j hj).ext E, fun j hj => (h.row' j hj).ext E, h.int, h.int'⟩
/-- The six cells of one. -/
structure Six (w : World) (g o : Nat) (x y z x' y' z' : Value) : Prop where
  c0 : w.cell? ⟨g, o, none⟩ = some x
  c1 : w.cell? ⟨g, o + 1, none⟩ = some y
  c2 : w.cell? ⟨g, o + 2, none⟩ = some z
  c3 : w.cell? ⟨g, o + 3, none⟩ = some x'
  c4 : w.cell? ⟨g, o + 4, none⟩ = some y'
  c5 : w.cell? ⟨g, o + 5, none⟩ = some z'
theorem Six.ext {w w' : World} {g o : Nat} {x y z x' y' z' : Value} (h : Six w g o x y z x' y' z') (E : Ext w w') : Six w' g o x y z x' y' z' := by
  have hg : g < w.heap.size := World.block_lt_of_cell? w _ h.c0
  exact ⟨(E.cell hg).trans h.c0, (E.cell hg).trans h.c1, (E.cell hg).trans h.c2, (E.cell hg).trans h.c3, (E.cell hg).trans h.c4, (E.cell hg).trans h.c5⟩
theorem six6 {w : World} {g o : Nat} {x y z x' y' z' : Value} (h : Six w g o x y z x' y' z') : w.cell? ⟨g, o, none⟩ = some x ∧ w.cell? ⟨g, o + 1, none⟩ = some y ∧ w.cell? ⟨g, o + 2, none⟩ = some z ∧ w.cell? ⟨g, o + 3, none⟩ = some x' ∧ w.cell? ⟨g, o + 4, none⟩ = some y' ∧ w.cell? ⟨g, o + 5, none⟩ = some z' := ⟨h.c0, h.c1, h.c2, h.c3, h.c4, h.c5⟩
set_option maxRecDepth 4000 in
set_option maxHeartbeats 2000000 in
theorem good5_main (w : World) (g k cap : Nat) (nb : Nat → Bool) (v : Nat → Value) (xs : Nat → List Int) (e : Nat → Int) (nb' : Nat → Bool) (v' : Nat → Value) (xs' : Nat → List Int) (e' : Nat → Int) (hk : k ≤ 1000) (h : ManyI w g k nb v xs e nb' v' xs' e') (res : Bool)
    (hf : ∀ j, j < k → goodI (nb j) (xs j) (e j) (nb' j) (xs' j) (e' j) = false → res = false) (ht : (∀ j, j < k → goodI (nb j) (xs j) (e j) (nb' j) (xs' j) (e' j) = true) → res = true) :
    Calls Tryz.prog 7 #[.slice (some ⟨g, 0, none⟩) k cap] w (RetE w (.bool res)) := by
  have HM := Lib.hid h
  have HFA := Lib.hid hf
  have HTA := Lib.hid ht
  clear h hf ht
  go_enter Tryz.func7, Tryz.ntmps7
  go_wp2
  go_loopw [3] (fun i wr => ∃ j : Nat, j ≤ k ∧ i = .int .i64 (j : Int) ∧ Ext w wr ∧ Hid (∀ q, q < j → goodI (nb q) (xs q) (e q) (nb' q) (xs' q) (e' q) = true)) (fun i _ => (k - (intOf i)).toNat)
  case atStart => exact ⟨0, by omega, rfl, Ext.refl _, fun q hq => by omega⟩
  case round =>
    obtain ⟨j, hj, rfl, hE, hG⟩ := hrel
    by_cases hjk : j < k
    · have HM1 := Lib.hid (HM.out.ext hE)
      have B : Six wr g (j * 6) (.bool (nb j)) (v j) (.int .i64 (e j)) (.bool (nb' j)) (v' j) (.int .i64 (e' j)) := ⟨HM1.out.c0 j hjk, HM1.out.c1 j hjk, HM1.out.c2 j hjk, HM1.out.c3 j hjk, HM1.out.c4 j hjk, HM1.out.c5 j hjk⟩
      have HR := Lib.hid (HM1.out.row j hjk)
      have HR' := Lib.hid (HM1.out.row' j hjk)
      have HI := Lib.hid (HM1.out.int j hjk)
      have HI' := Lib.hid (HM1.out.int' j hjk)
      have HGJ : Hid (goodI (nb j) (xs j) (e j) (nb' j) (xs' j) (e' j) = false → res = false) := Lib.hid (HFA.out j hjk)
      have HGT : Hid (goodI (nb j) (xs j) (e j) (nb' j) (xs' j) (e' j) = true → ∀ q, q < j + 1 → goodI (nb q) (xs q) (e q) (nb' q) (xs' q) (e' q) = true) := Lib.hid (fun ht q hq => by
        rcases Nat.lt_or_ge q j with h | h
        · exact hG.out q h
        · obtain rfl : q = j := by omega
          exact ht)
      clear HM1
      generalize nb j = n1 at *
      generalize v j = v1 at *
      generalize xs j = x1 at *
      generalize e j = e1 at *
      generalize nb' j = n2 at *
      generalize v' j = v2 at *
      generalize xs' j = x2 at *
      generalize e' j = e2 at *
      obtain ⟨A1, c1, rfl, _, _, _⟩ := id HR.out
      obtain ⟨A2, c2, rfl, _, _, _⟩ := id HR'.out
      have HL := Lib.hid (fun (w' : World) (E : Ext wr w') => good_any _ _ 2 2 _ _ _ _ (by omega) (many2 w' 24 n1 n2 _ _ x1 x2 e1 e2 (HR.out.ext E) (HR'.out.ext E) HI.out HI'.out))
      obtain ⟨s0, s1, s2, s3, s4, s5⟩ := id B
      have hj1 : ((j : Int) < (k : Int)) := by omega
      cases hg : goodAll 2 (pk n1 n2 n2) (pk x1 x2 x2) (pk e1 e2 e2)
      · rw [hg] at HL
        have HF := Lib.hid (HGJ.out (good_no hg))
        clear HGJ HGT hg HR HR' HI HI' HFA HTA HM
        go_wp2
        refine wp_region_held_drew (S := (fun w' => w'.cell? ⟨g, j * 6, none⟩ = some (.bool n1) ∧ w'.cell? ⟨g, j * 6 + 1, none⟩ = some (.slice A1 x1.length c1) ∧ w'.cell? ⟨g, j * 6 + 2, none⟩ = some (.int .i64 e1) ∧ w'.cell? ⟨g, j * 6 + 3, none⟩ = some (.bool n2) ∧ w'.cell? ⟨g, j * 6 + 4, none⟩ = some (.slice A2 x2.length c2) ∧ w'.cell? ⟨g, j * 6 + 5, none⟩ = some (.int .i64 e2))) (by kernel_rfl) (six6 (B.ext (Ext.refl wr).drew)) (fun hHeld => ?_)
        refine wpAnyH_take (i := 0) (v := ?_) rfl (by kernel_rfl) (by kernel_rfl) (by kernel_rfl) (fun _ _ _ h => h) (Or.inl ⟨by rfl, ?_⟩) (by assumption) ?_
        rotate_left
        · (intro w hSw; (try dsimp only at hSw); go_simp); (try with_reducible rfl)
        simp only [List.getElem_toArray, List.getElem_cons_zero, Act.put, List.setIfInBounds_toArray, List.set_cons_zero, List.set_cons_succ]
        refine wpAnyH_take (i := 1) (v := ?_) rfl (by kernel_rfl) (by kernel_rfl) (by kernel_rfl) (fun _ _ _ h => h) (Or.inl ⟨by rfl, ?_⟩) (by assumption) ?_
        rotate_left
        · (intro w hSw; (try dsimp only at hSw); go_simp); (try with_reducible rfl)
        simp only [List.getElem_toArray, List.getElem_cons_zero, List.getElem_cons_succ, Act.put, List.setIfInBounds_toArray, List.set_cons_zero, List.set_cons_succ]
        refine wpAnyH_take (i := 2) (v := ?_) rfl (by kernel_rfl) (by kernel_rfl) (by kernel_rfl) (fun _ _ _ h => h) (Or.inl ⟨by rfl, ?_⟩) (by assumption) ?_
        rotate_left
        · (intro w hSw; (try dsimp only at hSw); go_simp); (try with_reducible rfl)
        simp only [List.getElem_toArray, List.getElem_cons_zero, List.getElem_cons_succ, Act.put, List.setIfInBounds_toArray, List.set_cons_zero, List.set_cons_succ]
        refine wpAnyH_take (i := 3) (v := ?_) rfl (by kernel_rfl) (by kernel_rfl) (by kernel_rfl) (fun _ _ _ h => h) (Or.inl ⟨by rfl, ?_⟩) (by assumption) ?_
        rotate_left
        · (intro w hSw; (try dsimp only at hSw); go_simp); (try with_reducible rfl)
        simp only [List.getElem_toArray, List.getElem_cons_zero, List.getElem_cons_succ, Act.put, List.setIfInBounds_toArray, List.set_cons_zero, List.set_cons_succ]
        refine wpAnyH_take (i := 4) (v := ?_) rfl (by kernel_rfl) (by kernel_rfl) (by kernel_rfl) (fun _ _ _ h => h) (Or.inl ⟨by rfl, ?_⟩) (by assumption) ?_
        rotate_left
        · (intro w hSw; (try dsimp only at hSw); go_simp); (try with_reducible rfl)
        simp only [List.getElem_toArray, List.getElem_cons_zero, List.getElem_cons_succ, Act.put, List.setIfInBounds_toArray, List.set_cons_zero, List.set_cons_succ]
        refine wpAnyH_take (i := 5) (v := ?_) rfl (by kernel_rfl) (by kernel_rfl) (by kernel_rfl) (fun _ _ _ h => h) (Or.inl ⟨by rfl, ?_⟩) (by assumption) ?_
        rotate_left
        · (intro w hSw; (try dsimp only at hSw); go_simp); (try with_reducible rfl)
        simp only [List.getElem_toArray, List.getElem_cons_zero, List.getElem_cons_succ, Act.put, List.setIfInBounds_toArray, List.set_cons_zero, List.set_cons_succ]
        refine wpAnyH_take (i := 6) (v := ?_) rfl (by kernel_rfl) (by kernel_rfl) (by kernel_rfl) (fun _ _ _ h => h) (Or.inl ⟨by rfl, ?_⟩) (by assumption) ?_
        rotate_left
        · (intro w hSw; (try dsimp only at hSw); go_simp); (try with_reducible rfl)
        simp only [List.getElem_toArray, List.getElem_cons_zero, List.getElem_cons_succ, Act.put, List.setIfInBounds_toArray, List.set_cons_zero, List.set_cons_succ]
        refine wpAnyH_take (i := 7) (v := ?_) rfl (by kernel_rfl) (by kernel_rfl) (by kernel_rfl) (fun _ _ _ h => h) (Or.inl ⟨by rfl, ?_⟩) (by assumption) ?_
        rotate_left
        · (intro w hSw; (try dsimp only at hSw); go_simp); (try with_reducible rfl)
        simp only [List.getElem_toArray, List.getElem_cons_zero, List.getElem_cons_succ, Act.put, List.setIfInBounds_toArray, List.set_cons_zero, List.set_cons_succ]
        refine wpAnyH_take (i := 8) (v := ?_) rfl (by kernel_rfl) (by kernel_rfl) (by kernel_rfl) (fun _ _ _ h => h) (Or.inl ⟨by rfl, ?_⟩) (by assumption) ?_
        rotate_left
        · (intro w hSw; (try dsimp only at hSw); go_simp); (try with_reducible rfl)
        simp only [List.getElem_toArray, List.getElem_cons_zero, List.getElem_cons_succ, Act.put, List.setIfInBounds_toArray, List.set_cons_zero, List.set_cons_succ]
        refine wpAnyH_take (i := 9) (v := ?_) rfl (by kernel_rfl) (by kernel_rfl) (by kernel_rfl) (fun _ _ _ h => h) (Or.inl ⟨by rfl, ?_⟩) (by assumption) ?_
        rotate_left
        · (intro w hSw; (try dsimp only at hSw); go_simp); (try with_reducible rfl)
        simp only [List.getElem_toArray, List.getElem_cons_zero, List.getElem_cons_succ, Act.put, List.setIfInBounds_toArray, List.set_cons_zero, List.set_cons_succ]
        refine wpAnyH_ready (rs := [10]) (by kernel_rfl) (by simp) ?_
        refine AllReadyH.cons rfl (fun K hK => ?_) AllReadyH.nil
        go_simp
        refine hK.out _ _ (six6 (B.ext ((Ext.refl wr).drew.alloc _))) (fun hHeld => ?_)
        clear hK K
        refine wpAnyH_ready (rs := [11]) (by kernel_rfl) (by simp) ?_
        refine AllReadyH.cons rfl (fun K hK => ?_) AllReadyH.nil
        go_simp
        refine (HL.out _ (Ext.refl wr).drew).mono ?_
        rintro _ u1 ⟨rfl, eu1⟩
        have F1 : Ext wr u1 := ((Ext.refl wr).drew.alloc _).trans eu1
        refine hK.out _ _ (six6 (B.ext F1)) (fun hHeld => ?_)
        clear hK K
        refine wpAnyH_take (i := 12) (v := ?_) rfl (by kernel_rfl) (by kernel_rfl) (by kernel_rfl) (fun _ _ _ h => h) (Or.inl ⟨by rfl, ?_⟩) (by assumption) ?_
        rotate_left
        · (intro w hSw; (try dsimp only at hSw); go_simp); (try with_reducible rfl)
        simp only [List.getElem_toArray, List.getElem_cons_zero, List.getElem_cons_succ, Act.put, List.setIfInBounds_toArray, List.set_cons_zero, List.set_cons_succ]
        refine wpAnyH_take (i := 13) (v := ?_) rfl (by kernel_rfl) (by kernel_rfl) (by kernel_rfl) (fun _ _ _ h => h) (Or.inl ⟨by rfl, ?_⟩) (by assumption) ?_
        rotate_left
        · (intro w hSw; (try dsimp only at hSw); go_simp); (try with_reducible rfl)
        simp only [List.getElem_toArray, List.getElem_cons_zero, List.getElem_cons_succ, Act.put, List.setIfInBounds_toArray, List.set_cons_zero, List.set_cons_succ]
        refine wpAnyH_take (i := 14) (v := undef) rfl (by kernel_rfl) (by kernel_rfl) (by kernel_rfl) (fun _ _ _ h => h) (Or.inr ⟨by rfl, rfl⟩) (by assumption) ?_
        simp only [List.getElem_toArray, List.getElem_cons_zero, List.getElem_cons_succ, Act.put, List.setIfInBounds_toArray, List.set_cons_zero, List.set_cons_succ]
        refine wpAnyH_take (i := 15) (v := undef) rfl (by kernel_rfl) (by kernel_rfl) (by kernel_rfl) (fun _ _ _ h => h) (Or.inr ⟨by rfl, rfl⟩) (by assumption) ?_
        simp only [List.getElem_toArray, List.getElem_cons_zero, List.getElem_cons_succ, Act.put, List.setIfInBounds_toArray, List.set_cons_zero, List.set_cons_succ]
        refine wpAnyH_take (i := 16) (v := undef) rfl (by kernel_rfl) (by kernel_rfl) (by kernel_rfl) (fun _ _ _ h => h) (Or.inr ⟨by rfl, rfl⟩) (by assumption) ?_
        simp only [List.getElem_toArray, List.getElem_cons_zero, List.getElem_cons_succ, Act.put, List.setIfInBounds_toArray, List.set_cons_zero, List.set_cons_succ]
        refine wpAnyH_take (i := 17) (v := undef) rfl (by kernel_rfl) (by kernel_rfl) (by kernel_rfl) (fun _ _ _ h => h) (Or.inr ⟨by rfl, rfl⟩) (by assumption) ?_
        simp only [List.getElem_toArray, List.getElem_cons_zero, List.getElem_cons_succ, Act.put, List.setIfInBounds_toArray, List.set_cons_zero, List.set_cons_succ]
        refine wpAnyH_take (i := 18) (v := undef) rfl (by kernel_rfl) (by kernel_rfl) (by kernel_rfl) (fun _ _ _ h => h) (Or.inr ⟨by rfl, rfl⟩) (by assumption) ?_
        simp only [List.getElem_toArray, List.getElem_cons_zero, List.getElem_cons_succ, Act.put, List.setIfInBounds_toArray, List.set_cons_zero, List.set_cons_succ]
        refine wpAnyH_take (i := 19) (v := undef) rfl (by kernel_rfl) (by kernel_rfl) (by kernel_rfl) (fun _ _ _ h => h) (Or.inr ⟨by rfl, rfl⟩) (by assumption) ?_
        simp only [List.getElem_toArray, List.getElem_cons_zero, List.getElem_cons_succ, Act.put, List.setIfInBounds_toArray, List.set_cons_zero, List.set_cons_succ]
        refine wpAnyH_take (i := 20) (v := undef) rfl (by kernel_rfl) (by kernel_rfl) (by kernel_rfl) (fun _ _ _ h => h) (Or.inr ⟨by rfl, rfl⟩) (by assumption) ?_
        simp only [List.getElem_toArray, List.getElem_cons_zero, List.getElem_cons_succ, Act.put, List.setIfInBounds_toArray, List.set_cons_zero, List.set_cons_succ]
        refine wpAnyH_take (i := 21) (v := undef) rfl (by kernel_rfl) (by kernel_rfl) (by kernel_rfl) (fun _ _ _ h => h) (Or.inr ⟨by rfl, rfl⟩) (by assumption) ?_
        simp only [List.getElem_toArray, List.getElem_cons_zero, List.getElem_cons_succ, Act.put, List.setIfInBounds_toArray, List.set_cons_zero, List.set_cons_succ]
        refine wpAnyH_take (i := 22) (v := undef) rfl (by kernel_rfl) (by kernel_rfl) (by kernel_rfl) (fun _ _ _ h => h) (Or.inr ⟨by rfl, rfl⟩) (by assumption) ?_
        simp only [List.getElem_toArray, List.getElem_cons_zero, List.getElem_cons_succ, Act.put, List.setIfInBounds_toArray, List.set_cons_zero, List.set_cons_succ]
        refine wpAnyH_take (i := 23) (v := undef) rfl (by kernel_rfl) (by kernel_rfl) (by kernel_rfl) (fun _ _ _ h => h) (Or.inr ⟨by rfl, rfl⟩) (by assumption) ?_
        simp only [List.getElem_toArray, List.getElem_cons_zero, List.getElem_cons_succ, Act.put, List.setIfInBounds_toArray, List.set_cons_zero, List.set_cons_succ]
        refine wpAnyH_take (i := 24) (v := undef) rfl (by kernel_rfl) (by kernel_rfl) (by kernel_rfl) (fun _ _ _ h => h) (Or.inr ⟨by rfl, rfl⟩) (by assumption) ?_
        simp only [List.getElem_toArray, List.getElem_cons_zero, List.getElem_cons_succ, Act.put, List.setIfInBounds_toArray, List.set_cons_zero, List.set_cons_succ]
        refine wpAnyH_take (i := 25) (v := undef) rfl (by kernel_rfl) (by kernel_rfl) (by kernel_rfl) (fun _ _ _ h => h) (Or.inr ⟨by rfl, rfl⟩) (by assumption) ?_
        simp only [List.getElem_toArray, List.getElem_cons_zero, List.getElem_cons_succ, Act.put, List.setIfInBounds_toArray, List.set_cons_zero, List.set_cons_succ]
        refine wpAnyH_take (i := 26) (v := ?_) rfl (by kernel_rfl) (by kernel_rfl) (by kernel_rfl) (fun _ _ _ h => h) (Or.inl ⟨by rfl, ?_⟩) (by assumption) ?_
        rotate_left
        · (intro w hSw; (try dsimp only at hSw); go_simp); (try with_reducible rfl)
        simp only [List.getElem_toArray, List.getElem_cons_zero, List.getElem_cons_succ, Act.put, List.setIfInBounds_toArray, List.set_cons_zero, List.set_cons_succ]
        refine wpAnyH_done (by kernel_rfl) ?_ _
        go_wp2
        go_ret
        exact ⟨by rw [HF.out]; rfl, hE.trans F1⟩
      · rw [hg] at HL
        obtain ⟨hg1, hg2⟩ := good_two hg
        obtain ⟨z1, m1, _, _, _, _, r1⟩ := good_num HR.out hg1
        obtain ⟨z2, m2, _, _, _, _, r2⟩ := good_num HR'.out hg2
        obtain ⟨t, ht⟩ : ∃ t, cmpD (dy z1 e1) (dy z2 e2) = t := ⟨_, rfl⟩
        have HC := Lib.hid (fun (w' : World) (E : Ext wr w') => ht ▸ rcmpD_any w' _ _ (dy z1 e1) (dy z2 e2) 200 392 (m1.ext E) (m2.ext E) r1 r2 (by omega))
        have q1 := m1.num HR.out
        have q2 := m2.num HR'.out
        have hle := cmp_le (dy z1 e1) (dy z2 e2)
        rw [ht, q1, q2] at hle
        have HGI : Hid (goodI n1 x1 e1 n2 x2 e2 = decide (t ≤ 0)) := Lib.hid (by unfold goodI; rw [hg1, hg2, Bool.true_and, Bool.true_and]; exact decide_eq_decide.2 hle.symm)
        clear hle q1 q2 m1 m2 ht hg hg1 hg2 HR HR' HI HI' HFA HTA HM r1 r2
        go_wp2
        go_region_held3 (fun w' => w'.cell? ⟨g, j * 6, none⟩ = some (.bool n1) ∧ w'.cell? ⟨g, j * 6 + 1, none⟩ = some (.slice A1 x1.length c1) ∧ w'.cell? ⟨g, j * 6 + 2, none⟩ = some (.int .i64 e1) ∧ w'.cell? ⟨g, j * 6 + 3, none⟩ = some (.bool n2) ∧ w'.cell? ⟨g, j * 6 + 4, none⟩ = some (.slice A2 x2.length c2) ∧ w'.cell? ⟨g, j * 6 + 5, none⟩ = some (.int .i64 e2)) (first | (with_reducible exact six6 (B.ext F2)) | (with_reducible exact six6 (B.ext F1)) | (with_reducible exact six6 (B.ext ((Ext.refl wr).drew.alloc _))) | go_keep) (first | ((have hF := F1); (go_at_call 35); (refine (HC.out _ F1).mono ?_); (rintro _ u2 ⟨rfl, eu2⟩); (have F2 : Ext wr u2 := F1.trans eu2)) | ((go_at_call 8); (refine (HL.out _ (Ext.refl wr).drew).mono ?_); (rintro _ u1 ⟨rfl, eu1⟩); (have F1 : Ext wr u1 := ((Ext.refl wr).drew.alloc _).trans eu1)))
        by_cases ht : t ≤ 0
        · have HF := Lib.hid (HGT.out (HGI.out.trans (decide_eq_true ht)))
          clear HGJ HGT HGI
          have ht2 : ¬ 0 < t := by omega
          go_wp2
          go_roundw
          case rel => exact ⟨j + 1, by omega, by go_num, hE.trans F2, HF.out⟩
          case measure => simp [intOf]; omega
        · have HF := Lib.hid (HGJ.out (HGI.out.trans (decide_eq_false ht)))
          clear HGJ HGT HGI
          have ht2 : 0 < t := by omega
          go_wp2
          go_ret
          exact ⟨by rw [HF.out]; rfl, hE.trans F2⟩
    · have hjk' : j = k := by omega
      have HF : Hid (res = true) := Lib.hid (HTA.out (by rw [← hjk']; exact hG.out))
      go_wp2
      go_ret
      exact ⟨by rw [HF.out]; rfl, hE⟩
end Go.Proofs.YtimdglgianheiaaGreatDoor
