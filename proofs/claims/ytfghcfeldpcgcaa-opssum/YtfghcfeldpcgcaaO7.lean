/- Rows of doubles that a call makes: 'append'. -/
import Derived.Test.YtfghcfeldpcgcaaO5
namespace Go.Proofs.Ytfghcfeldpcgcaa
open Go.RowKit
set_option linter.unusedVariables false

theorem RowF.nil (w : World) (A : Option Addr) (c : Nat) (hc : c ≤ maxLen) : RowF w (.slice A 0 c) [] := ⟨A, c, rfl, Nat.zero_le _, hc, fun h => by simp at h⟩
theorem info_float : (Try.prog.info? 22).map (fun i => (i.zero, i.size, i.bytes)) = some (some (.float .f64 0), 1, 8) := by kernel_rfl
/-- The slice value v lies in a block from base on, which nobody else has; it reads as xs. -/
def OwnF (w : World) (base : Nat) (v : Value) (xs : List Nat) : Prop := w.ownsRow base 22 1 v xs.length (xs.map (Value.float .f64))
theorem OwnF.nil (w : World) (base : Nat) : OwnF w base (.slice none 0 0) [] := World.ownsRow_nil w base _ _
theorem OwnF.row {w : World} {base : Nat} {v : Value} {xs : List Nat} (h : OwnF w base v xs) : RowF w v xs := by
  obtain ⟨h1, h2⟩ := h
  rcases h2 with ⟨rfl, h0⟩ | ⟨g, cap, cur, rfl, hb, hg, hn, hm, hs, ht⟩
  · have : xs = [] := List.eq_nil_of_length_eq_zero h0
    subst this
    exact RowF.nil w none 0 (by simp [maxLen])
  · refine ⟨_, cap, rfl, hn, hm, fun _ => ⟨g, 0, rfl, (Array.getElem?_eq_some_iff.1 hg).1, fun j hj => ?_⟩⟩
    rw [Nat.zero_add, cell_of_row w g j cur _ (0, 0) hg]
    have e : (cur.toList.take (xs.length * 1))[j]? = some (Value.float .f64 (nthF xs j)) := by
      rw [ht, List.getElem?_map, List.getElem?_eq_getElem hj, nthF_eq hj]; rfl
    rw [List.getElem?_take, if_pos (by omega)] at e
    simpa using e
theorem OwnF.lt {w : World} {base : Nat} {v : Value} {xs : List Nat} (h : OwnF w base v xs) : ∀ k, v.ownBlock = some k → base ≤ k ∧ k < w.heap.size := World.ownsRow.lt h
theorem OwnF.ext {w w' : World} {base : Nat} {v : Value} {xs : List Nat} (h : OwnF w base v xs) (k : Ext w w') : OwnF w' base v xs :=
  World.ownsRow.kept h (row := none) ⟨k.os, k.tape, k.output, k.size, fun i hi _ => k.block i hi⟩ (by cases v.ownBlock <;> simp)
theorem OwnF.alloc {w : World} {base : Nat} {v : Value} {xs : List Nat} (h : OwnF w base v xs) (o : Obj) : OwnF (w.alloc o) base v xs := h.ext ((Ext.refl w).alloc o)
theorem OwnF.drewN {w : World} {base : Nat} {v : Value} {xs : List Nat} (h : OwnF w base v xs) (n : Nat) : OwnF (w.drewN n) base v xs := h
theorem OwnF.empty (w : World) (base : Nat) (hb : base ≤ w.heap.size) : OwnF (w.alloc (.cells #[] 22)) base (.slice (some ⟨w.heap.size, 0, none⟩) 0 0) [] :=
  World.ownsRow_made w #[] 0 hb (by simp [maxLen]) rfl
theorem Ext.appF {a b c : World} {base : Nat} {v : Value} {xs : List Nat} (h : Ext a b) (ho : OwnF b base v xs) (hb : a.heap.size ≤ base) (hg : b.grownBy c v.ownBlock) : Ext a c :=
  h.grown hg (fun k hk => Nat.le_trans hb (ho.lt k hk).1)
/-- 'append(out, src...)', out the call's own. -/
theorem app_runF (w : World) (ty : TypeId) (base : Nat) (v : Value) (xs : List Nat) (vs : Value) (ys : List Nat) (ho : OwnF w base v xs) (hr : RowF w vs ys) (hb : base ≤ w.heap.size) (hlen : xs.length + ys.length ≤ 1000000) :
    ∃ v' w', (Builtin.append_ #[42, 42] ty #[v, vs]).run Try.prog w = .ok v' w' ∧ OwnF w' base v' (xs ++ ys) ∧ w.grownBy w' v.ownBlock := by
  obtain ⟨i0, hi, hz0, hz1, hz2⟩ := info_parts info_float
  obtain ⟨A, c, rfl, h1, h2, h3⟩ := hr
  have hgen : ∀ ad : Addr, (∀ j u, (ys.map (Value.float .f64))[j]? = some u → w.cell? (ad.add j) = some u) → ∃ v' w', (Builtin.append_ #[42, 42] ty #[v, .slice (some ad) ys.length c]).run Try.prog w = .ok v' w' ∧ OwnF w' base v' (xs ++ ys) ∧ w.grownBy w' v.ownBlock := fun ad hc => by
    obtain ⟨v', w', k1, k2, k3, _⟩ := run_append_own (P := Try.prog) w base 42 ty 22 i0 (.float .f64 0) 1 8 Try.underlying42 hi hz0 hz1 hz2 rfl (by decide) v xs.length (xs.map (Value.float .f64)) ho ad ys.length c (ys.map (Value.float .f64)) (by simp) hc
      (fun u hu => by obtain ⟨z, _, rfl⟩ := List.mem_map.1 hu; rfl) (by unfold maxLen; omega) (by omega) hb
    exact ⟨v', w', k1, by unfold OwnF; simpa using k2, k3⟩
  rcases A with _ | ad
  · have h0 : ys = [] := by
      rcases ys with _ | ⟨y, ys⟩
      · rfl
      · obtain ⟨b, off, hA, _⟩ := h3 (by simp)
        cases hA
    subst h0
    refine ⟨v, w, ?_, by simpa using ho, ⟨rfl, rfl, rfl, Nat.le_refl _, fun _ _ _ => rfl⟩⟩
    rcases ho.2 with ⟨rfl, _⟩ | ⟨g, cap, cur, rfl, _, _, hnc, _⟩
    · simp [Builtin.append_, run_underlying Try.underlying42, sizeOf, typeInfo, hi, Builtin.lenOf, Builtin.firstCells]
    · simp [Builtin.append_, run_underlying Try.underlying42, sizeOf, typeInfo, hi, Builtin.lenOf, Builtin.firstCells, hnc, storeCells]
  · refine hgen ad (fun j u hu => ?_)
    have hj : j < ys.length := by
      rcases Nat.lt_or_ge j ys.length with h | h
      · exact h
      · rw [List.getElem?_eq_none (by simpa using h)] at hu; cases hu
    obtain ⟨b, off, hA, hb, hc⟩ := h3 (by omega)
    injection hA with hA
    subst hA
    rw [Addr.add_lit, hc j hj, nthF_eq hj]
    rw [List.getElem?_map, List.getElem?_eq_getElem hj] at hu
    simpa using hu
theorem wpList_appF (w : World) {ops : Array Oper} {rest : List Oper} {o : Oper} {a : Act} {Q : Exit → Act → World → Prop} (hgd : o.guard = none) (s x : Operand)
    (hop : o.op = .call { callee := .builtin .append, args := #[s, x], argTypes := #[42, 42] })
    (base : Nat) (v : Value) (xs : List Nat) (vs : Value) (ys : List Nat) (hs : a.eval s = v) (hx : a.eval x = vs) (ho : OwnF w base v xs) (hr : RowF w vs ys) (hb : base ≤ w.heap.size) (hlen : xs.length + ys.length ≤ 1000000)
    (h : ∀ v' w', OwnF w' base v' (xs ++ ys) → w.grownBy w' v.ownBlock → wpList Try.prog ops Q rest (a.put o.dst v') w') : wpList Try.prog ops Q (o :: rest) a w := by
  obtain ⟨v', w', hrun, h2, h3⟩ := app_runF w o.type base v xs vs ys ho hr hb hlen
  refine wpList_plain hgd fun K hK => ?_
  unfold Oper.wp execOp
  simp only [hop, resolve, invoke, builtin, Sem.run_bind, Sem.run_pure, Result.andThen_ok, List.map_toArray, List.map_cons, List.map_nil, hs, hx, hrun]
  exact hK _ _ (h v' w' h2 h3)
/-- A row of one, laid in a new block. -/
theorem row_oneF (w : World) (x : Nat) (t : TypeId) : RowF (w.alloc (.cells #[.float .f64 x] t)) (.slice (some ⟨w.heap.size, 0, none⟩) 1 1) [x] := by
  refine ⟨_, _, rfl, Nat.le_refl _, by simp [maxLen], fun _ => ⟨w.heap.size, 0, rfl, by simp, fun j hj => ?_⟩⟩
  have : j = 0 := by simpa using hj
  subst this
  rw [World.cell?_alloc_new]; rfl

end Go.Proofs.Ytfghcfeldpcgcaa
