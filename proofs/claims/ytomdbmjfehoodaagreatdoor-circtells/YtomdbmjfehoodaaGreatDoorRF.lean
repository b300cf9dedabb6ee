/- Range over a function: the round, the start, the end; worlds with the same cells. -/
import Derived.Test.YtomdbmjfehoodaaGreatDoorMQ
import Derived.RangeFuncOwn
import Derived.RangeFuncCalls
import Derived.RangeFuncLeaves
import Derived.LoopNIn
import Derived.TacticsIn
import Derived.RegionIn
import Derived.Laws.EntriesVeiled
set_option maxRecDepth 8000
namespace Go.Proofs.YtomdbmjfehoodaaGreatDoor
open Go.RowKit
attribute [local go_sem] Oper.semAt_some
theorem rg_dmin {P Q : Nat} {x y : Dyadic} (h : Rg P Q x) (k : Rg P Q y) : Rg P Q (dmin x y) := by unfold dmin; split <;> assumption
theorem rg_dmax {P Q : Nat} {x y : Dyadic} (h : Rg P Q x) (k : Rg P Q y) : Rg P Q (dmax x y) := by unfold dmax; split <;> assumption
theorem set3_lo {w : World} {g : Nat} {x y z x' y' z' a b c : Value} (B : Bx w g a b c x' y' z') : Bx (((w.setCell ⟨g, 0, none⟩ x).setCell ⟨g, 1, none⟩ y).setCell ⟨g, 2, none⟩ z) g x y z x' y' z' := by
  have o : ∀ (W : World) (i j : Nat) (v : Value), i ≠ j → (W.setCell ⟨g, i, none⟩ v).cell? ⟨g, j, none⟩ = W.cell? ⟨g, j, none⟩ := fun W i j v hij => World.cell?_setCell_other _ _ _ _ (fun h => hij (by injection h))
  refine ⟨?_, ?_, ?_, ?_, ?_, ?_⟩
  · rw [o _ 2 0 _ (by omega), o _ 1 0 _ (by omega)]; exact World.cell?_setCell_same _ _ _ B.c0
  · rw [o _ 2 1 _ (by omega)]; exact World.cell?_setCell_same _ _ _ (by rw [o _ 0 1 _ (by omega)]; exact B.c1)
  · exact World.cell?_setCell_same _ _ _ (by rw [o _ 1 2 _ (by omega), o _ 0 2 _ (by omega)]; exact B.c2)
  · rw [o _ 2 3 _ (by omega), o _ 1 3 _ (by omega), o _ 0 3 _ (by omega)]; exact B.c3
  · rw [o _ 2 4 _ (by omega), o _ 1 4 _ (by omega), o _ 0 4 _ (by omega)]; exact B.c4
  · rw [o _ 2 5 _ (by omega), o _ 1 5 _ (by omega), o _ 0 5 _ (by omega)]; exact B.c5
theorem set3_hi {w : World} {g : Nat} {x y z x' y' z' a b c : Value} (B : Bx w g x y z a b c) : Bx (((w.setCell ⟨g, 3, none⟩ x').setCell ⟨g, 4, none⟩ y').setCell ⟨g, 5, none⟩ z') g x y z x' y' z' := by
  have o : ∀ (W : World) (i j : Nat) (v : Value), i ≠ j → (W.setCell ⟨g, i, none⟩ v).cell? ⟨g, j, none⟩ = W.cell? ⟨g, j, none⟩ := fun W i j v hij => World.cell?_setCell_other _ _ _ _ (fun h => hij (by injection h))
  refine ⟨?_, ?_, ?_, ?_, ?_, ?_⟩
  · rw [o _ 5 0 _ (by omega), o _ 4 0 _ (by omega), o _ 3 0 _ (by omega)]; exact B.c0
  · rw [o _ 5 1 _ (by omega), o _ 4 1 _ (by omega), o _ 3 1 _ (by omega)]; exact B.c1
  · rw [o _ 5 2 _ (by omega), o _ 4 2 _ (by omega), o _ 3 2 _ (by omega)]; exact B.c2
  · rw [o _ 5 3 _ (by omega), o _ 4 3 _ (by omega)]; exact World.cell?_setCell_same _ _ _ B.c3
  · rw [o _ 5 4 _ (by omega)]; exact World.cell?_setCell_same _ _ _ (by rw [o _ 3 4 _ (by omega)]; exact B.c4)
  · exact World.cell?_setCell_same _ _ _ (by rw [o _ 4 5 _ (by omega), o _ 3 5 _ (by omega)]; exact B.c5)
/-- What cells W has, W' has. -/
structure Sub (w w' : World) : Prop where
  size : w.heap.size ≤ w'.heap.size
  cell : ∀ p v, w.cell? p = some v → w'.cell? p = some v
  frozen : ∀ p v, w.cell? p = some v → w'.frozen? p = w.frozen? p
theorem Dn.sub {w w' : World} {v : Value} {d : Dyadic} (h : Dn w v d) (s : Sub w w') : Dn w' v d := by
  obtain ⟨M, z, e, rfl, ⟨xs, ⟨A, c, rfl, h1, h2, h3⟩, nf, ev⟩, k2, k3⟩ := h
  refine ⟨_, z, e, rfl, ⟨xs, ⟨A, c, rfl, h1, h2, fun hl => ?_⟩, nf, ev⟩, k2, k3⟩
  obtain ⟨b, off, rfl, hb, hc⟩ := h3 hl
  exact ⟨b, off, rfl, Nat.lt_of_lt_of_le hb s.size, fun j hj => s.cell _ _ (hc j hj)⟩
theorem sub_put {w : World} {l : Nat} {o o' : Obj} (h : w.heap[l]? = some o) (hc : o.isCells = false) : Sub w (w.putObj l o') := by
  have ne : ∀ (p : Addr) v, w.cell? p = some v → p.block ≠ l := fun p v hp e => by
    obtain ⟨o2, h2, h3⟩ := cells_of_cell hp
    rw [e, h] at h2
    injection h2 with h2
    subst h2
    rw [hc] at h3; cases h3
  exact ⟨by simp, fun p v hp => (World.cell?_of_block (World.putObj_heap_other (ne p v hp))).trans hp, fun p v hp => World.frozen?_of_block (World.putObj_heap_other (ne p v hp))⟩
theorem put_ext {w W : World} {l : Nat} {o : Obj} (h : Ext w W) (hl : w.heap.size ≤ l) : Ext w (W.putObj l o) := ⟨h.os, h.tape, h.output, by simpa using h.size, fun k hk => (World.putObj_heap_other (by omega)).trans (h.block k hk)⟩
theorem one_at {w w' : World} {v : Value} {t : TypeId} {g : Nat} (E : Ext (w.alloc (.cells #[v] t)) w') (hg : w.heap.size = g) : w'.cell? ⟨g, 0, none⟩ = some v ∧ w'.frozen? ⟨g, 0, none⟩ = false := by
  subst hg
  exact ⟨(E.cell (p := ⟨w.heap.size, 0, none⟩) (by simp)).trans (by rw [World.cell?_alloc_new]; rfl), (E.frozen (p := ⟨w.heap.size, 0, none⟩) (by simp)).trans (by simp)⟩
/-- A loop's record, as it turns. -/
structure Recs (rec : LoopState → Loop) (fn : FuncId) (tmps : Array Value) (t : Tmp) (assign body : Code) (df : Nat) : Prop where
  is : ∀ st, rec st = { state := st, pending := none, fn := fn, tmps := tmps, params := #[t], assign := assign, body := body, defers := df }
theorem range_start {n : Nat} {P : Program} {g : Operand} {t : Tmp} {assign body : Code} {Q : Exit → Act → World → Prop} {a : Act} {w : World} {gf : Nat} {lb : Array Value} (h1 : 1 ≤ n)
    (hg : a.eval g = .func (.func gf) #[] lb) (eg : ∀ args w, (callFunc gf args).run P w = .ok (.enter gf args) w)
    (h : ∀ (fn : FuncId) (rec : LoopState → Loop), Recs rec fn a.tmps t assign body w.heap.size →
      CallsIn Fence.wide (n - 1) P gf (#[.func (.yield (w.heap.size + 1)) #[] #[]] ++ lb) ((w.alloc (.deferred (some []))).alloc (.loop (rec .ready)))
        (fun e W => (∃ v, e = .returned v) ∧ W.heap[w.heap.size + 1]? = some (.loop (rec .ready)) ∧ Q .normal { a with defers := { target := .collected w.heap.size, args := #[] } :: a.defers } (W.putObj (w.heap.size + 1) (.loop (rec .exhausted))))) :
    (Code.rangeFunc g #[t] assign body).wpIn Fence.wide n P Q a w := by
  refine wpIn_rangeFunc ?_
  intro fn hfn
  obtain ⟨rec, hrec⟩ : ∃ rec : LoopState → Loop, rec = fun st => { state := st, pending := none, fn := fn, tmps := a.tmps, params := #[t], assign := assign, body := body, defers := w.heap.size } := ⟨_, rfl⟩
  have H := h fn rec ⟨fun st => by rw [hrec]⟩
  refine ⟨w.heap.size + 1, [{ target := .collected w.heap.size, args := #[] }], (w.alloc (.deferred (some []))).alloc (.loop (rec .ready)), { target := .fn (.func gf) lb, args := #[.func (.yield (w.heap.size + 1)) #[] #[]] }, (w.alloc (.deferred (some []))).alloc (.loop (rec .ready)), gf,
    #[.func (.yield (w.heap.size + 1)) #[] #[]] ++ lb, (w.alloc (.deferred (some []))).alloc (.loop (rec .ready)), ?_, ?_, fun _ _ => trivial, ?_, fun _ => h1, ?_⟩
  · rw [hrec]; exact run_enterLoop_outer _ _ _ _ _
  · simp only [resolve, hg]
    simp [go_sem]
  · simp [invoke, go_sem, eg]
  · refine H.mono ?_
    rintro e W ⟨⟨v, rfl⟩, hl, hq⟩
    refine ⟨none, _, ?_, hq⟩
    have := run_endLoop (P := P) hl (by rw [hrec]; simp)
    rw [hrec] at this ⊢
    exact this
def endNormal (R : World → Prop) : Exit → Act → World → Prop
  | .normal, _, w => R w
  | _, _, _ => False
theorem round_of {m : Nat} {P : Program} {l : Nat} {rec : LoopState → Loop} {fn : FuncId} {tmps : Array Value} {t : Tmp} {assign body : Code} {df : Nat} {v : Value} {W : World} {R : Ending → World → Prop} (hr : Recs rec fn tmps t assign body df) (hl : W.heap[l]? = some (.loop (rec .ready)))
    (h : assign.wpIn (Fence.wide.inRound l) m P (Exit.then (fun a1 W1 => W1.heap[l]? = some (.loop (rec .ready)) ∧
        body.wpIn (Fence.wide.inRound l) m P (endNormal fun W3 => W3.heap[l]? = some (.loop (rec .busy)) ∧ R (.returned (.bool true)) (W3.putObj l (.loop (rec .ready)))) a1 (W1.putObj l (.loop (rec .busy)))) (fun _ _ _ => False))
      { tmps := tmps.setIfInBounds t v, defers := [] } W) :
    YieldAt Fence.wide m P l #[v] W R := by
  have hy : (Instr.yield l #[v]).run P W = .ok (.round l fn (tmps.setIfInBounds t v) assign body) W := by
    have := run_yield (P := P) (args := #[v]) hl (by rw [hr.is]; rfl)
    rw [hr.is] at this
    simpa using this
  refine ⟨fn, _, assign, body, hy, roundIn_of_wpIn trivial ?_⟩
  refine wpIn_mono (show assign.wpIn (Fence.wide.inRound l) m P _ _ W from h) ?_
  rintro e a1 W1 hq
  cases e with
  | normal =>
    obtain ⟨hl1, hb⟩ := hq
    refine ⟨_, run_beginRound hl1 (by rw [hr.is]), ?_⟩
    have e1 : ({ rec .ready with state := .busy } : Loop) = rec .busy := by rw [hr.is, hr.is]
    rw [e1]
    refine wpIn_mono hb ?_
    rintro e a3 W3 hq
    cases e with
    | normal =>
      obtain ⟨hl3, hR⟩ := hq
      have he := run_endRound (P := P) none hl3
      have e2 : ({ rec .busy with state := if (none : Option Code).isNone then .ready else .done, pending := none } : Loop) = rec .ready := by rw [hr.is, hr.is]; rfl
      rw [e2] at he
      exact ⟨_, _, he, hR⟩
    | exit id => exact hq.elim
    | goto l => exact hq.elim
    | ret => exact hq.elim
    | panic c => exact hq.elim
    | outgrown => exact hq.elim
  | exit id => exact hq.elim
  | goto l => exact hq.elim
  | ret => exact hq.elim
  | panic c => exact hq.elim
  | outgrown => exact hq.elim
end Go.Proofs.YtomdbmjfehoodaaGreatDoor
