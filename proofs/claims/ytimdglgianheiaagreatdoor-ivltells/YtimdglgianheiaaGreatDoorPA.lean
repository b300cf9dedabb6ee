/- Walks of package ivl: hull. -/
import Derived.Test.YtimdglgianheiaaGreatDoorP9
import Derived.Laws.EntriesVeiled
namespace Go.Proofs.YtimdglgianheiaaGreatDoor
open Go.RowKit
attribute [local go_sem] Oper.semAt_some
/-- What cells W has, W' has. -/
structure Sub (w w' : World) : Prop where
  size : w.heap.size ≤ w'.heap.size
  cell : ∀ p v, w.cell? p = some v → w'.cell? p = some v
  frozen : ∀ p v, w.cell? p = some v → w'.frozen? p = w.frozen? p
theorem Dn.sub {w w' : World} {v : Value} {d : Dyadic} (h : Dn w v d) (s : Sub w w') : Dn w' v d := by
  obtain ⟨M, z, e, rfl, ⟨xs, ⟨A, c, rfl, h1, h2, h3⟩, nf, ev⟩, k2, k3⟩ := h
  refine ⟨_, z, e, rfl, ⟨xs, ⟨A, c, rfl, h1, h2, fun hl => ?_⟩, nf, ev⟩, k2, k3⟩
  obtain ⟨b, off, rfl, hb, hc⟩ := h3 hl
  exact ⟨b, off, rfl, Nat.lt_of_lt_of_le hb s.size, fun j hj => s.cell _ _ (hc j hj)⟩
theorem Hd.sub {w w' : World} {a b : Nat} {lo hi : Dyadic} (h : Hd w a b lo hi) (s : Sub w w') (hf : ∀ j, w'.frozen? ⟨a, j, none⟩ = w.frozen? ⟨a, j, none⟩) : Hd w' a b lo hi := by
  obtain ⟨⟨b1, A1, n1, c1, e1, b2, A2, n2, c2, e2, B, d1, d2, k1, k2, f⟩, hy, hz⟩ := h
  exact ⟨⟨b1, A1, n1, c1, e1, b2, A2, n2, c2, e2, ⟨s.cell _ _ B.c0, s.cell _ _ B.c1, s.cell _ _ B.c2, s.cell _ _ B.c3, s.cell _ _ B.c4, s.cell _ _ B.c5⟩, d1.sub s, d2.sub s, k1, k2, fun j => (hf j).trans (f j)⟩, s.cell _ _ hy, (s.frozen _ _ hy).trans hz⟩
theorem sub_put {w : World} {l : Nat} {o o' : Obj} (h : w.heap[l]? = some o) (hc : o.isCells = false) : Sub w (w.putObj l o') := by
  have ne : ∀ (p : Addr) v, w.cell? p = some v → p.block ≠ l := fun p v hp e => by
    obtain ⟨o2, h2, h3⟩ := cells_of_cell hp
    rw [e, h] at h2
    injection h2 with h2
    subst h2
    rw [hc] at h3; cases h3
  exact ⟨by simp, fun p v hp => (World.cell?_of_block (World.putObj_heap_other (ne p v hp))).trans hp, fun p v hp => World.frozen?_of_block (World.putObj_heap_other (ne p v hp))⟩
theorem Zi.go {w w' : World} {g : Nat} (h : Zi w g) (e : w'.heap[g]? = w.heap[g]?) : Zi w' g :=
  ⟨(World.cell?_of_block e).trans h.c0, (World.cell?_of_block e).trans h.c1, (World.cell?_of_block e).trans h.c2, (World.cell?_of_block e).trans h.c3, (World.cell?_of_block e).trans h.c4, (World.cell?_of_block e).trans h.c5,
    fun j x k => h.z j x ((World.cell?_of_block (a := ⟨g, j, none⟩) e).symm.trans k), fun j => (World.frozen?_of_block (a := ⟨g, j, none⟩) e).trans (h.f j)⟩
/-- Between two rounds. -/
structure Mid (w W : World) (rec : LoopState → Loop) (st : LoopState) (p0 p1 p2 p3 : Dyadic) (i : Nat) : Prop where
  ext : Ext w W
  size : w.heap.size + 6 ≤ W.heap.size
  res : Zi W w.heap.size
  fn : W.cell? ⟨w.heap.size + 1 + 1 + 1, 0, none⟩ = some (.func (.func 78) #[] #[.pointer (some ⟨w.heap.size + 1 + 1, 0, none⟩), .pointer (some ⟨w.heap.size + 1, 0, none⟩)])
  df : W.heap[w.heap.size + 1 + 1 + 1 + 1]? = some (.deferred (some []))
  rc : W.heap[w.heap.size + 1 + 1 + 1 + 1 + 1]? = some (.loop (rec st))
  nil0 : i = 0 → Zi W (w.heap.size + 1) ∧ W.cell? ⟨w.heap.size + 1 + 1, 0, none⟩ = some (.bool false) ∧ W.frozen? ⟨w.heap.size + 1 + 1, 0, none⟩ = false
  one : i = 1 → Hd W (w.heap.size + 1) (w.heap.size + 1 + 1) p0 p0
  two : i = 2 → Hd W (w.heap.size + 1) (w.heap.size + 1 + 1) (dmin p0 p1) (dmax p0 p1)
  three : i = 3 → Hd W (w.heap.size + 1) (w.heap.size + 1 + 1) (dmin (dmin p0 p1) p2) (dmax (dmax p0 p1) p2)
  four : i = 4 → Hd W (w.heap.size + 1) (w.heap.size + 1 + 1) (min4 p0 p1 p2 p3) (max4 p0 p1 p2 p3)
theorem Mid.later {w W W' : World} {rec : LoopState → Loop} {st : LoopState} {p0 p1 p2 p3 : Dyadic} {i : Nat} (h : Mid w W rec st p0 p1 p2 p3 i) (E : Ext W W') : Mid w W' rec st p0 p1 p2 p3 i := by
  have hs := h.size
  exact ⟨h.ext.trans E, Nat.le_trans h.size E.size, h.res.ext E, (E.cell (p := ⟨w.heap.size + 1 + 1 + 1, 0, none⟩) (by show w.heap.size + 1 + 1 + 1 < _; omega)).trans h.fn, (E.block _ (by omega)).trans h.df, (E.block _ (by omega)).trans h.rc,
    fun e => ⟨(h.nil0 e).1.ext E, (E.cell (p := ⟨w.heap.size + 1 + 1, 0, none⟩) (by show w.heap.size + 1 + 1 < _; omega)).trans (h.nil0 e).2.1, (E.frozen (p := ⟨w.heap.size + 1 + 1, 0, none⟩) (by show w.heap.size + 1 + 1 < _; omega)).trans (h.nil0 e).2.2⟩,
    fun e => (h.one e).ext E, fun e => (h.two e).ext E, fun e => (h.three e).ext E, fun e => (h.four e).ext E⟩
theorem put_ext {w W : World} {l : Nat} {o : Obj} (h : Ext w W) (hl : w.heap.size ≤ l) : Ext w (W.putObj l o) := ⟨h.os, h.tape, h.output, by simpa using h.size, fun k hk => (World.putObj_heap_other (by omega)).trans (h.block k hk)⟩
theorem Mid.put {w W : World} {rec : LoopState → Loop} {st st' : LoopState} {p0 p1 p2 p3 : Dyadic} {i : Nat} (h : Mid w W rec st p0 p1 p2 p3 i) : Mid w (W.putObj (w.heap.size + 1 + 1 + 1 + 1 + 1) (.loop (rec st'))) rec st' p0 p1 p2 p3 i := by
  have hs := h.size
  have s : Sub W (W.putObj (w.heap.size + 1 + 1 + 1 + 1 + 1) (.loop (rec st'))) := sub_put h.rc rfl
  have o : ∀ k, k ≠ w.heap.size + 1 + 1 + 1 + 1 + 1 → (W.putObj (w.heap.size + 1 + 1 + 1 + 1 + 1) (.loop (rec st'))).heap[k]? = W.heap[k]? := fun k hk => World.putObj_heap_other hk
  have fz : ∀ j, (W.putObj (w.heap.size + 1 + 1 + 1 + 1 + 1) (.loop (rec st'))).frozen? ⟨w.heap.size + 1, j, none⟩ = W.frozen? ⟨w.heap.size + 1, j, none⟩ := fun j => World.frozen?_of_block (o _ (by show w.heap.size + 1 ≠ _; omega))
  exact ⟨put_ext h.ext (by omega), by simpa using h.size, h.res.go (o _ (by omega)), s.cell _ _ h.fn, (o _ (by omega)).trans h.df, World.putObj_heap_same (by omega),
    fun e => ⟨(h.nil0 e).1.go (o _ (by omega)), s.cell _ _ (h.nil0 e).2.1, (s.frozen _ _ (h.nil0 e).2.1).trans (h.nil0 e).2.2⟩,
    fun e => (h.one e).sub s fz, fun e => (h.two e).sub s fz, fun e => (h.three e).sub s fz, fun e => (h.four e).sub s fz⟩
/-- One more number is folded in. -/
theorem Mid.next {w W W' : World} {rec : LoopState → Loop} {st : LoopState} {p0 p1 p2 p3 : Dyadic} {i : Nat} (h : Mid w W rec st p0 p1 p2 p3 i) (b : But (w.heap.size + 1) (w.heap.size + 1 + 1) W W')
    (h1 : i = 0 → Hd W' (w.heap.size + 1) (w.heap.size + 1 + 1) p0 p0) (h2 : i = 1 → Hd W' (w.heap.size + 1) (w.heap.size + 1 + 1) (dmin p0 p1) (dmax p0 p1)) (h3 : i = 2 → Hd W' (w.heap.size + 1) (w.heap.size + 1 + 1) (dmin (dmin p0 p1) p2) (dmax (dmax p0 p1) p2)) (h4 : i = 3 → Hd W' (w.heap.size + 1) (w.heap.size + 1 + 1) (min4 p0 p1 p2 p3) (max4 p0 p1 p2 p3)) :
    Mid w W' rec st p0 p1 p2 p3 (i + 1) := by
  have hs := h.size
  have o : ∀ k, k < W.heap.size → k ≠ w.heap.size + 1 → k ≠ w.heap.size + 1 + 1 → W'.heap[k]? = W.heap[k]? := b.block
  exact ⟨⟨b.os.trans h.ext.os, b.tape.trans h.ext.tape, b.output.trans h.ext.output, Nat.le_trans h.ext.size b.size, fun k hk => (o k (by omega) (by omega) (by omega)).trans (h.ext.block k hk)⟩, Nat.le_trans h.size b.size, h.res.go (o _ (by omega) (by omega) (by omega)),
    (World.cell?_of_block (o _ (by show w.heap.size + 1 + 1 + 1 < _; omega) (by show w.heap.size + 1 + 1 + 1 ≠ _; omega) (by show w.heap.size + 1 + 1 + 1 ≠ _; omega))).trans h.fn, (o _ (by omega) (by omega) (by omega)).trans h.df, (o _ (by omega) (by omega) (by omega)).trans h.rc,
    fun e => by omega, fun e => h1 (by omega), fun e => h2 (by omega), fun e => h3 (by omega), fun e => h4 (by omega)⟩
theorem fold_min {lo hi d : Dyadic} (h : lo ≤ hi) (k : d < lo) : dmin lo d = d ∧ dmax hi d = hi := by
  unfold dmin dmax
  rw [if_pos k]
  exact ⟨rfl, by rw [if_neg (by grind)]⟩
theorem fold_max {lo hi d : Dyadic} (k : ¬ d < lo) : dmin lo d = lo ∧ dmax hi d = if decide (hi < d) then d else hi := by
  unfold dmin dmax
  rw [if_neg k]
  refine ⟨rfl, ?_⟩
  by_cases h : hi < d
  · rw [if_pos h, decide_eq_true h, if_pos rfl]
  · rw [if_neg h, decide_eq_false h, if_neg (by decide)]
theorem fold_more (w : World) (x M y : Value) (d lo hi : Dyadic) (a b P Q P' Q' : Nat) (hv : Dn w (.agg #[x, M, y]) d) (hn : NotAt a M) (H : Hd w a b lo hi) (hab : a ≠ b) (hlh : lo ≤ hi) (r : Rg P Q d) (r1 : Rg P' Q' lo) (r2 : Rg P' Q' hi) (hp : P + Q ≤ 4800) (hp' : P' + Q' ≤ 4800) :
    Calls Tryz.prog 78 #[.agg #[x, M, y], .pointer (some ⟨b, 0, none⟩), .pointer (some ⟨a, 0, none⟩)] w (RetFo w a b (dmin lo d) (dmax hi d)) := by
  by_cases k : d < lo
  · obtain ⟨e1, e2⟩ := fold_min hlh k
    rw [e1, e2]
    exact fold_low w x M y d lo hi a b P Q P' Q' hv hn H hab r r1 hp hp' k
  · obtain ⟨e1, e2⟩ := fold_max (hi := hi) k
    rw [e1, e2]
    exact fold_up w x M y d lo hi a b P Q P' Q' hv hn H hab r r1 r2 hp hp' k _ rfl
theorem rg_dmin {P Q : Nat} {x y : Dyadic} (h : Rg P Q x) (k : Rg P Q y) : Rg P Q (dmin x y) := by unfold dmin; split <;> assumption
theorem rg_dmax {P Q : Nat} {x y : Dyadic} (h : Rg P Q x) (k : Rg P Q y) : Rg P Q (dmax x y) := by unfold dmax; split <;> assumption
theorem dmin_dmax {lo hi d : Dyadic} (h : lo ≤ hi) : dmin lo d ≤ dmax hi d := by
  have h1 := dmin_le1 lo d
  have h2 := le_dmax1 hi d
  grind
/-- The call of the closure, at each round. -/
theorem fold_round {w W : World} {rec : LoopState → Loop} {st : LoopState} {p0 p1 p2 p3 d : Dyadic} {i P Q : Nat} {x M y : Value} (h : Mid w W rec st p0 p1 p2 p3 i) (hd : (i = 0 ∧ d = p0) ∨ (i = 1 ∧ d = p1) ∨ (i = 2 ∧ d = p2) ∨ (i = 3 ∧ d = p3)) (hv : Dn W (.agg #[x, M, y]) d) (hn : NotAt (w.heap.size + 1) M)
    (r0 : Rg P Q p0) (r1 : Rg P Q p1) (r2 : Rg P Q p2) (r3 : Rg P Q p3) (hp : P + Q ≤ 4800) (T : Tb w) :
    Calls Tryz.prog 78 #[.agg #[x, M, y], .pointer (some ⟨w.heap.size + 1 + 1, 0, none⟩), .pointer (some ⟨w.heap.size + 1, 0, none⟩)] W (fun e W' => (∃ u, e = .returned u) ∧ Mid w W' rec st p0 p1 p2 p3 (i + 1) ∧ But (w.heap.size + 1) (w.heap.size + 1 + 1) W W') := by
  have hab : w.heap.size + 1 ≠ w.heap.size + 1 + 1 := by omega
  rcases hd with ⟨rfl, rfl⟩ | ⟨rfl, rfl⟩ | ⟨rfl, rfl⟩ | ⟨rfl, rfl⟩
  · obtain ⟨z, hb, hf⟩ := h.nil0 rfl
    refine (fold_first W _ d _ _ P Q hv z hb hf hab r0 (by omega) (T.ext h.ext)).mono ?_
    rintro e W' ⟨hu, H, b⟩
    exact ⟨hu, h.next b (fun _ => H) (fun e => by omega) (fun e => by omega) (fun e => by omega), b⟩
  · refine (fold_more W x M y d p0 p0 _ _ P Q P Q hv hn (h.one rfl) hab (Std.le_refl _) r1 r0 r0 hp hp).mono ?_
    rintro e W' ⟨hu, H, b⟩
    exact ⟨hu, h.next b (fun e => by omega) (fun _ => H) (fun e => by omega) (fun e => by omega), b⟩
  · refine (fold_more W x M y d _ _ _ _ P Q P Q hv hn (h.two rfl) hab (dmin_dmax (Std.le_refl _)) r2 (rg_dmin r0 r1) (rg_dmax r0 r1) hp hp).mono ?_
    rintro e W' ⟨hu, H, b⟩
    exact ⟨hu, h.next b (fun e => by omega) (fun e => by omega) (fun _ => H) (fun e => by omega), b⟩
  · refine (fold_more W x M y d _ _ _ _ P Q P Q hv hn (h.three rfl) hab (dmin_dmax (dmin_dmax (Std.le_refl _))) r3 (rg_dmin (rg_dmin r0 r1) r2) (rg_dmax (rg_dmax r0 r1) r2) hp hp).mono ?_
    rintro e W' ⟨hu, H, b⟩
    exact ⟨hu, h.next b (fun e => by omega) (fun e => by omega) (fun e => by omega) (fun _ => H), b⟩
theorem callHull : ∀ (x : Array Value) (W : World), (callFunc 78 x).run Tryz.prog W = .ok (.enter 78 x) W := fun _ _ => by kernel_rfl

theorem one_at {w w' : World} {v : Value} {t : TypeId} {g : Nat} (E : Ext (w.alloc (.cells #[v] t)) w') (hg : w.heap.size = g) : w'.cell? ⟨g, 0, none⟩ = some v ∧ w'.frozen? ⟨g, 0, none⟩ = false := by
  subst hg
  exact ⟨(E.cell (p := ⟨w.heap.size, 0, none⟩) (by simp)).trans (by rw [World.cell?_alloc_new]; rfl), (E.frozen (p := ⟨w.heap.size, 0, none⟩) (by simp)).trans (by simp)⟩
/-- A loop's record, as it turns. -/
structure Recs (rec : LoopState → Loop) (fn : FuncId) (tmps : Array Value) (t : Tmp) (assign body : Code) (df : Nat) : Prop where
  is : ∀ st, rec st = { state := st, pending := none, fn := fn, tmps := tmps, params := #[t], assign := assign, body := body, defers := df }
theorem range_start {n : Nat} {P : Program} {g : Operand} {t : Tmp} {assign body : Code} {Q : Exit → Act → World → Prop} {a : Act} {w : World} {gf : Nat} {lb : Array Value} (h1 : 1 ≤ n)
    (hg : a.eval g = .func (.func gf) #[] lb) (eg : ∀ args w, (callFunc gf args).run P w = .ok (.enter gf args) w)
    (h : ∀ (fn : FuncId) (rec : LoopState → Loop), Recs rec fn a.tmps t assign body w.heap.size →
      CallsIn Fence.wide (n - 1) P gf (#[.func (.yield (w.heap.size + 1)) #[] #[]] ++ lb) ((w.alloc (.deferred (some []))).alloc (.loop (rec .ready)))
        (fun e W => (∃ v, e = .returned v) ∧ W.heap[w.heap.size + 1]? = some (.loop (rec .ready)) ∧ Q .normal { a with defers := { target := .collected w.heap.size, args := #[] } :: a.defers } (W.putObj (w.heap.size + 1) (.loop (rec .exhausted))))) :
    (Code.rangeFunc g #[t] assign body).wpIn Fence.wide n P Q a w := by
  refine wpIn_rangeFunc ?_
  intro fn hfn
  obtain ⟨rec, hrec⟩ : ∃ rec : LoopState → Loop, rec = fun st => { state := st, pending := none, fn := fn, tmps := a.tmps, params := #[t], assign := assign, body := body, defers := w.heap.size } := ⟨_, rfl⟩
  have H := h fn rec ⟨fun st => by rw [hrec]⟩
  refine ⟨w.heap.size + 1, [{ target := .collected w.heap.size, args := #[] }], (w.alloc (.deferred (some []))).alloc (.loop (rec .ready)), { target := .fn (.func gf) lb, args := #[.func (.yield (w.heap.size + 1)) #[] #[]] }, (w.alloc (.deferred (some []))).alloc (.loop (rec .ready)), gf,
    #[.func (.yield (w.heap.size + 1)) #[] #[]] ++ lb, (w.alloc (.deferred (some []))).alloc (.loop (rec .ready)), ?_, ?_, fun _ _ => trivial, ?_, fun _ => h1, ?_⟩
  · rw [hrec]; exact run_enterLoop_outer _ _ _ _ _
  · simp only [resolve, hg]
    simp [go_sem]
  · simp [invoke, go_sem, eg]
  · refine H.mono ?_
    rintro e W ⟨⟨v, rfl⟩, hl, hq⟩
    refine ⟨none, _, ?_, hq⟩
    have := run_endLoop (P := P) hl (by rw [hrec]; simp)
    rw [hrec] at this ⊢
    exact this
def endNormal (R : World → Prop) : Exit → Act → World → Prop
  | .normal, _, w => R w
  | _, _, _ => False
theorem round_of {m : Nat} {P : Program} {l : Nat} {rec : LoopState → Loop} {fn : FuncId} {tmps : Array Value} {t : Tmp} {assign body : Code} {df : Nat} {v : Value} {W : World} {R : Ending → World → Prop} (hr : Recs rec fn tmps t assign body df) (hl : W.heap[l]? = some (.loop (rec .ready)))
    (h : assign.wpIn (Fence.wide.inRound l) m P (Exit.then (fun a1 W1 => W1.heap[l]? = some (.loop (rec .ready)) ∧
        body.wpIn (Fence.wide.inRound l) m P (endNormal fun W3 => W3.heap[l]? = some (.loop (rec .busy)) ∧ R (.returned (.bool true)) (W3.putObj l (.loop (rec .ready)))) a1 (W1.putObj l (.loop (rec .busy)))) (fun _ _ _ => False))
      { tmps := tmps.setIfInBounds t v, defers := [] } W) :
    YieldAt Fence.wide m P l #[v] W R := by
  have hy : (Instr.yield l #[v]).run P W = .ok (.round l fn (tmps.setIfInBounds t v) assign body) W := by
    have := run_yield (P := P) (args := #[v]) hl (by rw [hr.is]; rfl)
    rw [hr.is] at this
    simpa using this
  refine ⟨fn, _, assign, body, hy, roundIn_of_wpIn trivial ?_⟩
  refine wpIn_mono (show assign.wpIn (Fence.wide.inRound l) m P _ _ W from h) ?_
  rintro e a1 W1 hq
  cases e with
  | normal =>
    obtain ⟨hl1, hb⟩ := hq
    refine ⟨_, run_beginRound hl1 (by rw [hr.is]), ?_⟩
    have e1 : ({ rec .ready with state := .busy } : Loop) = rec .busy := by rw [hr.is, hr.is]
    rw [e1]
    refine wpIn_mono hb ?_
    rintro e a3 W3 hq
    cases e with
    | normal =>
      obtain ⟨hl3, hR⟩ := hq
      have he := run_endRound (P := P) none hl3
      have e2 : ({ rec .busy with state := if (none : Option Code).isNone then .ready else .done, pending := none } : Loop) = rec .ready := by rw [hr.is, hr.is]; rfl
      rw [e2] at he
      exact ⟨_, _, he, hR⟩
    | exit id => exact hq.elim
    | goto l => exact hq.elim
    | ret => exact hq.elim
    | panic c => exact hq.elim
    | outgrown => exact hq.elim
  | exit id => exact hq.elim
  | goto l => exact hq.elim
  | ret => exact hq.elim
  | panic c => exact hq.elim
  | outgrown => exact hq.elim
theorem callCorners : ∀ (x : Array Value) (W : World), (callFunc 79 x).run Tryz.prog W = .ok (.enter 79 x) W := fun _ _ => by kernel_rfl

set_option maxRecDepth 100000 in
set_option maxHeartbeats 2000000 in
theorem hull_any (w : World) (ga gb : Nat) (x1 x2 y1 y2 : Dyadic) (P Q P' Q' : Nat)
    (ba : Bool) (Aa : Option Addr) (na ca : Nat) (ea : Int) (ba' : Bool) (Aa' : Option Addr) (na' ca' : Nat) (ea' : Int) (bb : Bool) (Ab : Option Addr) (nb cb : Nat) (eb : Int) (bb' : Bool) (Ab' : Option Addr) (nb' cb' : Nat) (eb' : Int)
    (Ba : Bx w ga (.bool ba) (.slice Aa na ca) (.int .i64 ea) (.bool ba') (.slice Aa' na' ca') (.int .i64 ea')) (Bb : Bx w gb (.bool bb) (.slice Ab nb cb) (.int .i64 eb) (.bool bb') (.slice Ab' nb' cb') (.int .i64 eb'))
    (d1 : Dn w (.agg #[.bool ba, .slice Aa na ca, .int .i64 ea]) x1) (d2 : Dn w (.agg #[.bool ba', .slice Aa' na' ca', .int .i64 ea']) x2)
    (d3 : Dn w (.agg #[.bool bb, .slice Ab nb cb, .int .i64 eb]) y1) (d4 : Dn w (.agg #[.bool bb', .slice Ab' nb' cb', .int .i64 eb']) y2)
    (r1 : Rg P Q x1) (r2 : Rg P Q x2) (r3 : Rg P' Q' y1) (r4 : Rg P' Q' y2) (hp : P + Q + (P' + Q') ≤ 4800) (T : Tb w) :
    Calls Tryz.prog 47 #[.func (.func 79) #[] #[.pointer (some ⟨ga, 0, none⟩), .pointer (some ⟨gb, 0, none⟩)]] w (RetI w (mlo x1 x2 y1 y2) (mhi x1 x2 y1 y2)) := by
  refine (callsIn_wide (n := 3)).1 ?_
  refine callsIn_of_wp_marks Tryz.func47 rfl trivial ?_ rfl
  simp only [Tryz.ntmps47, List.size_toArray, List.length_cons, List.length_nil, Nat.reduceAdd, Nat.reduceSub, Array.replicate_succ, Array.replicate_zero, List.push_toArray, List.append_toArray, List.nil_append, List.cons_append]
  gi_wp2
  refine range_start (by omega) rfl callCorners ?_
  intro fn rec hrec
  have M4 : ∃ W4 : World, ((((w.alloc (.cells #[.bool false, .slice none 0 0, .int .i64 0, .bool false, .slice none 0 0, .int .i64 0] 26)).alloc (.cells #[.bool false, .slice none 0 0, .int .i64 0, .bool false, .slice none 0 0, .int .i64 0] 26)).alloc (.cells #[.bool false] 4)).alloc (.cells #[(.func (.func 78) #[] #[.pointer (some ⟨w.heap.size + 1 + 1, 0, none⟩), .pointer (some ⟨w.heap.size + 1, 0, none⟩)])] 77)) = W4 ∧ W4.heap.size = w.heap.size + 1 + 1 + 1 + 1 ∧ Ext w W4 ∧ Zi W4 w.heap.size ∧ Zi W4 (w.heap.size + 1) ∧ W4.cell? ⟨w.heap.size + 1 + 1, 0, none⟩ = some (.bool false) ∧ W4.frozen? ⟨w.heap.size + 1 + 1, 0, none⟩ = false ∧ W4.cell? ⟨w.heap.size + 1 + 1 + 1, 0, none⟩ = some (.func (.func 78) #[] #[.pointer (some ⟨w.heap.size + 1 + 1, 0, none⟩), .pointer (some ⟨w.heap.size + 1, 0, none⟩)]) := by
    refine ⟨_, rfl, by simp, ((((Ext.refl w).alloc _).alloc _).alloc _).alloc _, Zi.at (((Ext.refl _).alloc _).alloc _ |>.alloc _) rfl, Zi.at (((Ext.refl _).alloc _).alloc _) (by simp), (one_at ((Ext.refl _).alloc _) (by simp)).1, (one_at ((Ext.refl _).alloc _) (by simp)).2, (one_at (Ext.refl _) (by simp)).1⟩
  obtain ⟨W4, hW4, hs4, E4, Z4, Z5, b4, f4, c4⟩ := M4
  rw [hW4, hs4]
  have E5 : Ext W4 ((W4.alloc (.deferred (some []))).alloc (.loop (rec .ready))) := ((Ext.refl W4).alloc _).alloc _
  have M0 : Mid w ((W4.alloc (.deferred (some []))).alloc (.loop (rec .ready))) rec .ready (x1 * y1) (x1 * y2) (x2 * y1) (x2 * y2) 0 := by
    refine ⟨E4.trans E5, by simp [hs4], Z4.ext E5, (E5.cell (p := ⟨w.heap.size + 1 + 1 + 1, 0, none⟩) (by show w.heap.size + 1 + 1 + 1 < _; omega)).trans c4, ?_, ?_, fun _ => ⟨Z5.ext E5, (E5.cell (p := ⟨w.heap.size + 1 + 1, 0, none⟩) (by show w.heap.size + 1 + 1 < _; omega)).trans b4, (E5.frozen (p := ⟨w.heap.size + 1 + 1, 0, none⟩) (by show w.heap.size + 1 + 1 < _; omega)).trans f4⟩, fun e => by omega, fun e => by omega, fun e => by omega, fun e => by omega⟩
    · have := World.alloc_heap_new W4 (.deferred (some []))
      rw [hs4] at this
      exact (Below.heap_alloc _ _ _ (by simp [hs4])).trans this
    · have := World.alloc_heap_new (W4.alloc (.deferred (some []))) (.loop (rec .ready))
      rw [World.size_alloc, hs4] at this
      exact this
  clear hW4 E5 Z4 Z5 b4 f4 c4 E4
  have q1 := r1.mul r3
  have q2 := r1.mul r4
  have q3 := r2.mul r3
  have q4 := r2.mul r4
  refine (corners_in 2 (w.heap.size + 1 + 1 + 1 + 1 + 1) w.heap.size ga gb w _ (fun i W => Mid w W rec .ready (x1 * y1) (x1 * y2) (x2 * y1) (x2 * y2) i) x1 x2 y1 y2 P Q P' Q' ba Aa na ca ea ba' Aa' na' ca' ea' bb Ab nb cb eb bb' Ab' nb' cb' eb' Ba Bb d1 d2 d3 d4 r1 r2 r3 r4 (by omega) (by omega) T (fun i W W' h E => h.later E) (fun i W h => h.ext) (fun i W h => h.size) ?_ M0).mono ?_
  · intro i x M y W d h hd hv hn
    refine round_of hrec h.rc ?_
    have HR := Lib.hid (fun (W2 : World) (st : LoopState) (h2 : Mid w W2 rec st (x1 * y1) (x1 * y2) (x2 * y1) (x2 * y2) i) (hv2 : Dn W2 (.agg #[x, M, y]) d) => fold_round h2 hd hv2 hn q1 q2 q3 q4 (by omega) T)
    obtain ⟨xb, xA, xn, xc, xe, hvv⟩ := hv.form
    simp only [Value.agg.injEq, Array.mk.injEq, List.cons.injEq, and_true] at hvv
    obtain ⟨rfl, rfl, rfl⟩ := hvv
    have HH := Lib.hid h
    have HV := Lib.hid hv
    clear h hv hd hn M0
    simp only [List.setIfInBounds_toArray, List.set_cons_succ, List.set_cons_zero]
    gi_wp2
    have E6 : Ext W (W.alloc (.cells #[.bool xb, .slice xA xn xc, .int .i64 xe] 24)) := (Ext.refl W).alloc _
    have h6 := HH.out.later E6
    have hz := HH.out.size
    refine ⟨h6.rc, ?_⟩
    have h7 := h6.put (st' := .busy)
    have B6 : Box ((W.alloc (.cells #[.bool xb, .slice xA xn xc, .int .i64 xe] 24)).putObj (w.heap.size + 1 + 1 + 1 + 1 + 1) (.loop (rec .busy))) W.heap.size (.bool xb) (.slice xA xn xc) (.int .i64 xe) := box_go (Box.new W _ _ _ _) (World.putObj_heap_other (by omega))
    have v7 := (HV.out.ext E6).sub (sub_put (o' := .loop (rec .busy)) h6.rc rfl)
    have kp1 : Kp w.heap.size W ((W.alloc (.cells #[.bool xb, .slice xA xn xc, .int .i64 xe] 24)).putObj (w.heap.size + 1 + 1 + 1 + 1 + 1) (.loop (rec .busy))) := ⟨by simp, fun k hk hr => (World.putObj_heap_other (by omega)).trans (E6.block k hk)⟩
    generalize ((W.alloc (.cells #[.bool xb, .slice xA xn xc, .int .i64 xe] 24)).putObj (w.heap.size + 1 + 1 + 1 + 1 + 1) (.loop (rec .busy))) = W7 at *
    obtain ⟨s0, s1, s2⟩ := id B6
    have sf := h7.fn
    have hcall := callHull
    clear h6 E6
    gi_wp2_with fail
    refine ⟨trivial, (CallsIn.inRound _ (callsIn_wide.2 (HR.out _ _ h7 v7))).mono ?_⟩
    rintro _ W8 ⟨⟨u, rfl⟩, hm, hb⟩
    clear s0 s1 s2 sf HR h7 v7 B6 HH HV
    gi_wp2
    refine ⟨hm.rc, hm.put, ?_⟩
    have := hb.size
    have := kp1.size
    exact ⟨by simp; omega, fun k hk hr => (World.putObj_heap_other (by omega)).trans ((hb.block k (by omega) (by omega) (by omega)).trans (kp1.block k hk hr))⟩
  · rintro e W ⟨hv, hm⟩
    refine ⟨hv, hm.rc, ?_⟩
    have h5 := hm.put (st' := .exhausted)
    generalize W.putObj (w.heap.size + 1 + 1 + 1 + 1 + 1) (.loop (rec .exhausted)) = W5 at *
    clear hm hv M0
    obtain ⟨⟨b1, A1, n1, c1, e1, b2, A2, n2, c2, e2, B, k1, k2, u1, u2, f⟩, hy, hf⟩ := h5.four rfl
    obtain ⟨s0, s1, s2, s3, s4, s5⟩ := id B
    have Z := h5.res
    have g0 := Z.c0
    have g1 := Z.c1
    have g2 := Z.c2
    have g3 := Z.c3
    have g4 := Z.c4
    have g5 := Z.c5
    have f0 := Z.f 0
    have f1 := Z.f 1
    have f2 := Z.f 2
    have f3 := Z.f 3
    have f4 := Z.f 4
    have f5 := Z.f 5
    have HD := Lib.hid (Z.done k1 k2 h5.ext (Nat.le_refl _))
    have HDF := Lib.hid h5.df
    clear f hy hf
    gi_wp2
    obtain ⟨j0, j1, j2, j3, j4, j5, vr, hvr, hI, hE⟩ := HD.out
    injection hvr with hvr
    subst hvr
    have hdf : ((((((W5.setCell ⟨w.heap.size, 0, none⟩ (.bool b1)).setCell ⟨w.heap.size, 1, none⟩ (.slice A1 n1 c1)).setCell ⟨w.heap.size, 2, none⟩ (.int .i64 e1)).setCell ⟨w.heap.size, 3, none⟩ (.bool b2)).setCell ⟨w.heap.size, 4, none⟩ (.slice A2 n2 c2)).setCell ⟨w.heap.size, 5, none⟩ (.int .i64 e2)).heap[w.heap.size + 1 + 1 + 1 + 1]? = some (.deferred (some [])) := by
      have o : ∀ (V : World) (i : Nat) (v : Value), (V.setCell ⟨w.heap.size, i, none⟩ v).heap[w.heap.size + 1 + 1 + 1 + 1]? = V.heap[w.heap.size + 1 + 1 + 1 + 1]? := fun V i v => Below.heap_setCell V ⟨w.heap.size, i, none⟩ v _ (by show w.heap.size + 1 + 1 + 1 + 1 ≠ w.heap.size; omega)
      rw [o, o, o, o, o, o]; exact HDF.out
    generalize ((((((W5.setCell ⟨w.heap.size, 0, none⟩ (.bool b1)).setCell ⟨w.heap.size, 1, none⟩ (.slice A1 n1 c1)).setCell ⟨w.heap.size, 2, none⟩ (.int .i64 e1)).setCell ⟨w.heap.size, 3, none⟩ (.bool b2)).setCell ⟨w.heap.size, 4, none⟩ (.slice A2 n2 c2)).setCell ⟨w.heap.size, 5, none⟩ (.int .i64 e2)) = W6 at *
    refine ⟨by simp, .inl ⟨_, _, rfl, run_takeDeferred hdf, ?_⟩⟩
    have s : Sub W6 (W6.putObj (w.heap.size + 1 + 1 + 1 + 1) (.deferred none)) := sub_put hdf rfl
    have i0 := s.cell _ _ j0
    have i1 := s.cell _ _ j1
    have i2 := s.cell _ _ j2
    have i3 := s.cell _ _ j3
    have i4 := s.cell _ _ j4
    have i5 := s.cell _ _ j5
    refine ⟨.agg #[.bool b1, .slice A1 n1 c1, .int .i64 e1, .bool b2, .slice A2 n2 c2, .int .i64 e2], ?_, _, rfl, In.mk (hI.lo.sub s) (hI.hi.sub s), put_ext hE (by omega)⟩
    generalize W6.putObj (w.heap.size + 1 + 1 + 1 + 1) (.deferred none) = W7 at *
    simp [results, Tryz.results47, go_sem, i0, i1, i2, i3, i4, i5]
set_option maxRecDepth 4000 in
set_option maxHeartbeats 1000000 in
theorem imul_any (w : World) (va vb : Value) (x1 x2 y1 y2 : Dyadic) (P Q P' Q' : Nat) (ha : In w va x1 x2) (hb : In w vb y1 y2) (r1 : Rg P Q x1) (r2 : Rg P Q x2) (r3 : Rg P' Q' y1) (r4 : Rg P' Q' y2) (hp : P + Q + (P' + Q') ≤ 4800) (T : Tb w) :
    Calls Tryz.prog 27 #[va, vb] w (RetI w (mlo x1 x2 y1 y2) (mhi x1 x2 y1 y2)) := by
  obtain ⟨ba, Aa, na, ca, ea, ba', Aa', na', ca', ea', rfl, a1, a2⟩ := ha
  obtain ⟨bb, Ab, nb, cb, eb, bb', Ab', nb', cb', eb', rfl, b1, b2⟩ := hb
  go_enter Tryz.func27, Tryz.ntmps27
  go_wp2_with fail
  refine (corners_any _ (w.heap.size + 1 + 1 + 1) (by simp) ba Aa na ca ea ba' Aa' na' ca' ea' bb Ab nb cb eb bb' Ab' nb' cb' eb').mono ?_
  rintro _ w1 ⟨rfl, e1, Ba, Bb⟩
  have E1 : Ext w w1 := ((((Ext.refl w).alloc _).alloc _).alloc _).trans e1
  have Z1 : Zi w1 (w.heap.size + 1 + 1) := Zi.at e1 (by simp)
  go_wp2_with fail
  refine (hull_any w1 (w.heap.size + 1 + 1 + 1) (w.heap.size + 1 + 1 + 1 + 1) x1 x2 y1 y2 P Q P' Q' ba Aa na ca ea ba' Aa' na' ca' ea' bb Ab nb cb eb bb' Ab' nb' cb' eb' Ba Bb (a1.ext E1) (a2.ext E1) (b1.ext E1) (b2.ext E1) r1 r2 r3 r4 hp (T.ext E1)).mono ?_
  rintro _ w2 ⟨v2, rfl, m2, e2⟩
  obtain ⟨y1, Y1, p1, q1, x1, y2, Y2, p2, q2, x2, rfl, m1, m2⟩ := m2
  have Z2 := Z1.ext e2
  have g0 := Z2.c0
  have g1 := Z2.c1
  have g2 := Z2.c2
  have g3 := Z2.c3
  have g4 := Z2.c4
  have g5 := Z2.c5
  have f0 := Z2.f 0
  have f1 := Z2.f 1
  have f2 := Z2.f 2
  have f3 := Z2.f 3
  have f4 := Z2.f 4
  have f5 := Z2.f 5
  go_wp2
  obtain ⟨k0, k1, k2, k3, k4, k5, hD⟩ := Z2.done m1 m2 (E1.trans e2) (by omega)
  exact bodyPost_ret (by simp [results, Tryz.results27, go_sem, k0, k1, k2, k3, k4, k5]) rfl hD
end Go.Proofs.YtimdglgianheiaaGreatDoor
