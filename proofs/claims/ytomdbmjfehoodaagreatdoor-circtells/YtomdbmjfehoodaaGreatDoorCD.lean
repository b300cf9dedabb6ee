/- Walks of package circ: cosine. -/
import Derived.Test.YtomdbmjfehoodaaGreatDoorCC
set_option maxRecDepth 8000
namespace Go.Proofs.YtomdbmjfehoodaaGreatDoor
open Go.RowKit
set_option linter.unusedVariables false
attribute [local go_sem] Oper.semAt_some
theorem Vr.go {w w' : World} {g : Nat} {x y z x' y' z' : Value} (h : Vr w g x y z x' y' z') (e : w'.heap[g]? = w.heap[g]?) : Vr w' g x y z x' y' z' :=
  ⟨(World.cell?_of_block e).trans h.c0, (World.cell?_of_block e).trans h.c1, (World.cell?_of_block e).trans h.c2, (World.cell?_of_block e).trans h.c3, (World.cell?_of_block e).trans h.c4, (World.cell?_of_block e).trans h.c5,
    fun j => (World.frozen?_of_block (a := ⟨g, j, none⟩) e).trans (h.f j), fun j i k => h.n j i ((World.cell?_of_block (a := ⟨g, j, none⟩) e).symm.trans k)⟩
theorem Bx.go {w w' : World} {g : Nat} {x y z x' y' z' : Value} (h : Bx w g x y z x' y' z') (e : w'.heap[g]? = w.heap[g]?) : Bx w' g x y z x' y' z' :=
  ⟨(World.cell?_of_block e).trans h.c0, (World.cell?_of_block e).trans h.c1, (World.cell?_of_block e).trans h.c2, (World.cell?_of_block e).trans h.c3, (World.cell?_of_block e).trans h.c4, (World.cell?_of_block e).trans h.c5⟩
theorem B2.go {w w' : World} {g : Nat} {x y : Value} (h : B2 w g x y) (e : w'.heap[g]? = w.heap[g]?) : B2 w' g x y := ⟨(World.cell?_of_block e).trans h.c0, (World.cell?_of_block e).trans h.c1⟩
theorem Zi.go {w w' : World} {g : Nat} (h : Zi w g) (e : w'.heap[g]? = w.heap[g]?) : Zi w' g :=
  ⟨(World.cell?_of_block e).trans h.c0, (World.cell?_of_block e).trans h.c1, (World.cell?_of_block e).trans h.c2, (World.cell?_of_block e).trans h.c3, (World.cell?_of_block e).trans h.c4, (World.cell?_of_block e).trans h.c5,
    fun j x k => h.z j x ((World.cell?_of_block (a := ⟨g, j, none⟩) e).symm.trans k), fun j => (World.frozen?_of_block (a := ⟨g, j, none⟩) e).trans (h.f j)⟩
theorem In.sub {w w' : World} {v : Value} {l u : Dyadic} (h : In w v l u) (s : Sub w w') : In w' v l u := by
  obtain ⟨b, A, n, c, e, b', A', n', c', e', rfl, h1, h2⟩ := h
  exact ⟨b, A, n, c, e, b', A', n', c', e', rfl, h1.sub s, h2.sub s⟩
theorem B2.other {w : World} {g g' : Nat} {x y a b c a' b' c' : Value} (h : B2 w g x y) (hg : g ≠ g') : B2 (set6 w g' a b c a' b' c') g x y :=
  ⟨(set6_other (p := ⟨g, 0, none⟩) hg).trans h.c0, (set6_other (p := ⟨g, 1, none⟩) hg).trans h.c1⟩
theorem set6_block {w : World} {g k : Nat} {a b c a' b' c' : Value} (h : k ≠ g) : (set6 w g a b c a' b' c').heap[k]? = w.heap[k]? := by
  have o : ∀ (V : World) (i : Nat) (v : Value), (V.setCell ⟨g, i, none⟩ v).heap[k]? = V.heap[k]? := fun V i v => Below.heap_setCell V ⟨g, i, none⟩ v _ (by show k ≠ g; exact h)
  unfold set6
  rw [o, o, o, o, o, o]
/-- Between two rounds of cosine: what R tells of the enclosure so far. -/
structure Md (w : World) (s1 gd : Nat) (K : Int) (Q k : Nat) (W : World) (rec : LoopState → Loop) (st : LoopState) (R : Dyadic → Dyadic → Prop) : Prop where
  ext : Ext w W
  size : gd + 2 ≤ W.heap.size
  s0 : w.heap.size + 3 ≤ s1 ∧ s1 + 4 ≤ gd
  res : Zi W (w.heap.size + 1 + 1)
  bits : W.cell? ⟨w.heap.size + 1, 0, none⟩ = some (.int .i64 (k : Int))
  one : ∃ (b : Bool) (A : Option Addr) (n c : Nat) (e : Int) (b' : Bool) (A' : Option Addr) (n' c' : Nat) (e' : Int), Bx W s1 (.bool b) (.slice A n c) (.int .i64 e) (.bool b') (.slice A' n' c') (.int .i64 e') ∧ In W (.agg #[.bool b, .slice A n c, .int .i64 e, .bool b', .slice A' n' c', .int .i64 e']) 1 1
  fn : W.cell? ⟨s1 + 1 + 1, 0, none⟩ = some (.func (.func 70) #[] #[.pointer (some ⟨s1 + 1, 0, none⟩), .pointer (some ⟨s1, 0, none⟩), .pointer (some ⟨w.heap.size + 1, 0, none⟩)])
  tb : B2 W (s1 + 1 + 1 + 1) (.int .i64 K) (.int .i64 (Q : Int))
  df : W.heap[gd]? = some (.deferred (some []))
  rc : W.heap[gd + 1]? = some (.loop (rec st))
  c : ∃ (b : Bool) (A : Option Addr) (n c : Nat) (e : Int) (b' : Bool) (A' : Option Addr) (n' c' : Nat) (e' : Int) (lo hi : Dyadic), Vr W (s1 + 1) (.bool b) (.slice A n c) (.int .i64 e) (.bool b') (.slice A' n' c') (.int .i64 e') ∧ In W (.agg #[.bool b, .slice A n c, .int .i64 e, .bool b', .slice A' n' c', .int .i64 e']) lo hi ∧ R lo hi
theorem Md.later {w : World} {s1 gd : Nat} {K : Int} {Q k : Nat} {W W' : World} {rec : LoopState → Loop} {st : LoopState} {R : Dyadic → Dyadic → Prop} (h : Md w s1 gd K Q k W rec st R) (E : Ext W W') : Md w s1 gd K Q k W' rec st R := by
  obtain ⟨b, A, n, c, e, b', A', n', c', e', B, I⟩ := h.one
  obtain ⟨bc, Ac, nc, cc, ec, bc', Ac', nc', cc', ec', lo, hi, V, J, r⟩ := h.c
  have hs := h.size
  exact ⟨h.ext.trans E, Nat.le_trans h.size E.size, h.s0, h.res.ext E, cellx h.bits E, ⟨b, A, n, c, e, b', A', n', c', e', B.ext E, I.ext E⟩, cellx h.fn E, h.tb.ext E, (E.block _ (by omega)).trans h.df, (E.block _ (by omega)).trans h.rc,
    ⟨bc, Ac, nc, cc, ec, bc', Ac', nc', cc', ec', lo, hi, V.ext E, J.ext E, r⟩⟩
theorem Md.put {w : World} {s1 gd : Nat} {K : Int} {Q k : Nat} {W : World} {rec : LoopState → Loop} {st st' : LoopState} {R : Dyadic → Dyadic → Prop} (h : Md w s1 gd K Q k W rec st R) : Md w s1 gd K Q k (W.putObj (gd + 1) (.loop (rec st'))) rec st' R := by
  obtain ⟨b, A, n, c, e, b', A', n', c', e', B, I⟩ := h.one
  obtain ⟨bc, Ac, nc, cc, ec, bc', Ac', nc', cc', ec', lo, hi, V, J, r⟩ := h.c
  have hs := h.size
  have h0 := h.s0
  have s : Sub W (W.putObj (gd + 1) (.loop (rec st'))) := sub_put h.rc rfl
  have o : ∀ j, j ≠ gd + 1 → (W.putObj (gd + 1) (.loop (rec st'))).heap[j]? = W.heap[j]? := fun j hj => World.putObj_heap_other hj
  exact ⟨put_ext h.ext (by omega), by simpa using h.size, h.s0, h.res.go (o _ (by omega)), s.cell _ _ h.bits, ⟨b, A, n, c, e, b', A', n', c', e', B.go (o _ (by omega)), I.sub s⟩, s.cell _ _ h.fn, h.tb.go (o _ (by omega)), (o _ (by omega)).trans h.df, World.putObj_heap_same (by omega),
    ⟨bc, Ac, nc, cc, ec, bc', Ac', nc', cc', ec', lo, hi, V.go (o _ (by omega)), J.sub s, r⟩⟩
theorem Md.imp {w : World} {s1 gd : Nat} {K : Int} {Q k : Nat} {W : World} {rec : LoopState → Loop} {st : LoopState} {R R' : Dyadic → Dyadic → Prop} (h : Md w s1 gd K Q k W rec st R) (f : ∀ lo hi, R lo hi → R' lo hi) : Md w s1 gd K Q k W rec st R' := by
  obtain ⟨bc, Ac, nc, cc, ec, bc', Ac', nc', cc', ec', lo, hi, V, J, r⟩ := h.c
  exact ⟨h.ext, h.size, h.s0, h.res, h.bits, h.one, h.fn, h.tb, h.df, h.rc, ⟨bc, Ac, nc, cc, ec, bc', Ac', nc', cc', ec', lo, hi, V, J, f lo hi r⟩⟩
/-- A new enclosure is laid. -/
theorem Md.next {w : World} {s1 gd : Nat} {K : Int} {Q k : Nat} {W : World} {rec : LoopState → Loop} {st : LoopState} {R R' : Dyadic → Dyadic → Prop} (h : Md w s1 gd K Q k W rec st R) (b : Bool) (A : Option Addr) (n c : Nat) (e : Int) (b' : Bool) (A' : Option Addr) (n' c' : Nat) (e' : Int) (lo hi : Dyadic) (he : e ≤ 0) (he' : e' ≤ 0)
    (I : In W (.agg #[.bool b, .slice A n c, .int .i64 e, .bool b', .slice A' n' c', .int .i64 e']) lo hi) (r : R' lo hi) : Md w s1 gd K Q k (set6 W (s1 + 1) (.bool b) (.slice A n c) (.int .i64 e) (.bool b') (.slice A' n' c') (.int .i64 e')) rec st R' := by
  obtain ⟨b1, A1, n1, c1, e1, b1', A1', n1', c1', e1', B, I1⟩ := h.one
  obtain ⟨bc, Ac, nc, cc, ec, bc', Ac', nc', cc', ec', lo1, hi1, V, J, r1⟩ := h.c
  have hs := h.size
  have h0 := h.s0
  exact ⟨h.ext.set6 (by omega), by rw [set6_size]; exact hs, h0, h.res.other (by omega), cello h.bits (by omega), ⟨b1, A1, n1, c1, e1, b1', A1', n1', c1', e1', B.other (by omega), V.off I1 _ _ _ _ _ _⟩, cello h.fn (by omega), h.tb.other (by omega), (set6_block (by omega)).trans h.df, (set6_block (by omega)).trans h.rc,
    ⟨b, A, n, c, e, b', A', n', c', e', lo, hi, V.set b b' A A' n c n' c' e e' he he', V.off I _ _ _ _ _ _, r⟩⟩
theorem Vr.new (w : World) (b b' : Bool) (A A' : Option Addr) (l c l' c' : Nat) (j j' : Int) (hj : j ≤ 0) (hj' : j' ≤ 0) (t : TypeId) : Vr (w.alloc (.cells #[.bool b, .slice A l c, .int .i64 j, .bool b', .slice A' l' c', .int .i64 j'] t)) w.heap.size (.bool b) (.slice A l c) (.int .i64 j) (.bool b') (.slice A' l' c') (.int .i64 j') := by
  have B := Bx.new w (.bool b) (.slice A l c) (.int .i64 j) (.bool b') (.slice A' l' c') (.int .i64 j') t
  refine ⟨B.c0, B.c1, B.c2, B.c3, B.c4, B.c5, fun i => by simp, fun i k hk => ?_⟩
  rcases (show i = 0 ∨ i = 1 ∨ i = 2 ∨ i = 3 ∨ i = 4 ∨ i = 5 ∨ 6 ≤ i by omega) with rfl | rfl | rfl | rfl | rfl | rfl | hi
  · rw [B.c0] at hk; injection hk with hk; injection hk
  · rw [B.c1] at hk; injection hk with hk; injection hk
  · rw [B.c2] at hk; injection hk with hk; injection hk with _ hk; omega
  · rw [B.c3] at hk; injection hk with hk; injection hk
  · rw [B.c4] at hk; injection hk with hk; injection hk
  · rw [B.c5] at hk; injection hk with hk; injection hk with _ hk; omega
  · obtain ⟨i, rfl⟩ : ∃ m, i = m + 6 := ⟨i - 6, by omega⟩
    rw [World.cell?_alloc_new] at hk; simp at hk
theorem Vr.at {w w' : World} {b b' : Bool} {A A' : Option Addr} {l c l' c' : Nat} {j j' : Int} {t : TypeId} {g : Nat} (hj : j ≤ 0) (hj' : j' ≤ 0) (E : Ext (w.alloc (.cells #[.bool b, .slice A l c, .int .i64 j, .bool b', .slice A' l' c', .int .i64 j'] t)) w') (hg : w.heap.size = g) : Vr w' g (.bool b) (.slice A l c) (.int .i64 j) (.bool b') (.slice A' l' c') (.int .i64 j') := by
  subst hg; exact (Vr.new w b b' A A' l c l' c' j j' hj hj' t).ext E
/-- The closure, between two rounds. -/
theorem size_md (w : World) (s1 gd : Nat) (K : Int) (Q k : Nat) (W : World) (rec : LoopState → Loop) (st : LoopState) (i : Nat) (ho : K % 2 = 1) (hi14 : i + 1 ≤ 14) (hk : 2 ≤ k) (hk2 : k ≤ 400) (T : Tb w) (h : Md w s1 gd K Q k W rec st (fun lo hi => Cs k i lo hi (cv (tv K i)).1)) :
    Calls Tryz.prog 70 #[.pointer (some ⟨s1 + 1, 0, none⟩), .pointer (some ⟨s1, 0, none⟩), .pointer (some ⟨w.heap.size + 1, 0, none⟩)] W
      (fun e W' => ∃ (b : Bool) (A : Option Addr) (n c : Nat) (j : Int) (b' : Bool) (A' : Option Addr) (n' c' : Nat) (j' : Int) (lo hi : Dyadic), e = .returned (.agg #[.bool b, .slice A n c, .int .i64 j, .bool b', .slice A' n' c', .int .i64 j']) ∧ j ≤ 0 ∧ j' ≤ 0 ∧
        In W' (.agg #[.bool b, .slice A n c, .int .i64 j, .bool b', .slice A' n' c', .int .i64 j']) lo hi ∧ Cs k (i + 1) lo hi (hf * (1 + (cv (tv K i)).1)).root ∧ Ext W W') := by
  obtain ⟨b1, A1, n1, c1, e1, b1', A1', n1', c1', e1', B, I1⟩ := h.one
  obtain ⟨bc, Ac, nc, cc, ec, bc', Ac', nc', cc', ec', lo, hi, V, J, r⟩ := h.c
  obtain ⟨i0, i1, i2, i3, i4, i5⟩ := r.into
  have q1 := root_there _ k _ _ i0 i3 (by omega)
  have q2 := root_there _ k _ _ (show 0 ≤ (hi + 1) * dy 1 (-1) by grind) i4 (by omega)
  have hs := r.step ho hk hi14 q1.1 q2.2.1
  refine (csize_any W (s1 + 1) s1 (w.heap.size + 1) lo hi k (k + k + 4) bc Ac nc cc ec bc' Ac' nc' cc' ec' b1 A1 n1 c1 e1 b1' A1' n1' c1' e1' V.bx B h.bits J I1 r.r1 r.r2 i3 i4 i0 (by grind) (by omega) (by omega) (by omega) (T.ext h.ext)).mono ?_
  rintro _ W' ⟨v, rfl, I, E⟩
  obtain ⟨b, A, n, c, j, b', A', n', c', j', rfl, hj, hj'⟩ := I.unit hs.l hs.en.le hs.h
  exact ⟨b, A, n, c, j, b', A', n', c', j', _, _, rfl, hj, hj', I, hs, E⟩
theorem callHalves : ∀ (x : Array Value) (W : World), (callFunc 97 x).run Tryz.prog W = .ok (.enter 97 x) W := fun _ _ => by kernel_rfl
theorem callSize : ∀ (x : Array Value) (W : World), (callFunc 70 x).run Tryz.prog W = .ok (.enter 70 x) W := fun _ _ => by kernel_rfl
end Go.Proofs.YtomdbmjfehoodaaGreatDoor
