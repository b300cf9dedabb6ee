/- Words for memory: a slice value that reads as a list of ints; what is kept while the heap grows. No program is named here. -/
import Derived.WalkKit
import Derived.WalkLawsBesides
import Derived.Deep.QuietTactic
import Derived.BigQuiet
import Derived.Lib.Hide
namespace Go.Proofs.YtncopdgonbgaaaaDoor
open Go.RowKit

/-- Of what lay in a nothing has turned in b. -/
def Ext (a b : World) : Prop := Below a.heap.size a b
theorem Ext.refl (a : World) : Ext a a := Below.refl _ _
theorem Ext.trans {a b c : World} (h : Ext a b) (k : Ext b c) : Ext a c := Below.trans h (Below.mono k h.size)
theorem Ext.drew {a b : World} (h : Ext a b) : Ext a b.drew := Below.drew h
theorem Ext.drewN {a b : World} (h : Ext a b) (n : Nat) : Ext a (b.drewN n) := ⟨h.os, h.tape, h.output, h.size, h.block⟩
theorem Ext.alloc {a b : World} (h : Ext a b) (o : Obj) : Ext a (b.alloc o) := Below.alloc h h.size o
theorem Ext.setCell {a b : World} (h : Ext a b) {p : Addr} (hp : a.heap.size ≤ p.block) (u : Value) : Ext a (b.setCell p u) := Below.setCell h hp u
theorem Ext.grown {a b c : World} {row : Option Nat} (h : Ext a b) (hg : b.grownBy c row) (hr : ∀ k, row = some k → a.heap.size ≤ k) : Ext a c := Below.grown h hg h.size hr
theorem Ext.cell {a b : World} (h : Ext a b) {p : Addr} (hp : p.block < a.heap.size) : b.cell? p = a.cell? p := Below.cell h hp
theorem Ext.frozen {a b : World} (h : Ext a b) {p : Addr} (hp : p.block < a.heap.size) : b.frozen? p = a.frozen? p := Below.frozen h hp

/-- b is a, but for draws. -/
def Qt (a b : World) : Prop := ∃ q, b = a.drewN q
theorem Qt.refl (a : World) : Qt a a := ⟨0, rfl⟩
theorem Qt.drewN {a b : World} (h : Qt a b) (n : Nat) : Qt a (b.drewN n) := by
  obtain ⟨q, rfl⟩ := h
  exact ⟨q + n, by rw [World.drewN_drewN]⟩
theorem Qt.drew {a b : World} (h : Qt a b) : Qt a b.drew := h.drewN 1
theorem Qt.trans {a b c : World} (h : Qt a b) (k : Qt b c) : Qt a c := by
  obtain ⟨q, rfl⟩ := k
  exact h.drewN q
theorem Qt.cell {a b : World} (h : Qt a b) (p : Addr) : b.cell? p = a.cell? p := by obtain ⟨q, rfl⟩ := h; rfl
theorem Qt.frozen {a b : World} (h : Qt a b) (p : Addr) : b.frozen? p = a.frozen? p := by obtain ⟨q, rfl⟩ := h; rfl
theorem Qt.size {a b : World} (h : Qt a b) : b.heap.size = a.heap.size := by obtain ⟨q, rfl⟩ := h; rfl
theorem Qt.ext {a b : World} (h : Qt a b) : Ext a b := by obtain ⟨q, rfl⟩ := h; exact (Ext.refl a).drewN q
/-- It returned v, and did no more than look. -/
def RetQ (w : World) (v : Value) (e : Ending) (w' : World) : Prop := e = .returned v ∧ Qt w w'
theorem RetQ.same {w : World} {v : Value} : RetQ w v (.returned v) w := ⟨rfl, Qt.refl _⟩
theorem quiet_left {P : Program} {f : FuncId} {args : Array Value} {w : World} {n : Nat} {v : Value}
    (h : Calls P f args (w.drewN n) fun e w' => e = .returned v ∧ w.drewN n = w') : Calls P f args (w.drewN n) fun e w'' => e = .returned v ∧ ∃ m, w'' = w.drewN m :=
  h.mono fun _ _ ⟨he, hm⟩ => ⟨he, n, hm.symm⟩
theorem quiet_q {P : Program} {f : FuncId} {args : Array Value} {w : World} {n : Nat} {v : Value}
    (h : Calls P f args (w.drewN n) (RetQ (w.drewN n) v)) : Calls P f args (w.drewN n) fun e w'' => e = .returned v ∧ ∃ m, w'' = w.drewN m :=
  h.mono fun _ _ ⟨he, q, hq⟩ => ⟨he, n + q, by rw [hq, World.drewN_drewN]⟩

/-- The element at a place, 0 past the end (not opened by the walk). -/
def nth (xs : List Int) (n : Nat) : Int := xs.getD n 0
theorem nth_past {xs : List Int} {n : Nat} (h : xs.length ≤ n) : nth xs n = 0 := by
  unfold nth; rw [List.getD_eq_getElem?_getD, List.getElem?_eq_none h]; rfl
theorem nth_eq {xs : List Int} {n : Nat} (h : n < xs.length) : nth xs n = xs[n] := by
  unfold nth; rw [List.getD_eq_getElem?_getD, List.getElem?_eq_getElem h]; rfl
theorem nth_cons_succ (x : Int) (xs : List Int) (n : Nat) : nth (x :: xs) (n + 1) = nth xs n := rfl
theorem nth_cons_zero (x : Int) (xs : List Int) : nth (x :: xs) 0 = x := rfl

/-- The slice value v reads as xs in w. -/
def Row (w : World) (v : Value) (xs : List Int) : Prop :=
  ∃ A c, v = .slice A xs.length c ∧ xs.length ≤ c ∧ c ≤ maxLen ∧
    (0 < xs.length → ∃ b off, A = some ⟨b, off, none⟩ ∧ b < w.heap.size ∧ ∀ j, j < xs.length → w.cell? ⟨b, off + j, none⟩ = some (.int .i64 (nth xs j)))

theorem Row.ext {w w' : World} {v : Value} {xs : List Int} (h : Row w v xs) (k : Ext w w') : Row w' v xs := by
  obtain ⟨A, c, rfl, h1, h2, h3⟩ := h
  refine ⟨A, c, rfl, h1, h2, fun hp => ?_⟩
  obtain ⟨b, off, rfl, hb, hc⟩ := h3 hp
  exact ⟨b, off, rfl, Nat.lt_of_lt_of_le hb k.size, fun j hj => (k.cell hb).trans (hc j hj)⟩
theorem Row.nil (w : World) (A : Option Addr) (c : Nat) (hc : c ≤ maxLen) : Row w (.slice A 0 c) [] := ⟨A, c, rfl, Nat.zero_le _, hc, fun h => absurd h (by simp)⟩
theorem Row.len_le {w : World} {v : Value} {xs : List Int} (h : Row w v xs) : xs.length ≤ 9223372036854775807 := by
  obtain ⟨A, c, _, h1, h2, _⟩ := h
  unfold maxLen at h2; omega

theorem Row.take {w : World} {A : Option Addr} {c : Nat} {xs : List Int} (h : Row w (.slice A xs.length c) xs) (k : Nat) (hk : k ≤ xs.length) : Row w (.slice A k c) (xs.take k) := by
  obtain ⟨A', c', e, h1, h2, h3⟩ := h
  injection e with e1 e2 e3
  subst e1 e3
  have hlen : (xs.take k).length = k := by simp; omega
  refine ⟨A, c, by rw [hlen], by omega, h2, fun hp => ?_⟩
  obtain ⟨b, off, rfl, hb, hc⟩ := h3 (by omega)
  refine ⟨b, off, rfl, hb, fun j hj => ?_⟩
  rw [hc j (by omega)]
  congr 2
  rw [nth_eq (by omega), nth_eq hj, List.getElem_take]

/-- Of what lay in a nothing has turned in b, but for the blocks of S. -/
structure Only (S : List Nat) (a b : World) : Prop where
  os : b.os = a.os
  tape : b.tape = a.tape
  output : b.output = a.output
  size : a.heap.size ≤ b.heap.size
  block : ∀ k, k < a.heap.size → k ∉ S → b.heap[k]? = a.heap[k]?
theorem Only.refl (S : List Nat) (a : World) : Only S a a := ⟨rfl, rfl, rfl, Nat.le_refl _, fun _ _ _ => rfl⟩
theorem Only.trans {S : List Nat} {a b c : World} (h : Only S a b) (k : Only S b c) : Only S a c :=
  ⟨k.os.trans h.os, k.tape.trans h.tape, k.output.trans h.output, Nat.le_trans h.size k.size, fun i hi hn => (k.block i (Nat.lt_of_lt_of_le hi h.size) hn).trans (h.block i hi hn)⟩
theorem Only.drew {S : List Nat} {a b : World} (h : Only S a b) : Only S a b.drew := ⟨h.os, h.tape, h.output, h.size, h.block⟩
theorem Only.drewN {S : List Nat} {a b : World} (h : Only S a b) (n : Nat) : Only S a (b.drewN n) := ⟨h.os, h.tape, h.output, h.size, h.block⟩
theorem Only.setCell {S : List Nat} {a b : World} (h : Only S a b) {p : Addr} (hp : p.block ∈ S) (u : Value) : Only S a (b.setCell p u) :=
  h.trans ⟨rfl, rfl, rfl, by simp [World.setCell], fun k _ hn => Below.heap_setCell _ _ _ _ (fun e => hn (e ▸ hp))⟩
theorem Only.of_ext {S : List Nat} {a b : World} (h : Ext a b) : Only S a b := ⟨h.os, h.tape, h.output, h.size, fun i hi _ => h.block i hi⟩
theorem Only.cell {S : List Nat} {a b : World} (h : Only S a b) {p : Addr} (hp : p.block < a.heap.size) (hn : p.block ∉ S) : b.cell? p = a.cell? p := World.cell?_of_block (h.block _ hp hn)
theorem Only.frozen {S : List Nat} {a b : World} (h : Only S a b) {p : Addr} (hp : p.block < a.heap.size) (hn : p.block ∉ S) : b.frozen? p = a.frozen? p := World.frozen?_of_block (h.block _ hp hn)
theorem Ext.only {S : List Nat} {a b c : World} (h : Ext a b) (k : Only S b c) (hS : ∀ i ∈ S, a.heap.size ≤ i) : Ext a c :=
  ⟨k.os.trans h.os, k.tape.trans h.tape, k.output.trans h.output, Nat.le_trans h.size k.size, fun i hi => (k.block i (Nat.lt_of_lt_of_le hi h.size) (fun hm => by have := hS i hm; omega)).trans (h.block i hi)⟩

/-! Three new blocks. -/
section
variable (w : World) (c1 c2 c3 : Array Value) (t1 t2 t3 : TypeId) (i : Nat)
abbrev three (w : World) (c1 c2 c3 : Array Value) (t1 t2 t3 : TypeId) : World := ((w.alloc (.cells c1 t1)).alloc (.cells c2 t2)).alloc (.cells c3 t3)
theorem three_size : (three w c1 c2 c3 t1 t2 t3).heap.size = w.heap.size + 1 + 1 + 1 := by simp
theorem three_ext : Ext w (three w c1 c2 c3 t1 t2 t3) := (((Ext.refl w).alloc _).alloc _).alloc _
theorem three_0 : (three w c1 c2 c3 t1 t2 t3).cell? ⟨w.heap.size, i, none⟩ = c1[i]? := by
  rw [World.cell?_alloc_lt _ _ _ (by simp; omega), World.cell?_alloc_lt _ _ _ (by simp), World.cell?_alloc_new]
theorem three_1 : (three w c1 c2 c3 t1 t2 t3).cell? ⟨w.heap.size + 1, i, none⟩ = c2[i]? := by
  rw [World.cell?_alloc_lt _ _ _ (by simp)]
  have := World.cell?_alloc_new (w.alloc (.cells c1 t1)) c2 t2 i
  rwa [World.size_alloc] at this
theorem three_2 : (three w c1 c2 c3 t1 t2 t3).cell? ⟨w.heap.size + 1 + 1, i, none⟩ = c3[i]? := by
  have := World.cell?_alloc_new ((w.alloc (.cells c1 t1)).alloc (.cells c2 t2)) c3 t3 i
  rwa [World.size_alloc, World.size_alloc] at this
theorem three_f2 : (three w c1 c2 c3 t1 t2 t3).frozen? ⟨w.heap.size + 1 + 1, i, none⟩ = false := by
  have := World.frozen?_alloc_new ((w.alloc (.cells c1 t1)).alloc (.cells c2 t2)) c3 t3 i
  rwa [World.size_alloc, World.size_alloc] at this
end
theorem Row.only {S : List Nat} {w w1 w' : World} {v : Value} {xs : List Int} (h : Row w v xs) (k : Ext w w1) (o : Only S w1 w') (hS : ∀ i ∈ S, w.heap.size ≤ i) : Row w' v xs := h.ext (k.only o hS)

end Go.Proofs.YtncopdgonbgaaaaDoor
