/- Memory and naturals. -/
import Derived.WalkKit
import Derived.WalkLawsBesides
import Derived.Deep.QuietTactic
import Derived.BigQuiet
import Derived.Lib.Hide
import Derived.Test.YtomdbmjfehoodaaGreatDoorChecked
import Derived.Deep.RegionWith
import Derived.Deep.RegionHeld3
import Derived.Laws.AppendOwnNone
import Derived.Laws.CopyOwn
set_option maxRecDepth 8000
/- Words for memory: a slice value that reads as a list of ints; what is kept while the heap grows. No program is named here. -/
namespace Go.Proofs.YtomdbmjfehoodaaGreatDoor
open Go.RowKit

/-- Of what lay in a nothing has turned in b. -/
def Ext (a b : World) : Prop := Below a.heap.size a b
theorem Ext.refl (a : World) : Ext a a := Below.refl _ _
theorem Ext.trans {a b c : World} (h : Ext a b) (k : Ext b c) : Ext a c := Below.trans h (Below.mono k h.size)
theorem Ext.drew {a b : World} (h : Ext a b) : Ext a b.drew := Below.drew h
theorem Ext.drewN {a b : World} (h : Ext a b) (n : Nat) : Ext a (b.drewN n) := ⟨h.os, h.tape, h.output, h.size, h.block⟩
theorem Ext.alloc {a b : World} (h : Ext a b) (o : Obj) : Ext a (b.alloc o) := Below.alloc h h.size o
theorem Ext.setCell {a b : World} (h : Ext a b) {p : Addr} (hp : a.heap.size ≤ p.block) (u : Value) : Ext a (b.setCell p u) := Below.setCell h hp u
theorem Ext.grown {a b c : World} {row : Option Nat} (h : Ext a b) (hg : b.grownBy c row) (hr : ∀ k, row = some k → a.heap.size ≤ k) : Ext a c := Below.grown h hg h.size hr
theorem Ext.cell {a b : World} (h : Ext a b) {p : Addr} (hp : p.block < a.heap.size) : b.cell? p = a.cell? p := Below.cell h hp
theorem Ext.frozen {a b : World} (h : Ext a b) {p : Addr} (hp : p.block < a.heap.size) : b.frozen? p = a.frozen? p := Below.frozen h hp

/-- b is a, but for draws. -/
def Qt (a b : World) : Prop := ∃ q, b = a.drewN q
theorem Qt.refl (a : World) : Qt a a := ⟨0, rfl⟩
theorem Qt.drewN {a b : World} (h : Qt a b) (n : Nat) : Qt a (b.drewN n) := by
  obtain ⟨q, rfl⟩ := h
  exact ⟨q + n, by rw [World.drewN_drewN]⟩
theorem Qt.drew {a b : World} (h : Qt a b) : Qt a b.drew := h.drewN 1
theorem Qt.trans {a b c : World} (h : Qt a b) (k : Qt b c) : Qt a c := by
  obtain ⟨q, rfl⟩ := k
  exact h.drewN q
theorem Qt.cell {a b : World} (h : Qt a b) (p : Addr) : b.cell? p = a.cell? p := by obtain ⟨q, rfl⟩ := h; rfl
theorem Qt.frozen {a b : World} (h : Qt a b) (p : Addr) : b.frozen? p = a.frozen? p := by obtain ⟨q, rfl⟩ := h; rfl
theorem Qt.size {a b : World} (h : Qt a b) : b.heap.size = a.heap.size := by obtain ⟨q, rfl⟩ := h; rfl
theorem Qt.ext {a b : World} (h : Qt a b) : Ext a b := by obtain ⟨q, rfl⟩ := h; exact (Ext.refl a).drewN q
/-- It returned v, and did no more than look. -/
def RetQ (w : World) (v : Value) (e : Ending) (w' : World) : Prop := e = .returned v ∧ Qt w w'
theorem RetQ.same {w : World} {v : Value} : RetQ w v (.returned v) w := ⟨rfl, Qt.refl _⟩
theorem quiet_left {P : Program} {f : FuncId} {args : Array Value} {w : World} {n : Nat} {v : Value}
    (h : Calls P f args (w.drewN n) fun e w' => e = .returned v ∧ w.drewN n = w') : Calls P f args (w.drewN n) fun e w'' => e = .returned v ∧ ∃ m, w'' = w.drewN m :=
  h.mono fun _ _ ⟨he, hm⟩ => ⟨he, n, hm.symm⟩
theorem quiet_q {P : Program} {f : FuncId} {args : Array Value} {w : World} {n : Nat} {v : Value}
    (h : Calls P f args (w.drewN n) (RetQ (w.drewN n) v)) : Calls P f args (w.drewN n) fun e w'' => e = .returned v ∧ ∃ m, w'' = w.drewN m :=
  h.mono fun _ _ ⟨he, q, hq⟩ => ⟨he, n + q, by rw [hq, World.drewN_drewN]⟩

/-- The element at a place, 0 past the end (not opened by the walk). -/
def nth (xs : List Int) (n : Nat) : Int := xs.getD n 0
theorem nth_past {xs : List Int} {n : Nat} (h : xs.length ≤ n) : nth xs n = 0 := by
  unfold nth; rw [List.getD_eq_getElem?_getD, List.getElem?_eq_none h]; rfl
theorem nth_eq {xs : List Int} {n : Nat} (h : n < xs.length) : nth xs n = xs[n] := by
  unfold nth; rw [List.getD_eq_getElem?_getD, List.getElem?_eq_getElem h]; rfl
theorem nth_cons_succ (x : Int) (xs : List Int) (n : Nat) : nth (x :: xs) (n + 1) = nth xs n := rfl
theorem nth_cons_zero (x : Int) (xs : List Int) : nth (x :: xs) 0 = x := rfl

/-- The slice value v reads as xs in w. -/
def Row (w : World) (v : Value) (xs : List Int) : Prop :=
  ∃ A c, v = .slice A xs.length c ∧ xs.length ≤ c ∧ c ≤ maxLen ∧
    (0 < xs.length → ∃ b off, A = some ⟨b, off, none⟩ ∧ b < w.heap.size ∧ ∀ j, j < xs.length → w.cell? ⟨b, off + j, none⟩ = some (.int .i64 (nth xs j)))

theorem Row.ext {w w' : World} {v : Value} {xs : List Int} (h : Row w v xs) (k : Ext w w') : Row w' v xs := by
  obtain ⟨A, c, rfl, h1, h2, h3⟩ := h
  refine ⟨A, c, rfl, h1, h2, fun hp => ?_⟩
  obtain ⟨b, off, rfl, hb, hc⟩ := h3 hp
  exact ⟨b, off, rfl, Nat.lt_of_lt_of_le hb k.size, fun j hj => (k.cell hb).trans (hc j hj)⟩
theorem Row.nil (w : World) (A : Option Addr) (c : Nat) (hc : c ≤ maxLen) : Row w (.slice A 0 c) [] := ⟨A, c, rfl, Nat.zero_le _, hc, fun h => absurd h (by simp)⟩
theorem Row.len_le {w : World} {v : Value} {xs : List Int} (h : Row w v xs) : xs.length ≤ 9223372036854775807 := by
  obtain ⟨A, c, _, h1, h2, _⟩ := h
  unfold maxLen at h2; omega

theorem Row.take {w : World} {A : Option Addr} {c : Nat} {xs : List Int} (h : Row w (.slice A xs.length c) xs) (k : Nat) (hk : k ≤ xs.length) : Row w (.slice A k c) (xs.take k) := by
  obtain ⟨A', c', e, h1, h2, h3⟩ := h
  injection e with e1 e2 e3
  subst e1 e3
  have hlen : (xs.take k).length = k := by simp; omega
  refine ⟨A, c, by rw [hlen], by omega, h2, fun hp => ?_⟩
  obtain ⟨b, off, rfl, hb, hc⟩ := h3 (by omega)
  refine ⟨b, off, rfl, hb, fun j hj => ?_⟩
  rw [hc j (by omega)]
  congr 2
  rw [nth_eq (by omega), nth_eq hj, List.getElem_take]

/-- Of what lay in a nothing has turned in b, but for the blocks of S. -/
structure Only (S : List Nat) (a b : World) : Prop where
  os : b.os = a.os
  tape : b.tape = a.tape
  output : b.output = a.output
  size : a.heap.size ≤ b.heap.size
  block : ∀ k, k < a.heap.size → k ∉ S → b.heap[k]? = a.heap[k]?
theorem Only.refl (S : List Nat) (a : World) : Only S a a := ⟨rfl, rfl, rfl, Nat.le_refl _, fun _ _ _ => rfl⟩
theorem Only.trans {S : List Nat} {a b c : World} (h : Only S a b) (k : Only S b c) : Only S a c :=
  ⟨k.os.trans h.os, k.tape.trans h.tape, k.output.trans h.output, Nat.le_trans h.size k.size, fun i hi hn => (k.block i (Nat.lt_of_lt_of_le hi h.size) hn).trans (h.block i hi hn)⟩
theorem Only.drew {S : List Nat} {a b : World} (h : Only S a b) : Only S a b.drew := ⟨h.os, h.tape, h.output, h.size, h.block⟩
theorem Only.drewN {S : List Nat} {a b : World} (h : Only S a b) (n : Nat) : Only S a (b.drewN n) := ⟨h.os, h.tape, h.output, h.size, h.block⟩
theorem Only.setCell {S : List Nat} {a b : World} (h : Only S a b) {p : Addr} (hp : p.block ∈ S) (u : Value) : Only S a (b.setCell p u) :=
  h.trans ⟨rfl, rfl, rfl, by simp [World.setCell], fun k _ hn => Below.heap_setCell _ _ _ _ (fun e => hn (e ▸ hp))⟩
theorem Only.of_ext {S : List Nat} {a b : World} (h : Ext a b) : Only S a b := ⟨h.os, h.tape, h.output, h.size, fun i hi _ => h.block i hi⟩
theorem Only.cell {S : List Nat} {a b : World} (h : Only S a b) {p : Addr} (hp : p.block < a.heap.size) (hn : p.block ∉ S) : b.cell? p = a.cell? p := World.cell?_of_block (h.block _ hp hn)
theorem Only.frozen {S : List Nat} {a b : World} (h : Only S a b) {p : Addr} (hp : p.block < a.heap.size) (hn : p.block ∉ S) : b.frozen? p = a.frozen? p := World.frozen?_of_block (h.block _ hp hn)
theorem Ext.only {S : List Nat} {a b c : World} (h : Ext a b) (k : Only S b c) (hS : ∀ i ∈ S, a.heap.size ≤ i) : Ext a c :=
  ⟨k.os.trans h.os, k.tape.trans h.tape, k.output.trans h.output, Nat.le_trans h.size k.size, fun i hi => (k.block i (Nat.lt_of_lt_of_le hi h.size) (fun hm => by have := hS i hm; omega)).trans (h.block i hi)⟩

/-! Three new blocks. -/
section
variable (w : World) (c1 c2 c3 : Array Value) (t1 t2 t3 : TypeId) (i : Nat)
abbrev three (w : World) (c1 c2 c3 : Array Value) (t1 t2 t3 : TypeId) : World := ((w.alloc (.cells c1 t1)).alloc (.cells c2 t2)).alloc (.cells c3 t3)
theorem three_size : (three w c1 c2 c3 t1 t2 t3).heap.size = w.heap.size + 1 + 1 + 1 := by simp
theorem three_ext : Ext w (three w c1 c2 c3 t1 t2 t3) := (((Ext.refl w).alloc _).alloc _).alloc _
theorem three_0 : (three w c1 c2 c3 t1 t2 t3).cell? ⟨w.heap.size, i, none⟩ = c1[i]? := by
  rw [World.cell?_alloc_lt _ _ _ (by simp; omega), World.cell?_alloc_lt _ _ _ (by simp), World.cell?_alloc_new]
theorem three_1 : (three w c1 c2 c3 t1 t2 t3).cell? ⟨w.heap.size + 1, i, none⟩ = c2[i]? := by
  rw [World.cell?_alloc_lt _ _ _ (by simp)]
  have := World.cell?_alloc_new (w.alloc (.cells c1 t1)) c2 t2 i
  rwa [World.size_alloc] at this
theorem three_2 : (three w c1 c2 c3 t1 t2 t3).cell? ⟨w.heap.size + 1 + 1, i, none⟩ = c3[i]? := by
  have := World.cell?_alloc_new ((w.alloc (.cells c1 t1)).alloc (.cells c2 t2)) c3 t3 i
  rwa [World.size_alloc, World.size_alloc] at this
theorem three_f2 : (three w c1 c2 c3 t1 t2 t3).frozen? ⟨w.heap.size + 1 + 1, i, none⟩ = false := by
  have := World.frozen?_alloc_new ((w.alloc (.cells c1 t1)).alloc (.cells c2 t2)) c3 t3 i
  rwa [World.size_alloc, World.size_alloc] at this
end
theorem Row.only {S : List Nat} {w w1 w' : World} {v : Value} {xs : List Int} (h : Row w v xs) (k : Ext w w1) (o : Only S w1 w') (hS : ∀ i ∈ S, w.heap.size ≤ i) : Row w' v xs := h.ext (k.only o hS)

end Go.Proofs.YtomdbmjfehoodaaGreatDoor

/- Plain mathematics of limbs: no program, no memory. -/
namespace Go.Proofs.YtomdbmjfehoodaaGreatDoor

/-- 2^24, the base of the limbs, to a power. -/
def bp : Nat → Int
  | 0 => 1
  | n + 1 => 16777216 * bp n
theorem bp_pos : ∀ n, 0 < bp n
  | 0 => by decide
  | n + 1 => by have := bp_pos n; unfold bp; omega
theorem bp_succ (n : Nat) : bp (n + 1) = 16777216 * bp n := rfl
theorem bp_add (m : Nat) : ∀ n, bp (m + n) = bp m * bp n
  | 0 => by simp [bp]
  | n + 1 => by rw [← Nat.add_assoc, bp_succ, bp_succ, bp_add m n, Int.mul_left_comm]
theorem bp_mono {m n : Nat} (h : m ≤ n) : bp m ≤ bp n := by
  obtain ⟨k, rfl⟩ := Nat.exists_eq_add_of_le h
  rw [bp_add]
  have h1 := bp_pos m
  have h2 := bp_pos k
  have : bp m * 1 ≤ bp m * bp k := Int.mul_le_mul_of_nonneg_left (by omega) (by omega)
  omega
theorem bp_eq (n : Nat) : bp n = 16777216 ^ n := by
  induction n with
  | zero => rfl
  | succ n ih => rw [bp_succ, ih, Int.pow_succ, Int.mul_comm]

/-- The sum of h j times the base's powers, over j below n. -/
def S (h : Nat → Int) : Nat → Int
  | 0 => 0
  | n + 1 => S h n + h n * bp n
theorem S_succ (h : Nat → Int) (n : Nat) : S h (n + 1) = S h n + h n * bp n := rfl
theorem S_shift (h : Nat → Int) : ∀ n, S h (n + 1) = h 0 + 16777216 * S (fun j => h (j + 1)) n
  | 0 => by simp [S, bp]
  | n + 1 => by
    rw [S_succ, S_shift h n, S_succ (fun j => h (j + 1)), bp_succ, Int.mul_add, Int.mul_left_comm]
    omega
theorem S_congr {h k : Nat → Int} : ∀ n, (∀ j, j < n → h j = k j) → S h n = S k n
  | 0, _ => rfl
  | n + 1, e => by rw [S_succ, S_succ, S_congr n (fun j hj => e j (by omega)), e n (by omega)]
theorem S_zero : ∀ n, S (fun _ => 0) n = 0
  | 0 => rfl
  | n + 1 => by rw [S_succ, S_zero n]; simp
theorem S_add (h k : Nat → Int) : ∀ n, S (fun j => h j + k j) n = S h n + S k n
  | 0 => rfl
  | n + 1 => by rw [S_succ, S_succ, S_succ, S_add h k n, Int.add_mul]; omega
theorem S_sub (h k : Nat → Int) : ∀ n, S (fun j => h j - k j) n = S h n - S k n
  | 0 => rfl
  | n + 1 => by rw [S_succ, S_succ, S_succ, S_sub h k n, Int.sub_mul]; omega
theorem S_mul (c : Int) (h : Nat → Int) : ∀ n, S (fun j => c * h j) n = c * S h n
  | 0 => by simp [S]
  | n + 1 => by rw [S_succ, S_succ, S_mul c h n, Int.mul_add, Int.mul_assoc]
theorem S_more {h : Nat → Int} {n : Nat} : ∀ {m : Nat}, n ≤ m → (∀ j, n ≤ j → j < m → h j = 0) → S h m = S h n
  | 0, hm, _ => by have : n = 0 := by omega
                   subst this; rfl
  | m + 1, hm, hz => by
    by_cases e : n = m + 1
    · rw [e]
    · rw [S_succ, hz m (by omega) (by omega), S_more (by omega) (fun j a b => hz j a (by omega))]; simp
theorem S_bounds {h : Nat → Int} : ∀ {n : Nat}, (∀ j, j < n → 0 ≤ h j ∧ h j < 16777216) → 0 ≤ S h n ∧ S h n < bp n
  | 0, _ => by simp [S, bp]
  | n + 1, hb => by
    obtain ⟨a, b⟩ := S_bounds (n := n) (fun j hj => hb j (by omega))
    obtain ⟨c, d⟩ := hb n (by omega)
    have hp := bp_pos n
    rw [S_succ, bp_succ]
    have h1 : 0 ≤ h n * bp n := Int.mul_nonneg c (by omega)
    have h2 : h n * bp n ≤ 16777215 * bp n := Int.mul_le_mul_of_nonneg_right (by omega) (by omega)
    omega

/-- What a row of limbs is worth. -/
def val : List Int → Int
  | [] => 0
  | x :: xs => x + 16777216 * val xs
theorem val_S : ∀ xs : List Int, val xs = S (nth xs) xs.length
  | [] => rfl
  | x :: xs => by
    rw [val, val_S xs, List.length_cons, S_shift]; rfl
theorem val_S_ge {xs : List Int} {n : Nat} (h : xs.length ≤ n) : S (nth xs) n = val xs := by
  rw [val_S]; exact S_more h (fun j hj _ => nth_past hj)

def Limbs (xs : List Int) : Prop := ∀ j, j < xs.length → 0 ≤ nth xs j ∧ nth xs j < 16777216
theorem Limbs.at {xs : List Int} (h : Limbs xs) (j : Nat) : 0 ≤ nth xs j ∧ nth xs j < 16777216 := by
  by_cases hj : j < xs.length
  · exact h j hj
  · rw [nth_past (by omega)]; omega
theorem Limbs.tail {x : Int} {xs : List Int} (h : Limbs (x :: xs)) : Limbs xs := fun j hj => h (j + 1) (by simpa using hj)
theorem Limbs.head {x : Int} {xs : List Int} (h : Limbs (x :: xs)) : 0 ≤ x ∧ x < 16777216 := h 0 (by simp)
theorem val_bounds {xs : List Int} (h : Limbs xs) : 0 ≤ val xs ∧ val xs < bp xs.length := by
  rw [val_S]; exact S_bounds h

/-- The one form of a natural: limbs, of which the last is not 0. -/
def NF (xs : List Int) : Prop := Limbs xs ∧ (xs = [] ∨ nth xs (xs.length - 1) ≠ 0)
theorem NF.nil : NF [] := ⟨fun j hj => absurd hj (by simp), .inl rfl⟩
theorem NF.tail {x : Int} {xs : List Int} (h : NF (x :: xs)) : NF xs := by
  refine ⟨h.1.tail, ?_⟩
  rcases xs with _ | ⟨y, ys⟩
  · exact .inl rfl
  · right
    rcases h.2 with h2 | h2
    · cases h2
    · simpa [nth_cons_succ] using h2
theorem NF.pos {xs : List Int} (h : NF xs) (hne : xs ≠ []) : bp (xs.length - 1) ≤ val xs := by
  induction xs with
  | nil => exact absurd rfl hne
  | cons x xs ih =>
    have hx := h.1.head
    by_cases e : xs = []
    · subst e
      rcases h.2 with h2 | h2
      · cases h2
      · simp [nth_cons_zero] at h2
        simp [val, bp]; omega
    · have := ih h.tail e
      have hl : xs.length ≠ 0 := by simpa using e
      have e2 : (x :: xs).length - 1 = (xs.length - 1) + 1 := by simp; omega
      rw [e2, bp_succ, val]; omega
theorem NF.inj : ∀ {xs ys : List Int}, NF xs → NF ys → val xs = val ys → xs = ys
  | [], [], _, _, _ => rfl
  | [], y :: ys, _, h, e => by
    have := h.pos (by simp)
    have := bp_pos ((y :: ys).length - 1)
    have : val [] = 0 := rfl
    omega
  | x :: xs, [], h, _, e => by
    have := h.pos (by simp)
    have := bp_pos ((x :: xs).length - 1)
    have : val [] = 0 := rfl
    omega
  | x :: xs, y :: ys, h, k, e => by
    have hx := h.1.head
    have hy := k.1.head
    simp only [val] at e
    have e1 : x = y := by omega
    have e2 : val xs = val ys := by omega
    rw [e1, NF.inj h.tail k.tail e2]
theorem NF.len_le {xs : List Int} {n : Nat} (h : NF xs) (hv : val xs < bp n) : xs.length ≤ n := by
  by_cases e : xs = []
  · subst e; simp
  · have h1 := h.pos e
    by_cases hc : xs.length ≤ n
    · exact hc
    · have := bp_mono (show n ≤ xs.length - 1 by omega)
      omega

/-! Sums with a carry. -/
/-- The carry ahead of a place, and the limb at it, of sums h that begin with the carry c. -/
def carryAt (h : Nat → Int) (c : Int) : Nat → Int
  | 0 => c
  | j + 1 => (h j + carryAt h c j) / 16777216
def limbAt (h : Nat → Int) (c : Int) (j : Nat) : Int := (h j + carryAt h c j) % 16777216
theorem carryAt_succ (h : Nat → Int) (c : Int) (j : Nat) : carryAt h c (j + 1) = (h j + carryAt h c j) / 16777216 := rfl
theorem limbAt_bounds (h : Nat → Int) (c : Int) (j : Nat) : 0 ≤ limbAt h c j ∧ limbAt h c j < 16777216 := by unfold limbAt; omega
theorem carry_sum (h : Nat → Int) (c : Int) : ∀ n, S (limbAt h c) n + carryAt h c n * bp n = c + S h n
  | 0 => by simp [S, carryAt, bp]
  | n + 1 => by
    have ih := carry_sum h c n
    rw [S_succ, S_succ, carryAt_succ, bp_succ]
    have e : h n + carryAt h c n = 16777216 * ((h n + carryAt h c n) / 16777216) + limbAt h c n := by unfold limbAt; omega
    have e2 : (h n + carryAt h c n) / 16777216 * (16777216 * bp n) = 16777216 * ((h n + carryAt h c n) / 16777216) * bp n := by
      rw [← Int.mul_assoc, Int.mul_comm ((h n + carryAt h c n) / 16777216) 16777216]
    rw [e2]
    have e3 : h n * bp n + carryAt h c n * bp n = 16777216 * ((h n + carryAt h c n) / 16777216) * bp n + limbAt h c n * bp n := by
      rw [← Int.add_mul, ← Int.add_mul, ← e]
    omega
theorem carry_end {h : Nat → Int} {c : Int} {n : Nat} (h0 : 0 ≤ c + S h n) (h1 : c + S h n < bp n) : S (limbAt h c) n = c + S h n := by
  have e := carry_sum h c n
  obtain ⟨a, b⟩ := S_bounds (n := n) (fun j _ => limbAt_bounds h c j)
  have hp := bp_pos n
  have hc : carryAt h c n = 0 := by
    rcases Int.lt_trichotomy (carryAt h c n) 0 with k | k | k
    · have : carryAt h c n * bp n ≤ (-1) * bp n := Int.mul_le_mul_of_nonneg_right (by omega) (by omega)
      omega
    · exact k
    · have : 1 * bp n ≤ carryAt h c n * bp n := Int.mul_le_mul_of_nonneg_right (by omega) (by omega)
      omega
  rw [hc] at e
  omega
theorem carry_bound {h : Nat → Int} {c M : Int} {n : Nat} (hM : 1 ≤ M) (hc : -M ≤ c ∧ c ≤ M) (hh : ∀ j, j < n → -M ≤ h j ∧ h j ≤ M) : ∀ j, j ≤ n → -M ≤ carryAt h c j ∧ carryAt h c j ≤ M
  | 0, _ => hc
  | j + 1, hj => by
    have := carry_bound hM hc hh j (by omega)
    have := hh j (by omega)
    rw [carryAt_succ]
    omega
theorem carry_bound_zero {c M : Int} (hc : 0 ≤ c ∧ c ≤ M) : ∀ j, 0 ≤ carryAt (fun _ => 0) c j ∧ carryAt (fun _ => 0) c j ≤ M
  | 0 => hc
  | j + 1 => by
    have := carry_bound_zero hc j
    rw [carryAt_succ]
    omega

/-! Products. -/
def conv : List Int → List Int → Nat → Int
  | [], _, _ => 0
  | x :: _, b, 0 => x * nth b 0
  | x :: a, b, p + 1 => x * nth b (p + 1) + conv a b p
theorem S_conv : ∀ (a b : List Int) (n : Nat), a.length + b.length ≤ n → S (conv a b) n = val a * val b
  | [], b, n, _ => by
    have e : S (conv [] b) n = S (fun _ => 0) n := S_congr n (fun j _ => rfl)
    rw [e, S_zero]; simp [val]
  | x :: a, b, 0, h => by simp at h
  | x :: a, b, n + 1, h => by
    have hn : a.length + b.length ≤ n := by simp at h; omega
    rw [S_shift]
    have e : S (fun j => conv (x :: a) b (j + 1)) n = x * S (fun j => nth b (j + 1)) n + S (conv a b) n := by
      have e0 : S (fun j => conv (x :: a) b (j + 1)) n = S (fun j => x * nth b (j + 1) + conv a b j) n := S_congr n (fun j _ => rfl)
      rw [e0, S_add, S_mul]
    have e2 := S_shift (nth b) n
    rw [val_S_ge (by omega)] at e2
    rw [e, S_conv a b n hn, val, Int.add_mul]
    have e3 : x * val b = x * nth b 0 + 16777216 * (x * S (fun j => nth b (j + 1)) n) := by rw [e2, Int.mul_add, Int.mul_left_comm]
    rw [e3, Int.mul_assoc 16777216 (val a)]
    simp only [conv]
    omega
def term (a b : List Int) (p t : Nat) : Int := if t ≤ p then nth a t * nth b (p - t) else 0
def psum (a b : List Int) (p : Nat) : Nat → Int
  | 0 => 0
  | k + 1 => psum a b p k + term a b p k
theorem psum_shift (x : Int) (a b : List Int) (p : Nat) : ∀ k, psum (x :: a) b p (k + 1) = x * nth b p + (match p with | 0 => 0 | q + 1 => psum a b q k)
  | 0 => by cases p <;> simp [psum, term, nth_cons_zero]
  | k + 1 => by
    rw [psum, psum_shift x a b p k]
    cases p with
    | zero => simp [term]
    | succ q => simp only [psum, term, nth_cons_succ, Nat.add_le_add_iff_right, Nat.add_sub_add_right]; omega
theorem psum_conv : ∀ (a b : List Int) (p k : Nat), a.length ≤ k → psum a b p k = conv a b p
  | [], b, p, k, _ => by
    induction k with
    | zero => rfl
    | succ k ih =>
      rw [psum, ih (by simp)]
      simp [term, conv, nth_past]
  | x :: a, b, p, 0, h => by simp at h
  | x :: a, b, p, k + 1, h => by
    rw [psum_shift]
    cases p with
    | zero => simp [conv]
    | succ q => simp only [conv]; rw [psum_conv a b q k (by simpa using h)]
theorem psum_more {a b : List Int} {p k : Nat} (hk : p < k) : ∀ m, k ≤ m → psum a b p m = psum a b p k
  | 0, h => by have : k = 0 := by omega
               subst this; rfl
  | m + 1, h => by
    by_cases e : k = m + 1
    · rw [e]
    · rw [psum, psum_more hk m (by omega)]; simp [term]; omega
theorem psum_low {a b : List Int} {p : Nat} : ∀ k, k + b.length ≤ p + 1 → psum a b p k = 0
  | 0, _ => rfl
  | k + 1, h => by
    rw [psum, psum_low k (by omega)]
    unfold term
    rw [if_pos (by omega), nth_past (xs := b) (by omega)]; simp
theorem psum_end {a b : List Int} {p k : Nat} (h : a.length ≤ k ∨ p < k) : psum a b p k = conv a b p := by
  rcases h with h | h
  · exact psum_conv a b p k h
  · rw [← psum_more h (k + a.length) (by omega)]; exact psum_conv a b p _ (by omega)
theorem term_bounds {a b : List Int} (ha : Limbs a) (hb : Limbs b) (p t : Nat) : 0 ≤ term a b p t ∧ term a b p t ≤ 281474943156225 := by
  unfold term
  split
  · have h1 := ha.at t
    have h2 := hb.at (p - t)
    refine ⟨Int.mul_nonneg h1.1 h2.1, ?_⟩
    have : nth a t * nth b (p - t) ≤ 16777215 * 16777215 := Int.mul_le_mul (by omega) (by omega) h2.1 (by omega)
    omega
  · omega
theorem psum_bounds {a b : List Int} (ha : Limbs a) (hb : Limbs b) (p : Nat) : ∀ k : Nat, 0 ≤ psum a b p k ∧ psum a b p k ≤ k * 281474943156225
  | 0 => by simp [psum]
  | k + 1 => by
    have h1 := psum_bounds ha hb p k
    have h2 := term_bounds ha hb p k
    rw [psum]; omega

/-! Order. -/
theorem S_lex {a b : Nat → Int} {i : Nat} (ha : ∀ j, 0 ≤ a j ∧ a j < 16777216) (hb : ∀ j, 0 ≤ b j ∧ b j < 16777216) (hi : a i < b i) : S a (i + 1) < S b (i + 1) := by
  have h1 := S_bounds (n := i) (fun j _ => ha j)
  have h2 := S_bounds (n := i) (fun j _ => hb j)
  have hp := bp_pos i
  rw [S_succ, S_succ]
  have h3 : (a i + 1) * bp i ≤ b i * bp i := Int.mul_le_mul_of_nonneg_right (by omega) (by omega)
  rw [Int.add_mul] at h3
  omega
theorem S_same {a b : Nat → Int} {i n : Nat} (h : ∀ j, i ≤ j → a j = b j) (hn : i ≤ n) : S a n - S b n = S a i - S b i := by
  induction n with
  | zero => have : i = 0 := by omega
            subst this; rfl
  | succ n ih =>
    by_cases e : i = n + 1
    · rw [e]
    · have := ih (by omega)
      rw [S_succ, S_succ, h n (by omega)]; omega
theorem val_lex {a b : List Int} {i : Nat} (ha : Limbs a) (hb : Limbs b) (hl : a.length = b.length) (hi : i < a.length) (h : ∀ j, i + 1 ≤ j → nth a j = nth b j) (hlt : nth a i < nth b i) : val a < val b := by
  have h1 := S_lex ha.at hb.at hlt
  have h2 := S_same (n := a.length) h (by omega)
  rw [val_S, val_S, ← hl]; omega
theorem val_eq_of_nth {a b : List Int} (hl : a.length = b.length) (h : ∀ j, nth a j = nth b j) : val a = val b := by
  rw [val_S, val_S, ← hl]; exact S_congr _ (fun j _ => h j)
theorem val_short {a b : List Int} (ha : NF a) (hb : NF b) (hl : a.length < b.length) : val a < val b := by
  have h1 := (val_bounds ha.1).2
  have h2 := hb.pos (by intro e; subst e; simp at hl)
  have h3 := bp_mono (show a.length ≤ b.length - 1 by omega)
  omega
/-- -1, 0 or 1. -/
def cmpI (x y : Int) : Int := if x < y then -1 else if x = y then 0 else 1
theorem cmpI_lt {x y : Int} (h : x < y) : cmpI x y = -1 := by unfold cmpI; rw [if_pos h]
theorem cmpI_eq {x y : Int} (h : x = y) : cmpI x y = 0 := by unfold cmpI; rw [if_neg (by omega), if_pos h]
theorem cmpI_gt {x y : Int} (h : y < x) : cmpI x y = 1 := by unfold cmpI; rw [if_neg (by omega), if_neg (by omega)]

/-! Bits. -/
/-- How many bits. -/
def bl (m : Nat) : Nat := if m = 0 then 0 else m.log2 + 1
theorem bl_zero : bl 0 = 0 := rfl
theorem bl_lt (m : Nat) : m < 2 ^ bl m := by
  unfold bl
  split
  · subst_vars; simp
  · rename_i h; exact (Nat.log2_lt h).1 (Nat.lt_succ_self _)
theorem bl_le {m : Nat} (h : m ≠ 0) : 2 ^ (bl m - 1) ≤ m := by
  unfold bl
  rw [if_neg h]
  exact Nat.log2_self_le h
theorem bl_of_lt {m n : Nat} (h : m < 2 ^ n) : bl m ≤ n := by
  unfold bl
  split
  · omega
  · rename_i h0; exact (Nat.log2_lt h0).2 h
theorem bl_gt {m n : Nat} (h : 2 ^ n ≤ m) : n < bl m := by
  rcases Nat.lt_or_ge n (bl m) with h1 | h1
  · exact h1
  · have := bl_lt m
    have := Nat.pow_le_pow_right (show 0 < 2 by omega) h1
    omega
theorem bl_is {m n : Nat} (h1 : 2 ^ n ≤ m) (h2 : m < 2 ^ (n + 1)) : bl m = n + 1 := by
  have := bl_of_lt h2
  have := bl_gt h1
  omega
theorem bl_half {m : Nat} (h : m ≠ 0) : bl m = bl (m / 2) + 1 := by
  unfold bl
  rw [if_neg h, Nat.log2_def]
  by_cases h2 : m / 2 = 0
  · rw [if_pos h2, if_neg (by omega)]
  · rw [if_neg h2, if_pos (by omega)]
theorem bp_two (n : Nat) : bp n = ((2 ^ (24 * n) : Nat) : Int) := by
  induction n with
  | zero => rfl
  | succ n ih =>
    rw [bp_succ, ih, Nat.mul_succ, Nat.pow_add, Int.natCast_mul, Int.mul_comm]
    have e : ((2 ^ 24 : Nat) : Int) = 16777216 := by decide
    rw [e]
theorem bl_top {xs : List Int} {m t : Nat} (h : NF xs) (hne : xs ≠ []) (hv : val xs = (m : Int)) (ht : nth xs (xs.length - 1) = (t : Int)) : bl m = 24 * (xs.length - 1) + bl t := by
  have hb := h.1.at (xs.length - 1)
  have ht0 : t ≠ 0 := by
    rcases h.2 with e | e
    · exact absurd e hne
    · omega
  have hl : xs.length ≠ 0 := by simpa using hne
  obtain ⟨n, hn⟩ : ∃ n, xs.length = n + 1 := ⟨xs.length - 1, by omega⟩
  rw [hn] at ht ⊢
  rw [Nat.add_sub_cancel] at ht ⊢
  have hS := S_bounds (n := n) (fun j _ => h.1.at j)
  have e : (m : Int) = S (nth xs) n + (t : Int) * ((2 ^ (24 * n) : Nat) : Int) := by rw [← hv, val_S, hn, S_succ, ht, bp_two]
  rw [bp_two] at hS
  obtain ⟨s, hs⟩ := Int.eq_ofNat_of_zero_le hS.1
  rw [hs] at e hS
  have e' : m = s + t * 2 ^ (24 * n) := by exact_mod_cast e
  have hs' : s < 2 ^ (24 * n) := by exact_mod_cast hS.2
  have h1 := bl_lt t
  have h2 := bl_le ht0
  have hp := Nat.two_pow_pos (24 * n)
  have h3 : bl t ≠ 0 := by intro e0; rw [e0] at h1; simp at h1; omega
  obtain ⟨k, hk⟩ : ∃ k, bl t = k + 1 := ⟨bl t - 1, by omega⟩
  rw [hk] at h1 h2 ⊢
  rw [Nat.add_sub_cancel] at h2
  rw [← Nat.add_assoc]
  apply bl_is
  · rw [Nat.pow_add, e']
    have : 2 ^ (24 * n) * 2 ^ k ≤ 2 ^ (24 * n) * t := Nat.mul_le_mul_left _ h2
    rw [Nat.mul_comm t]; omega
  · rw [Nat.add_assoc, Nat.pow_add, e']
    have : 2 ^ (24 * n) * (t + 1) ≤ 2 ^ (24 * n) * 2 ^ (k + 1) := Nat.mul_le_mul_left _ h1
    rw [Nat.mul_succ] at this
    rw [Nat.mul_comm t]; omega

/-- The slice value v reads as the natural m in w. -/
def N (w : World) (v : Value) (m : Nat) : Prop := ∃ xs, Row w v xs ∧ NF xs ∧ val xs = (m : Int)
theorem N.ext {w w' : World} {v : Value} {m : Nat} (h : N w v m) (k : Ext w w') : N w' v m := by
  obtain ⟨xs, h1, h2, h3⟩ := h
  exact ⟨xs, h1.ext k, h2, h3⟩
theorem N.zero (w : World) (A : Option Addr) (c : Nat) (hc : c ≤ maxLen) : N w (.slice A 0 c) 0 := ⟨[], Row.nil w A c hc, NF.nil, rfl⟩
theorem N.form {w : World} {v : Value} (h : N w v 0) : ∃ A c, v = .slice A 0 c ∧ c ≤ maxLen := by
  obtain ⟨xs, ⟨A, c, rfl, h1, h2, _⟩, n, e⟩ := h
  have hx : xs = [] := by
    rcases hxs : xs with _ | ⟨x, ys⟩
    · rfl
    · have := n.pos (by rw [hxs]; simp)
      have := bp_pos (xs.length - 1)
      omega
  subst hx
  exact ⟨A, c, rfl, h2⟩
/-- Less than the base's k-th power. (A structure: a plain definition would be laid open by the walk's 'contradiction'.) -/
structure Lt (k m : Nat) : Prop where
  out : (m : Int) < bp k
theorem N.len {m k : Nat} {xs : List Int} (h : Lt k m) (hn : NF xs) (hv : val xs = (m : Int)) : xs.length ≤ k := hn.len_le (by rw [hv]; exact h.out)
theorem Lt.mono {k l m : Nat} (h : Lt k m) (hk : k ≤ l) : Lt l m := ⟨Int.lt_of_lt_of_le h.out (bp_mono hk)⟩
theorem Lt.add {k m n : Nat} (h : Lt k m) (h' : Lt k n) : Lt (k + 1) (m + n) := by
  obtain ⟨h⟩ := h
  obtain ⟨h'⟩ := h'
  refine ⟨?_⟩
  rw [bp_succ]; have := bp_pos k; omega
theorem Lt.mul {k l m n : Nat} (h : Lt k m) (h' : Lt l n) : Lt (k + l) (m * n) := by
  obtain ⟨h⟩ := h
  obtain ⟨h'⟩ := h'
  refine ⟨?_⟩
  rw [bp_add]
  have h1 := bp_pos k
  have h2 := bp_pos l
  have : (m : Int) * (n : Int) ≤ (m : Int) * bp l := Int.mul_le_mul_of_nonneg_left (by omega) (by omega)
  have : (m : Int) * bp l < bp k * bp l := Int.mul_lt_mul_of_pos_right h h2
  push_cast
  omega
theorem Lt.bits {k m : Nat} (h : Lt k m) : bl m ≤ 24 * k := bl_of_lt (by have h := h.out; rw [bp_two] at h; exact_mod_cast h)
theorem Lt.of_bits {k m : Nat} (h : bl m ≤ 24 * k) : Lt k m := by
  refine ⟨?_⟩
  rw [bp_two]
  have h1 := bl_lt m
  have h2 := Nat.pow_le_pow_right (show 0 < 2 by omega) h
  exact_mod_cast Nat.lt_of_lt_of_le h1 h2
theorem Lt.of_le {k m n : Nat} (h : Lt k n) (hm : m ≤ n) : Lt k m := ⟨by have := h.out; omega⟩
/-- It returned the natural m, in new memory. -/
def RetN (w : World) (m : Nat) (e : Ending) (w' : World) : Prop := ∃ v, e = .returned v ∧ N w' v m ∧ Ext w w'

end Go.Proofs.YtomdbmjfehoodaaGreatDoor

/- Plain mathematics of a root taken limb by limb. -/
namespace Go.Proofs.YtomdbmjfehoodaaGreatDoor

/-- r is the root of x, downwards. -/
def Sq (x r : Nat) : Prop := r * r ≤ x ∧ x < (r + 1) * (r + 1)
theorem Sq.uniq {x r s : Nat} (h : Sq x r) (k : Sq x s) : r = s := by
  rcases Nat.lt_trichotomy r s with e | e | e
  · have := Nat.mul_le_mul (show r + 1 ≤ s from e) (show r + 1 ≤ s from e)
    have := h.2; have := k.1; omega
  · exact e
  · have := Nat.mul_le_mul (show s + 1 ≤ r from e) (show s + 1 ≤ r from e)
    have := k.2; have := h.1; omega

theorem newton_ge {n r : Nat} (k : Nat) (hr : 0 < r) (hk : k * k ≤ n) : k ≤ (r + n / r) / 2 := by
  have h1 : 2 * k ≤ r + n / r := by
    rcases Nat.lt_or_ge (r + n / r) (2 * k) with h | h
    · exfalso
      have h2 : n / r < 2 * k - r := by omega
      have h3 : n < (2 * k - r) * r := (Nat.div_lt_iff_lt_mul hr).1 h2
      have h4 : (2 * k - r) * r ≤ k * k := by
        rcases Nat.le_total r k with e | e
        · obtain ⟨d, rfl⟩ := Nat.exists_eq_add_of_le e
          have : 2 * (r + d) - r = r + 2 * d := by omega
          rw [this]
          have : (r + 2 * d) * r = r * r + 2 * (d * r) := by rw [Nat.add_mul, Nat.mul_assoc]
          have : (r + d) * (r + d) = r * r + 2 * (d * r) + d * d := by
            rw [Nat.add_mul, Nat.mul_add, Nat.mul_add, Nat.mul_comm r d]; omega
          omega
        · obtain ⟨d, rfl⟩ := Nat.exists_eq_add_of_le e
          rcases Nat.le_total d k with e2 | e2
          · obtain ⟨f, rfl⟩ := Nat.exists_eq_add_of_le e2
            have : 2 * (d + f) - (d + f + d) = f := by omega
            rw [this]
            have e3 : f * (d + f + d) = f * f + 2 * (f * d) := by rw [Nat.mul_add, Nat.mul_add]; omega
            have e4 : (d + f) * (d + f) = d * d + 2 * (f * d) + f * f := by
              rw [Nat.add_mul, Nat.mul_add, Nat.mul_add, Nat.mul_comm d f]; omega
            omega
          · have : 2 * k - (k + d) = 0 := by omega
            rw [this]; simp
      omega
    · exact h
  omega
theorem newton_stop {n r : Nat} (hr : 0 < r) (h : r ≤ (r + n / r) / 2) : r * r ≤ n := by
  have h1 : r ≤ n / r := by omega
  exact (Nat.le_div_iff_mul_le hr).1 h1

/-- The limb q fits behind the root r. -/
def Fit (r all q : Nat) : Prop := (2 * r * 16777216 + q) * q ≤ all
theorem fit_zero (r all : Nat) : Fit r all 0 := by unfold Fit; simp
theorem fit_mono {r all q q' : Nat} (h : Fit r all q) (hq : q' ≤ q) : Fit r all q' := by
  unfold Fit at *
  exact Nat.le_trans (Nat.mul_le_mul (by omega) hq) h
theorem fit_step_any {B B2 r s x h l q : Nat} (hB : B2 = B * B) (hx : x = r * r + s) (hf : (2 * r * B + q) * q ≤ s * B2 + h * B + l) (hn : ¬ (2 * r * B + (q + 1)) * (q + 1) ≤ s * B2 + h * B + l) :
    (r * B + q) * (r * B + q) ≤ x * B2 + h * B + l ∧ x * B2 + h * B + l < (r * B + q + 1) * (r * B + q + 1) ∧
    x * B2 + h * B + l = (r * B + q) * (r * B + q) + (s * B2 + h * B + l - (2 * r * B + q) * q) := by
  have e1 : (r * B + q) * (r * B + q) = r * r * B2 + (2 * r * B + q) * q := by
    rw [Nat.add_mul, Nat.mul_add, Nat.mul_add, Nat.add_mul, hB]
    have a1 : r * B * (r * B) = r * r * (B * B) := Nat.mul_mul_mul_comm r B r B
    have a2 : q * (r * B) = r * B * q := Nat.mul_comm _ _
    have a3 : 2 * r * B * q = 2 * (r * B * q) := by rw [Nat.mul_assoc 2 r, Nat.mul_assoc 2]
    omega
  have e2 : (r * B + q + 1) * (r * B + q + 1) = r * r * B2 + (2 * r * B + (q + 1)) * (q + 1) := by
    have b1 : (r * B + q + 1) * (r * B + q + 1) = (r * B + q) * (r * B + q) + 2 * (r * B + q) + 1 := by
      rw [Nat.add_mul, Nat.mul_add]; omega
    have b2 : (2 * r * B + (q + 1)) * (q + 1) = (2 * r * B + q) * q + 2 * r * B + 2 * q + 1 := by
      have : 2 * r * B + (q + 1) = (2 * r * B + q) + 1 := by omega
      rw [this, Nat.add_mul, Nat.mul_add]; omega
    have b3 : 2 * r * B = 2 * (r * B) := Nat.mul_assoc _ _ _
    rw [b1, b2, e1]; omega
  have e3 : x * B2 = r * r * B2 + s * B2 := by rw [hx, Nat.add_mul]
  omega
theorem fit_step {r s x h l q : Nat} (hx : x = r * r + s) (hf : Fit r (s * 281474976710656 + h * 16777216 + l) q) (hn : ¬ Fit r (s * 281474976710656 + h * 16777216 + l) (q + 1)) :
    Sq (x * 281474976710656 + h * 16777216 + l) (r * 16777216 + q) ∧
    x * 281474976710656 + h * 16777216 + l = (r * 16777216 + q) * (r * 16777216 + q) + (s * 281474976710656 + h * 16777216 + l - (2 * r * 16777216 + q) * q) :=
  have k := fit_step_any (B := 16777216) (B2 := 281474976710656) (by decide) hx hf hn
  ⟨⟨k.1, k.2.1⟩, k.2.2⟩
theorem sq_rest {x r s : Nat} (h : Sq x r) (e : x = r * r + s) : s ≤ 2 * r := by
  have := h.2
  have : (r + 1) * (r + 1) = r * r + 2 * r + 1 := by rw [Nat.add_mul, Nat.mul_add]; omega
  omega
theorem sq_of_rest {x r s : Nat} (e : x = r * r + s) (h : s ≤ 2 * r) : Sq x r := by
  have : (r + 1) * (r + 1) = r * r + 2 * r + 1 := by rw [Nat.add_mul, Nat.mul_add]; omega
  exact ⟨by omega, by omega⟩

/-- No limb that fits is above the guess. -/
theorem guess_ge {r s h l q d : Nat} (hs : s ≤ 2 * r) (hh : h < 16777216) (hl : l < 16777216) (hr : 0 < 2 * r / 2 ^ d) (hf : Fit r (s * 281474976710656 + h * 16777216 + l) q) :
    q ≤ (s * 16777216 + h) / 2 ^ d / (2 * r / 2 ^ d) ∧ q ≤ 16777215 := by
  unfold Fit at hf
  have hp := Nat.two_pow_pos d
  have h1 : q * (2 * r) ≤ s * 16777216 + h := by
    rcases Nat.lt_or_ge (s * 16777216 + h) (q * (2 * r)) with e | e
    · exfalso
      have e1 : (s * 16777216 + h + 1) * 16777216 ≤ q * (2 * r) * 16777216 := Nat.mul_le_mul_right _ e
      have e2 : q * (2 * r) * 16777216 ≤ (2 * r * 16777216 + q) * q := by
        rw [Nat.add_mul, Nat.mul_comm (2 * r * 16777216) q, Nat.mul_assoc q]; omega
      omega
    · exact e
  constructor
  · rw [Nat.le_div_iff_mul_le hr, Nat.le_div_iff_mul_le hp, Nat.mul_assoc]
    have : 2 * r / 2 ^ d * 2 ^ d ≤ 2 * r := Nat.div_mul_le_self _ _
    exact Nat.le_trans (Nat.mul_le_mul_left q this) h1
  · rcases Nat.lt_or_ge 16777215 q with e | e
    · exfalso
      have e1 : (2 * r * 16777216 + 16777216) * 16777216 ≤ (2 * r * 16777216 + q) * q := Nat.mul_le_mul (by omega) e
      omega
    · exact e
theorem guess_small {r s h d : Nat} (hs : s ≤ 2 * r) (hh : h < 16777216) (hd : d = bl (2 * r) - 36) :
    (s * 16777216 + h) / 2 ^ d < 4611686018427387904 ∧ 2 * r / 2 ^ d < 4611686018427387904 := by
  have hp := Nat.two_pow_pos d
  have hb := bl_lt (2 * r)
  have hpow : 2 ^ bl (2 * r) ≤ 2 ^ d * 68719476736 := by
    have : (68719476736 : Nat) = 2 ^ 36 := by decide
    rw [this, ← Nat.pow_add]
    exact Nat.pow_le_pow_right (by omega) (by omega)
  rw [Nat.div_lt_iff_lt_mul hp, Nat.div_lt_iff_lt_mul hp]
  generalize 2 ^ d = P at *
  generalize 2 ^ bl (2 * r) = Q at *
  constructor <;> omega
theorem guess_pos {r d : Nat} (hr : 0 < r) (hd : d = bl (2 * r) - 36) : 0 < 2 * r / 2 ^ d := by
  apply Nat.div_pos _ (Nat.two_pow_pos d)
  have h1 := bl_le (m := 2 * r) (by omega)
  have h2 : 0 < bl (2 * r) := by
    rcases Nat.eq_zero_or_pos (bl (2 * r)) with e | e
    · have := bl_lt (2 * r); rw [e] at this; simp at this; omega
    · exact e
  exact Nat.le_trans (Nat.pow_le_pow_right (by omega) (by omega)) h1

theorem sq_down {m u R : Nat} (h : Sq (m * 2 ^ (2 * u)) R) : Sq m (R / 2 ^ u) := by
  have hp := Nat.two_pow_pos u
  have e : 2 ^ (2 * u) = 2 ^ u * 2 ^ u := by rw [← Nat.pow_add]; congr 1; omega
  rw [e] at h
  generalize hP : 2 ^ u = P at *
  have h1 : R / P * P ≤ R := Nat.div_mul_le_self _ _
  have h2 : R < (R / P + 1) * P := by
    have := Nat.lt_div_mul_add hp (a := R)
    rw [Nat.add_mul]; omega
  refine ⟨?_, ?_⟩
  · have a1 : (R / P * P) * (R / P * P) ≤ R * R := Nat.mul_le_mul h1 h1
    have a2 : (R / P) * (R / P) * (P * P) ≤ m * (P * P) := by
      rw [Nat.mul_mul_mul_comm] at a1
      exact Nat.le_trans a1 h.1
    exact Nat.le_of_mul_le_mul_right a2 (Nat.mul_pos hp hp)
  · have a1 : (R + 1) * (R + 1) ≤ ((R / P + 1) * P) * ((R / P + 1) * P) := Nat.mul_le_mul h2 h2
    rw [Nat.mul_mul_mul_comm] at a1
    have a2 : m * (P * P) < (R / P + 1) * (R / P + 1) * (P * P) := Nat.lt_of_lt_of_le h.2 a1
    exact Nat.lt_of_mul_lt_mul_right a2
theorem Lt.root {k r x : Nat} (h : Lt (k + k) x) (hr : r * r ≤ x) : Lt k r := by
  obtain ⟨h⟩ := h
  refine ⟨?_⟩
  rcases Int.lt_or_le (r : Int) (bp k) with e | e
  · exact e
  · exfalso
    have hp := bp_pos k
    have : bp k * bp k ≤ (r : Int) * (r : Int) := Int.mul_le_mul e e (by omega) (by omega)
    rw [bp_add] at h
    have : ((r * r : Nat) : Int) ≤ (x : Int) := by exact_mod_cast hr
    push_cast at this
    omega

theorem Lt.behind {k m x : Nat} (h : Lt k m) (hx : x < 16777216) : Lt (k + 1) (m * 16777216 + x) := by
  obtain ⟨h⟩ := h
  refine ⟨?_⟩
  rw [bp_succ]; omega
theorem Lt.limb {x k : Nat} (hx : x < 16777216) : Lt (k + 1) x := by
  refine ⟨?_⟩
  rw [bp_succ]; have := bp_pos k; omega

end Go.Proofs.YtomdbmjfehoodaaGreatDoor

/- What the walks of naturals stand on: no function of the program is named here. -/
namespace Go.Proofs.YtomdbmjfehoodaaGreatDoor
open Go.RowKit

theorem ret_int {k : IntKind} {a b : Int} (h : a = b) : Ending.returned (.int k a) = .returned (.int k b) := by rw [h]
theorem i64_and24 (x : Int) : bits .and .i64 x 16777215 = x % 16777216 := by
  show IntKind.i64.wrap ((BitVec.ofInt 64 x &&& BitVec.ofInt 64 (16777215 : Int)).toNat : Int) = _
  have e : (BitVec.ofInt 64 (16777215 : Int)).toNat = 2 ^ 24 - 1 := by decide
  rw [BitVec.toNat_and, e, Nat.and_two_pow_sub_one_eq_mod, BitVec.toNat_ofInt, IntKind.wrap_i64]
  omega
/-- What 'trimmed' leaves: the same slice, cut behind its last number that is not 0. -/
def TrimPost (w : World) (v : Value) (xs : List Int) (e : Ending) (w' : World) : Prop :=
  ∃ A c k, v = .slice A xs.length c ∧ k ≤ xs.length ∧ e = .returned (.slice A k c) ∧ w = w' ∧ (∀ j, k ≤ j → nth xs j = 0) ∧ (k = 0 ∨ nth xs (k - 1) ≠ 0)
/-- What 'sums' leaves. -/
def SumsPost (w : World) (bo bc off n cap : Nat) (h : Nat → Int) (c : Int) (e : Ending) (w' : World) : Prop :=
  ∃ k, k ≤ n ∧ e = .returned (.slice (some ⟨bo, off, none⟩) k cap) ∧ Only [bo, bc] w w' ∧ (∀ j, j < n → w'.cell? ⟨bo, off + j, none⟩ = some (.int .i64 (limbAt h c j))) ∧
    (∀ j, k ≤ j → j < n → limbAt h c j = 0) ∧ (k = 0 ∨ limbAt h c (k - 1) ≠ 0) ∧ (∀ x, x < off → w'.cell? ⟨bo, x, none⟩ = w.cell? ⟨bo, x, none⟩)
theorem Row.drewN {w : World} {v : Value} {xs : List Int} (h : Row w v xs) (n : Nat) : Row (w.drewN n) v xs := h
theorem info_int : (Tryz.prog.info? 3).map (fun i => (i.zero, i.size, i.bytes)) = some (some (.int .i64 0), 1, 8) := by kernel_rfl
/-- 'make([]int, n)'. -/
theorem mk_ints (W : World) (n : Nat) (l : Int) (hl : l = (n : Int)) (hn : n ≤ 1000000) : (Instr.makeSlice 24 (.int .i64 l) (.int .i64 l)).run Tryz.prog W =
    .ok (.slice (some ⟨W.heap.size, 0, none⟩) n n) (W.alloc (.cells (madeCells #[.int .i64 0] n) 3)) := by
  obtain ⟨i0, hi, hz0, hz1, hz2⟩ := info_parts info_int
  subst hl
  have hr := run_make (P := Tryz.prog) W 24 3 i0 (.int .i64 0) Tryz.underlying24 hi hz0 .i64 .i64 n n (by omega) (by omega) (by rw [hz2]; omega) (by omega)
  rw [hz1] at hr
  simpa [Value.cells] using hr
theorem mkf (fn : Fn) (first cap : Array Value) (w : World) : (Instr.makeFunc fn first cap).run Tryz.prog w = .ok (.func fn first cap) w := rfl
/-- What 'make([]int, n)' leaves. -/
structure Made (n : Nat) (w w' : World) : Prop where
  ext : Ext w w'
  size : w'.heap.size = w.heap.size + 1
  cell : ∀ j, j < n → w'.cell? ⟨w.heap.size, j, none⟩ = some (.int .i64 0)
  frozen : ∀ j, w'.frozen? ⟨w.heap.size, j, none⟩ = false
  blk : w'.heap[w.heap.size]? = some (.cells (List.replicate n (Value.int .i64 0)).toArray 3 (0, 0))
theorem madeCells_zeros (n : Nat) : madeCells #[.int .i64 0] n = (List.replicate n (Value.int .i64 0)).toArray := by
  apply Array.ext
  · simp [madeCells]
  · intro i h1 h2
    simp [madeCells, Nat.mod_one]
theorem wpList_mk_ints (w : World) {ops : Array Oper} {rest : List Oper} {o : Oper} {a : Act} {Q : Exit → Act → World → Prop} (hg : o.guard = none) (l : Operand) (hop : o.op = Op.makeSlice 24 l l)
    (n : Nat) (L : Int) (hl : a.eval l = .int .i64 L) (hL : L = (n : Int)) (hn : n ≤ 1000000)
    (hK : ∀ w', Made n w w' → wpList Tryz.prog ops Q rest (a.put o.dst (.slice (some ⟨w.heap.size, 0, none⟩) n n)) w') : wpList Tryz.prog ops Q (o :: rest) a w := by
  refine wpList_plain hg fun K hK' => ?_
  have hrun := mk_ints w n L hL hn
  unfold Oper.wp
  simp only [execOp, hop, hl, Sem.run_bind, hrun, Result.andThen_ok]
  refine hK' _ _ (hK _ ⟨(Ext.refl w).alloc _, by simp, fun j hj => ?_, fun j => ?_, ?_⟩)
  · rw [World.cell?_alloc_new]
    simp [madeCells, hj, Nat.mod_one]
  · rw [World.frozen?_alloc_new]
  · rw [madeCells_zeros]; exact heap_alloc_new w _
/-- What 'sums' over a new row leaves: the natural m. -/
def SumN (w : World) (bo bc m : Nat) (e : Ending) (w' : World) : Prop := ∃ v, e = .returned v ∧ N w' v m ∧ Only [bo, bc] w w'
/-- The slice value v lies in a block from base on, which nobody else has; it reads as xs. -/
def Own (w : World) (base : Nat) (v : Value) (xs : List Int) : Prop := w.ownsRow base 3 1 v xs.length (xs.map (Value.int .i64))
theorem Own.nil (w : World) (base : Nat) : Own w base (.slice none 0 0) [] := World.ownsRow_nil w base _ _
theorem Own.row {w : World} {base : Nat} {v : Value} {xs : List Int} (h : Own w base v xs) : Row w v xs := by
  obtain ⟨h1, h2⟩ := h
  rcases h2 with ⟨rfl, h0⟩ | ⟨g, cap, cur, rfl, hb, hg, hn, hm, hs, ht⟩
  · have : xs = [] := List.eq_nil_of_length_eq_zero h0
    subst this
    exact Row.nil w none 0 (by simp [maxLen])
  · refine ⟨_, cap, rfl, hn, hm, fun _ => ⟨g, 0, rfl, (Array.getElem?_eq_some_iff.1 hg).1, fun j hj => ?_⟩⟩
    rw [Nat.zero_add, cell_of_row w g j cur _ (0, 0) hg]
    have e : (cur.toList.take (xs.length * 1))[j]? = some (Value.int .i64 (nth xs j)) := by
      rw [ht, List.getElem?_map, List.getElem?_eq_getElem hj, nth_eq hj]; rfl
    rw [List.getElem?_take, if_pos (by omega)] at e
    simpa using e
theorem Own.lt {w : World} {base : Nat} {v : Value} {xs : List Int} (h : Own w base v xs) : ∀ k, v.ownBlock = some k → base ≤ k ∧ k < w.heap.size := World.ownsRow.lt h
theorem Own.ext {w w' : World} {base : Nat} {v : Value} {xs : List Int} (h : Own w base v xs) (k : Ext w w') : Own w' base v xs :=
  World.ownsRow.kept h (row := none) ⟨k.os, k.tape, k.output, k.size, fun i hi _ => k.block i hi⟩ (by cases v.ownBlock <;> simp)
theorem Own.alloc {w : World} {base : Nat} {v : Value} {xs : List Int} (h : Own w base v xs) (o : Obj) : Own (w.alloc o) base v xs := h.ext ((Ext.refl w).alloc o)
theorem Own.drewN {w : World} {base : Nat} {v : Value} {xs : List Int} (h : Own w base v xs) (n : Nat) : Own (w.drewN n) base v xs := h
theorem Own.empty (w : World) (base : Nat) (hb : base ≤ w.heap.size) : Own (w.alloc (.cells #[] 3)) base (.slice (some ⟨w.heap.size, 0, none⟩) 0 0) [] :=
  World.ownsRow_made w #[] 0 hb (by simp [maxLen]) rfl
theorem Own.made {w w' : World} {n base : Nat} (h : Made n w w') (hb : base ≤ w.heap.size) (hn : n ≤ 1000000) : Own w' base (.slice (some ⟨w.heap.size, 0, none⟩) n n) (List.replicate n 0) := by
  refine ⟨by simp, .inr ⟨w.heap.size, n, _, by simp, hb, h.blk, by simp, by unfold maxLen; omega, by simp, by simp⟩⟩
theorem Ext.app {a b c : World} {base : Nat} {v : Value} {xs : List Int} (h : Ext a b) (ho : Own b base v xs) (hb : a.heap.size ≤ base) (hg : b.grownBy c v.ownBlock) : Ext a c :=
  h.grown hg (fun k hk => Nat.le_trans hb (ho.lt k hk).1)
/-- 'append(out, src...)', out the call's own. -/
theorem app_run (w : World) (ty : TypeId) (base : Nat) (v : Value) (xs : List Int) (vs : Value) (ys : List Int) (ho : Own w base v xs) (hr : Row w vs ys) (hb : base ≤ w.heap.size) (hlen : xs.length + ys.length ≤ 1000000) :
    ∃ v' w', (Builtin.append_ #[24, 24] ty #[v, vs]).run Tryz.prog w = .ok v' w' ∧ Own w' base v' (xs ++ ys) ∧ w.grownBy w' v.ownBlock := by
  obtain ⟨i0, hi, hz0, hz1, hz2⟩ := info_parts info_int
  obtain ⟨A, c, rfl, h1, h2, h3⟩ := hr
  have hgen : ∀ ad : Addr, (∀ j u, (ys.map (Value.int .i64))[j]? = some u → w.cell? (ad.add j) = some u) → ∃ v' w', (Builtin.append_ #[24, 24] ty #[v, .slice (some ad) ys.length c]).run Tryz.prog w = .ok v' w' ∧ Own w' base v' (xs ++ ys) ∧ w.grownBy w' v.ownBlock := fun ad hc => by
    obtain ⟨v', w', k1, k2, k3, _⟩ := run_append_own (P := Tryz.prog) w base 24 ty 3 i0 (.int .i64 0) 1 8 Tryz.underlying24 hi hz0 hz1 hz2 rfl (by decide) v xs.length (xs.map (Value.int .i64)) ho ad ys.length c (ys.map (Value.int .i64)) (by simp) hc
      (fun u hu => by obtain ⟨z, _, rfl⟩ := List.mem_map.1 hu; rfl) (by unfold maxLen; omega) (by omega) hb
    exact ⟨v', w', k1, by unfold Own; simpa using k2, k3⟩
  rcases A with _ | ad
  · have h0 : ys = [] := by
      rcases ys with _ | ⟨y, ys⟩
      · rfl
      · obtain ⟨b, off, hA, _⟩ := h3 (by simp)
        cases hA
    subst h0
    refine ⟨v, w, ?_, by simpa using ho, ⟨rfl, rfl, rfl, Nat.le_refl _, fun _ _ _ => rfl⟩⟩
    rcases ho.2 with ⟨rfl, _⟩ | ⟨g, cap, cur, rfl, _, _, hnc, _⟩
    · simp [Builtin.append_, run_underlying Tryz.underlying24, sizeOf, typeInfo, hi, Builtin.lenOf, Builtin.firstCells]
    · simp [Builtin.append_, run_underlying Tryz.underlying24, sizeOf, typeInfo, hi, Builtin.lenOf, Builtin.firstCells, hnc, storeCells]
  · refine hgen ad (fun j u hu => ?_)
    have hj : j < ys.length := by
      rcases Nat.lt_or_ge j ys.length with h | h
      · exact h
      · rw [List.getElem?_eq_none (by simpa using h)] at hu; cases hu
    obtain ⟨b, off, hA, hb, hc⟩ := h3 (by omega)
    injection hA with hA
    subst hA
    rw [Addr.add_lit, hc j hj, nth_eq hj]
    rw [List.getElem?_map, List.getElem?_eq_getElem hj] at hu
    simpa using hu
theorem wpList_app (w : World) {ops : Array Oper} {rest : List Oper} {o : Oper} {a : Act} {Q : Exit → Act → World → Prop} (hgd : o.guard = none) (s x : Operand)
    (hop : o.op = .call { callee := .builtin .append, args := #[s, x], argTypes := #[24, 24] })
    (base : Nat) (v : Value) (xs : List Int) (vs : Value) (ys : List Int) (hs : a.eval s = v) (hx : a.eval x = vs) (ho : Own w base v xs) (hr : Row w vs ys) (hb : base ≤ w.heap.size) (hlen : xs.length + ys.length ≤ 1000000)
    (h : ∀ v' w', Own w' base v' (xs ++ ys) → w.grownBy w' v.ownBlock → wpList Tryz.prog ops Q rest (a.put o.dst v') w') : wpList Tryz.prog ops Q (o :: rest) a w := by
  obtain ⟨v', w', hrun, h2, h3⟩ := app_run w o.type base v xs vs ys ho hr hb hlen
  refine wpList_plain hgd fun K hK => ?_
  unfold Oper.wp execOp
  simp only [hop, resolve, invoke, builtin, Sem.run_bind, Sem.run_pure, Result.andThen_ok, List.map_toArray, List.map_cons, List.map_nil, hs, hx, hrun]
  exact hK _ _ (h v' w' h2 h3)
/-- A row of one, laid in a new block. -/
theorem row_one (w : World) (x : Int) (t : TypeId) : Row (w.alloc (.cells #[.int .i64 x] t)) (.slice (some ⟨w.heap.size, 0, none⟩) 1 1) [x] := by
  refine ⟨_, _, rfl, Nat.le_refl _, by simp [maxLen], fun _ => ⟨w.heap.size, 0, rfl, by simp, fun j hj => ?_⟩⟩
  have : j = 0 := by simpa using hj
  subst this
  rw [World.cell?_alloc_new]; rfl
theorem val_drop {a : List Int} {k : Nat} (hk : k < a.length) : val (a.drop k) = nth a k + 16777216 * val (a.drop (k + 1)) := by
  rw [List.drop_eq_getElem_cons hk, val, nth_eq hk]
theorem Limbs.drop {a : List Int} (h : Limbs a) (k : Nat) : Limbs (a.drop k) := fun j hj => by
  have hj' : k + j < a.length := by simp at hj; omega
  have e : nth (a.drop k) j = nth a (k + j) := by rw [nth_eq hj, nth_eq hj']; simp
  rw [e]; exact h.at _
theorem val_drop_le {a : List Int} (h : Limbs a) : ∀ k, 0 ≤ val (a.drop k) ∧ val (a.drop k) ≤ val a
  | 0 => by simp; exact (val_bounds h).1
  | k + 1 => by
    have ih := val_drop_le h k
    have h0 := (val_bounds (h.drop (k + 1))).1
    by_cases hk : k < a.length
    · have := val_drop hk
      have := h.at k
      omega
    · rw [List.drop_eq_nil_of_le (by omega)]
      have := (val_bounds h).1
      simp [val]; omega
theorem N.row {w : World} {v : Value} {a : List Int} {m : Nat} (h : Row w v a) (n : NF a) (e : val a = (m : Int)) : N w v m := ⟨a, h, n, e⟩
/-- It returned the natural m, in new memory, and the bool b. -/
def RetNB (w : World) (m : Nat) (b : Bool) (e : Ending) (w' : World) : Prop := ∃ v, e = .returned (.tuple #[v, .bool b]) ∧ N w' v m ∧ Ext w w'
theorem two_cell0 (w : World) (c1 c2 : Array Value) (t1 t2 : TypeId) (i : Nat) : ((w.alloc (.cells c1 t1)).alloc (.cells c2 t2)).cell? ⟨w.heap.size, i, none⟩ = c1[i]? := by
  rw [World.cell?_alloc_lt _ _ _ (by simp), World.cell?_alloc_new]
theorem two_cell1 (w : World) (c1 c2 : Array Value) (t1 t2 : TypeId) (i : Nat) : ((w.alloc (.cells c1 t1)).alloc (.cells c2 t2)).cell? ⟨w.heap.size + 1, i, none⟩ = c2[i]? := by
  have := World.cell?_alloc_new (w.alloc (.cells c1 t1)) c2 t2 i
  rwa [World.size_alloc] at this
theorem two_ext (w : World) (o1 o2 : Obj) : Ext w ((w.alloc o1).alloc o2) := ((Ext.refl w).alloc _).alloc _
theorem two_size (w : World) (o1 o2 : Obj) : ((w.alloc o1).alloc o2).heap.size = w.heap.size + 1 + 1 := by simp
/-- The column at a place, as it is summed. -/
theorem col_bounds {a b : List Int} (na : NF a) (nb : NF b) (la : a.length ≤ 1000) (p k : Nat) (hk : k ≤ a.length) : 0 ≤ psum a b p k ∧ psum a b p k ≤ 281474943156225000 := by
  have := psum_bounds na.1 nb.1 p k
  have : (k : Int) * 281474943156225 ≤ 1000 * 281474943156225 := Int.mul_le_mul_of_nonneg_right (by omega) (by omega)
  omega
theorem psum_lo (a b : List Int) (p : Nat) : psum a b p (p + 1 - b.length) = 0 := by
  by_cases h : b.length ≤ p + 1
  · exact psum_low _ (by omega)
  · have e : p + 1 - b.length = 0 := by omega
    rw [e]; rfl
theorem val_split {a : List Int} : ∀ q : Nat, val a = S (nth a) q + bp q * val (a.drop q)
  | 0 => by simp [S, bp]
  | q + 1 => by
    have ih := val_split (a := a) q
    by_cases hq : q < a.length
    · rw [val_drop hq, Int.mul_add] at ih
      rw [S_succ, bp_succ, Int.mul_comm (nth a q)]
      have : 16777216 * bp q * val (a.drop (q + 1)) = bp q * (16777216 * val (a.drop (q + 1))) := by
        rw [Int.mul_comm 16777216 (bp q), Int.mul_assoc]
      omega
    · rw [List.drop_eq_nil_of_le (by omega)] at ih ⊢
      rw [S_succ, nth_past (by omega)]
      simp [val] at ih ⊢; omega
theorem val_drop_div {a : List Int} (h : Limbs a) (q : Nat) : val (a.drop q) = val a / bp q := by
  have e := val_split (a := a) q
  have hb := S_bounds (n := q) (fun j _ => h.at j)
  have hp := bp_pos q
  rw [e, Int.add_mul_ediv_left _ _ (by omega), Int.ediv_eq_zero_of_lt hb.1 hb.2]; simp
/-- The limbs of a number over 2^d. -/
def shrAt (l : List Int) (d : Nat) (p : Nat) : Int := nth l p / 2 ^ d + nth l (p + 1) * 2 ^ (24 - d) % 16777216
theorem shr_step (x1 v : Int) (d : Nat) (hd : d < 24) :
    (x1 + 16777216 * v) * 2 ^ (24 - d) = x1 * 2 ^ (24 - d) % 16777216 + 16777216 * ((x1 + 16777216 * v) / 2 ^ d) := by
  obtain rfl | rfl | rfl | rfl | rfl | rfl | rfl | rfl | rfl | rfl | rfl | rfl | rfl | rfl | rfl | rfl | rfl | rfl | rfl | rfl | rfl | rfl | rfl | rfl :
    d = 0 ∨ d = 1 ∨ d = 2 ∨ d = 3 ∨ d = 4 ∨ d = 5 ∨ d = 6 ∨ d = 7 ∨ d = 8 ∨ d = 9 ∨ d = 10 ∨ d = 11 ∨ d = 12 ∨ d = 13 ∨ d = 14 ∨ d = 15 ∨ d = 16 ∨ d = 17 ∨ d = 18 ∨ d = 19 ∨ d = 20 ∨ d = 21 ∨ d = 22 ∨ d = 23 := by omega
  all_goals (simp only [Nat.reduceSub, Int.reducePow]; omega)
theorem div_step (x v : Int) (d : Nat) (hd : d < 24) : (x + 16777216 * v) / 2 ^ d = x / 2 ^ d + v * 2 ^ (24 - d) := by
  obtain rfl | rfl | rfl | rfl | rfl | rfl | rfl | rfl | rfl | rfl | rfl | rfl | rfl | rfl | rfl | rfl | rfl | rfl | rfl | rfl | rfl | rfl | rfl | rfl :
    d = 0 ∨ d = 1 ∨ d = 2 ∨ d = 3 ∨ d = 4 ∨ d = 5 ∨ d = 6 ∨ d = 7 ∨ d = 8 ∨ d = 9 ∨ d = 10 ∨ d = 11 ∨ d = 12 ∨ d = 13 ∨ d = 14 ∨ d = 15 ∨ d = 16 ∨ d = 17 ∨ d = 18 ∨ d = 19 ∨ d = 20 ∨ d = 21 ∨ d = 22 ∨ d = 23 := by omega
  all_goals (simp only [Nat.reduceSub, Int.reducePow]; omega)
theorem S_shr (d : Nat) (hd : d < 24) : ∀ l : List Int, Limbs l → S (shrAt l d) l.length = val l / 2 ^ d
  | [], _ => by simp [S, val]
  | x :: l, h => by
    have ih := S_shr d hd l h.tail
    rw [List.length_cons, S_shift]
    have e : S (fun j => shrAt (x :: l) d (j + 1)) l.length = S (shrAt l d) l.length := S_congr _ (fun j _ => rfl)
    rw [e, ih, val, div_step _ _ _ hd]
    have e2 : shrAt (x :: l) d 0 = x / 2 ^ d + nth l 0 * 2 ^ (24 - d) % 16777216 := rfl
    rw [e2]
    cases l with
    | nil => simp [val, nth_past]
    | cons y ys =>
      have := shr_step y (val ys) d hd
      rw [nth_cons_zero, val]; omega
theorem shr_bounds {l : List Int} (h : Limbs l) (d p : Nat) : 0 ≤ shrAt l d p ∧ shrAt l d p ≤ 33554432 := by
  unfold shrAt
  have h1 := h.at p
  have hp : (1 : Int) ≤ 2 ^ d := by
    have : 0 < (2 : Int) ^ d := Int.pow_pos (by omega)
    omega
  have h2 : 0 ≤ nth l p / 2 ^ d := Int.ediv_nonneg h1.1 (by omega)
  have h3 : nth l p / 2 ^ d ≤ nth l p := Int.ediv_le_self _ h1.1
  omega
theorem shr_word {l : List Int} {d j : Nat} (B : Hid (0 ≤ shrAt l d j ∧ shrAt l d j ≤ 33554432)) :
    wrap64 (nth l j / 2 ^ d + bits BinOp.and IntKind.i64 (wrap64 (nth l (j + 1) * 2 ^ (24 - d))) 16777215) = shrAt l d j := by
  have B := B.out
  rw [i64_and24]
  have e : wrap64 (nth l (j + 1) * 2 ^ (24 - d)) % 16777216 = nth l (j + 1) * 2 ^ (24 - d) % 16777216 := by unfold wrap64; omega
  rw [e]
  unfold shrAt at B ⊢
  unfold wrap64
  omega
theorem Row.cut {w : World} {A : Option Addr} {c q : Nat} {xs : List Int} (h : Row w (.slice A xs.length c) xs) (hq : q ≤ xs.length) :
    Row w (.slice (if c = q then A else A.map (·.add q)) (xs.length - q) (c - q)) (xs.drop q) := by
  obtain ⟨A', c', e, h1, h2, h3⟩ := h
  injection e with e1 e2 e3
  subst e1 e3
  have hlen : (xs.drop q).length = xs.length - q := by simp
  refine ⟨_, c - q, by rw [hlen], by omega, by omega, fun hp => ?_⟩
  obtain ⟨b, off, rfl, hb, hc⟩ := h3 (by omega)
  rw [if_neg (by omega)]
  refine ⟨b, off + q, by simp [Addr.add_lit], hb, fun j hj => ?_⟩
  have hj' : q + j < xs.length := by omega
  rw [Nat.add_assoc, hc (q + j) hj']
  rw [nth_eq hj', nth_eq hj]
  simp
theorem two_pow_le (d : Nat) (hd : d < 24) : (1 : Int) ≤ 2 ^ d ∧ (2 : Int) ^ d ≤ 8388608 := by
  have h1 := Nat.pow_le_pow_right (show 0 < 2 by omega) (show d ≤ 23 by omega)
  have h2 := Nat.two_pow_pos d
  have e : ((2 ^ d : Nat) : Int) = (2 : Int) ^ d := by push_cast; rfl
  omega
theorem shl_bounds {d : Nat} {x : Int} (hd : d < 24) (h0 : 0 ≤ x) (h1 : x < 16777216) : 0 ≤ 2 ^ d * x ∧ 2 ^ d * x ≤ 140737488355328 := by
  have hp := two_pow_le d hd
  refine ⟨Int.mul_nonneg (by omega) h0, ?_⟩
  have : 2 ^ d * x ≤ 8388608 * 16777216 := Int.mul_le_mul hp.2 (by omega) h0 (by omega)
  omega
theorem shl_word {d : Nat} {x : Int} (hd : d < 24) (h0 : 0 ≤ x) (h1 : x < 16777216) : wrap64 (x * 2 ^ d) = 2 ^ d * x := by
  have := shl_bounds hd h0 h1
  rw [Int.mul_comm]
  unfold wrap64
  omega
theorem val_take {ys : List Int} {k : Nat} (hk : k ≤ ys.length) (hz : ∀ j, k ≤ j → nth ys j = 0) : val (ys.take k) = val ys := by
  have hlen : (ys.take k).length = k := by simp; omega
  rw [val_S, val_S, hlen, S_more hk (fun j hj _ => hz j hj)]
  exact S_congr _ (fun j hj => by rw [nth_eq (by omega), nth_eq (by omega), List.getElem_take])
theorem nf_take {ys : List Int} {k : Nat} (h : Limbs ys) (hk : k ≤ ys.length) (hl : k = 0 ∨ nth ys (k - 1) ≠ 0) : NF (ys.take k) := by
  have hlen : (ys.take k).length = k := by simp; omega
  have hn : ∀ j, j < k → nth (ys.take k) j = nth ys j := fun j hj => by rw [nth_eq (by omega), nth_eq (by omega), List.getElem_take]
  refine ⟨fun j hj => by rw [hn j (by omega)]; exact h.at j, ?_⟩
  rcases hl with e | e
  · left; subst e; simp
  · by_cases e0 : k = 0
    · left; subst e0; simp
    · right; rw [hlen, hn _ (by omega)]; exact e
/-- It returned the natural m, in the world as it is. -/
def RetH (w : World) (m : Nat) (e : Ending) (w' : World) : Prop := ∃ v, e = .returned v ∧ N w v m ∧ w = w'
theorem S_zeros (h : Nat → Int) (q : Nat) : ∀ L, S (fun x => if x < q then 0 else h (x - q)) (q + L) = bp q * S h L
  | 0 => by
    have e : S (fun x => if x < q then 0 else h (x - q)) q = S (fun _ => 0) q := S_congr q (fun j hj => by simp [hj])
    rw [Nat.add_zero, e, S_zero]; simp [S]
  | L + 1 => by
    rw [← Nat.add_assoc, S_succ, S_zeros h q L, S_succ, bp_add, Int.mul_add, if_neg (by omega), Nat.add_sub_cancel_left, Int.mul_left_comm]
/-- What the sums of Shl leave: the whole row. -/
def ShlPost (w : World) (bo n m : Nat) (e : Ending) (w' : World) : Prop :=
  ∃ v ys, e = .returned v ∧ ys.length = n ∧ Row w' (.slice (some ⟨bo, 0, none⟩) n n) ys ∧ Limbs ys ∧ val ys = (m : Int) ∧ Ext w w'
theorem size_int : (Tryz.prog.info? 3).map (·.size) = some 1 := by kernel_rfl
/-- 'copy(dst, src)', dst in a row that is known whole. -/
theorem copy_ints (w : World) (ty : TypeId) (dp : Option Addr) (dLen dCap : Nat) (vs : Value) (xs : List Int) (rs : Row w vs xs)
    (g off : Nat) (hdp : 0 < xs.length → dp = some ⟨g, off, none⟩) (cur : List Value) (t : TypeId) (hg : w.heap[g]? = some (.cells cur.toArray t (0, 0))) (hlen : xs.length ≤ dLen) (hfit : off + xs.length ≤ cur.length) :
    ∃ w', (Builtin.copy_ #[24, 24] ty #[.slice dp dLen dCap, vs]).run Tryz.prog w = .ok (.int .i64 xs.length) w' ∧
      w'.heap[g]? = some (.cells (splice cur off (xs.map (Value.int .i64))).toArray t (0, 0)) ∧ Only [g] w w' := by
  obtain ⟨A, c, rfl, h1, h2, h3⟩ := rs
  by_cases h0 : xs.length = 0
  · obtain rfl : xs = [] := List.eq_nil_of_length_eq_zero h0
    exact ⟨w, run_copy_none w _ _ ty 3 dp A dLen dCap _ c Tryz.underlying24 size_int (by simp), by simpa [splice] using hg, Only.refl _ _⟩
  · obtain ⟨b, o2, rfl, hb, hc⟩ := h3 (by omega)
    rw [hdp (by omega)]
    have hl : (xs.map (Value.int .i64)).length = xs.length := by simp
    have hmin : Nat.min xs.length dLen = xs.length := Nat.min_eq_left hlen
    have hrun := run_copy_row (P := Tryz.prog) w 24 24 ty 3 g off dLen dCap ⟨b, o2, none⟩ xs.length c cur.toArray t (xs.map (Value.int .i64)) Tryz.underlying24 size_int hg (by rw [hl, hmin]) (fun j v hv => by
      have hj : j < xs.length := by
        rcases Nat.lt_or_ge j xs.length with h | h
        · exact h
        · rw [List.getElem?_eq_none (by simpa using h)] at hv; cases hv
      rw [Addr.add_lit, hc j hj, nth_eq hj]
      rw [List.getElem?_map, List.getElem?_eq_getElem hj] at hv
      simpa using hv) (by rw [hl]; simpa using hfit) (fun v hv => by
      obtain ⟨z, _, rfl⟩ := List.mem_map.1 hv
      rfl)
    rw [hl] at hrun
    exact ⟨_, hrun, by simpa [splice] using setRow_heap w g _ _ t _ hg, ⟨rfl, rfl, rfl, by simp [World.setRow], fun k _ hn => setRow_other w g k _ (fun e => hn (by simp [e]))⟩⟩
theorem blk_set {w : World} {g : Nat} {t : TypeId} {cs : Array Value} (h : w.heap[g]? = some (.cells cs t (0, 0))) (i : Nat) (u : Value) : (w.setCell ⟨g, i, none⟩ u).heap[g]? = some (.cells (cs.setIfInBounds i u) t (0, 0)) := by
  simp [World.setCell, Array.getElem?_modify, h]
theorem blk_cell {w : World} {g : Nat} {t : TypeId} {cs : Array Value} (h : w.heap[g]? = some (.cells cs t (0, 0))) (i : Nat) : w.cell? ⟨g, i, none⟩ = cs[i]? := cell_of_row w g i cs t (0, 0) h
/-- What 'behind' has filled in. -/
theorem behind_row {w' : World} {g n : Nat} {t : TypeId} {x : Int} {a : List Int} (hn : n = a.length) (hl : a.length ≤ 1000) (hg : g < w'.heap.size)
    (h : w'.heap[g]? = some (.cells (splice (Value.int .i64 x :: List.replicate n (Value.int .i64 0)) 1 (a.map (Value.int .i64))).toArray t (0, 0))) :
    Row w' (.slice (some ⟨g, 0, none⟩) (n + 1) (n + 1)) (x :: a) := by
  subst hn
  have e : splice (Value.int .i64 x :: List.replicate a.length (Value.int .i64 0)) 1 (a.map (Value.int .i64)) = (x :: a).map (Value.int .i64) := by
    have e2 : ((Value.int .i64 x :: List.replicate a.length (Value.int .i64 0)) : List Value).drop (1 + a.length) = [] := List.drop_eq_nil_of_le (by simp; omega)
    simp only [splice, List.length_map, e2]
    simp
  rw [e] at h
  refine ⟨_, a.length + 1, rfl, by simp, by unfold maxLen; omega, fun _ => ⟨g, 0, rfl, hg, fun j hj => ?_⟩⟩
  rw [Nat.zero_add, blk_cell h, nth_eq hj, List.getElem?_toArray, List.getElem?_map, List.getElem?_eq_getElem hj]
  rfl
theorem behind_val {a : List Int} {m : Nat} {x : Int} (na : NF a) (ea : val a = (m : Int)) (x0 : 0 ≤ x) (x1 : x < 16777216) : Limbs (x :: a) ∧ val (x :: a) = ((m * 16777216 + x.toNat : Nat) : Int) := by
  refine ⟨fun j hj => ?_, by rw [val, ea]; omega⟩
  cases j with
  | zero => exact ⟨x0, x1⟩
  | succ j => rw [nth_cons_succ]; exact na.1.at j
/-- Is a row a natural of at most 300 limbs? -/
def rightB (xs : List Int) : Bool := xs.all (fun x => decide (0 ≤ x ∧ x ≤ 16777215)) && decide (xs.length ≤ 300) && (xs.isEmpty || nth xs (xs.length - 1) != 0)
theorem all_nth {xs : List Int} {p : Int → Bool} : xs.all p = true ↔ ∀ j, j < xs.length → p (nth xs j) = true := by
  rw [List.all_eq_true]
  constructor
  · intro h j hj; rw [nth_eq hj]; exact h _ (List.getElem_mem hj)
  · intro h x hx
    obtain ⟨j, hj, rfl⟩ := List.getElem_of_mem hx
    have := h j hj; rwa [nth_eq hj] at this
theorem right_iff {xs : List Int} : rightB xs = true ↔ NF xs ∧ xs.length ≤ 300 := by
  unfold rightB NF
  rw [Bool.and_eq_true, Bool.and_eq_true, all_nth, Bool.or_eq_true, decide_eq_true_eq, bne_iff_ne, List.isEmpty_iff]
  constructor
  · rintro ⟨⟨h1, h2⟩, h3⟩
    exact ⟨⟨fun j hj => by have := h1 j hj; rw [decide_eq_true_eq] at this; omega, h3⟩, h2⟩
  · rintro ⟨⟨h1, h3⟩, h2⟩
    exact ⟨⟨fun j hj => by have := h1 j hj; rw [decide_eq_true_eq]; omega, h2⟩, h3⟩
theorem right_bad {xs : List Int} {j : Nat} (hj : j < xs.length) (h : nth xs j < 0 ∨ 16777215 < nth xs j) : rightB xs = false := by
  rcases hb : rightB xs with _ | _
  · rfl
  · have := (right_iff.1 hb).1.1 j hj; omega
theorem right_end {xs : List Int} (hne : 0 < xs.length) (h : ∀ j, j < xs.length → 0 ≤ nth xs j ∧ nth xs j ≤ 16777215) : rightB xs = (decide (xs.length ≤ 300) && (nth xs (xs.length - 1) != 0)) := by
  unfold rightB
  have e : xs.all (fun x => decide (0 ≤ x ∧ x ≤ 16777215)) = true := all_nth.2 (fun j hj => by rw [decide_eq_true_eq]; exact h j hj)
  have e2 : xs.isEmpty = false := by cases xs <;> simp_all
  rw [e, e2]; simp
/-- It returned v, and no old memory has turned. -/
def RetE (w : World) (v : Value) (e : Ending) (w' : World) : Prop := e = .returned v ∧ Ext w w'
theorem guess_word {X Y : Nat} (h : X < 4611686018427387904) : min (wrap64 ((X : Int) / (Y : Int))) 16777215 = ((min (X / Y) 16777215 : Nat) : Int) := by
  have e : (X : Int) / (Y : Int) = ((X / Y : Nat) : Int) := by rw [Int.natCast_ediv]
  have : X / Y ≤ X := Nat.div_le_self _ _
  rw [e]
  generalize X / Y = z at *
  unfold wrap64
  omega
/-- It returned the naturals r and s, in new memory. -/
def RetNN (w : World) (r s : Nat) (e : Ending) (w' : World) : Prop := ∃ v1 v2, e = .returned (.tuple #[v1, v2]) ∧ N w' v1 r ∧ N w' v2 s ∧ Ext w w'
def FirstPost (w : World) (n : Nat) (e : Ending) (w' : World) : Prop := ∃ r, Sq n r ∧ RetNN w r (n - r * r) e w'
/-- What 'nextLimb' leaves. -/
def NextPost (w : World) (r s h l : Nat) (e : Ending) (w' : World) : Prop :=
  ∃ q, Fit r (s * 281474976710656 + h * 16777216 + l) q ∧ ¬ Fit r (s * 281474976710656 + h * 16777216 + l) (q + 1) ∧
    RetNN w (r * 16777216 + q) (s * 281474976710656 + h * 16777216 + l - (2 * r * 16777216 + q) * q) e w'
theorem bl_shift {m : Nat} (k : Nat) (h : m ≠ 0) : bl (m * 2 ^ k) = bl m + k := by
  have hp := Nat.two_pow_pos k
  have h1 := bl_lt m
  have h2 := bl_le h
  have h3 : bl m ≠ 0 := by intro e0; rw [e0] at h1; simp at h1; omega
  obtain ⟨n, hn⟩ : ∃ n, bl m = n + 1 := ⟨bl m - 1, by omega⟩
  rw [hn] at h1 h2 ⊢
  rw [Nat.add_sub_cancel] at h2
  rw [Nat.add_right_comm]
  apply bl_is
  · rw [Nat.pow_add]; exact Nat.mul_le_mul_right _ h2
  · rw [Nat.add_right_comm, Nat.pow_add]; exact Nat.mul_lt_mul_of_pos_right h1 hp
theorem bl_pos {m : Nat} (h : m ≠ 0) : 0 < bl m := by
  rcases Nat.eq_zero_or_pos (bl m) with e | e
  · have := bl_lt m; rw [e] at this; simp at this; omega
  · exact e
theorem wide_len {b : List Int} {M m u : Nat} (nb : NF b) (eb : val b = (M : Int)) (hm : m ≠ 0) (hu : u = (47 - (bl m - 1) % 48) / 2) (hM : M = m * 2 ^ (2 * u)) : ∃ t, b.length = 2 * t + 2 := by
  have hM0 : M ≠ 0 := by
    rw [hM]; exact Nat.mul_ne_zero hm (by have := Nat.two_pow_pos (2 * u); omega)
  have hb0 : b ≠ [] := by
    intro e; subst e; simp [val] at eb; omega
  have hl : b.length ≠ 0 := by simpa using hb0
  obtain ⟨t0, t1⟩ := nb.1.at (b.length - 1)
  obtain ⟨t, ht⟩ := Int.eq_ofNat_of_zero_le t0
  have htop := bl_top nb hb0 eb ht
  have h24 : bl t ≤ 24 := bl_of_lt (n := 24) (by omega)
  have ht0 : t ≠ 0 := by
    rcases nb.2 with e | e
    · exact absurd e hb0
    · omega
  have hpos := bl_pos ht0
  have hsh : bl M = bl m + 2 * u := by rw [hM]; exact bl_shift _ hm
  have hmp := bl_pos hm
  exact ⟨b.length / 2 - 1, by omega⟩
/-- The upper end of a row, two limbs more. -/
theorem val_two {b : List Int} {t : Nat} (h : 2 * t + 1 < b.length) : val (b.drop (2 * t)) = val (b.drop (2 * (t + 1))) * 281474976710656 + nth b (2 * t + 1) * 16777216 + nth b (2 * t) := by
  have e1 := val_drop (a := b) (k := 2 * t) (by omega)
  have e2 := val_drop (a := b) (k := 2 * t + 1) (by omega)
  have e3 : 2 * (t + 1) = 2 * t + 1 + 1 := by omega
  rw [e3]
  omega
/-- It returned the root of m. -/
def RetSq (w : World) (m : Nat) (e : Ending) (w' : World) : Prop := ∃ r, Sq m r ∧ RetN w r e w'
theorem eq_of_nth {xs ys : List Int} (hl : xs.length = ys.length) (h : ∀ j, j < xs.length → nth xs j = nth ys j) : xs = ys := by
  apply List.ext_getElem hl
  intro i h1 h2
  have := h i h1
  rwa [nth_eq h1, nth_eq h2] at this
/-- A row that is too long, or no natural. -/
def badB (xs : List Int) : Bool := decide (30 < xs.length) || !rightB xs
def greatB (X : Nat → List Int) : Nat → Bool
  | 0 => false
  | n + 1 => greatB X n || badB (X n)
theorem great_bad {X : Nat → List Int} : ∀ {n k : Nat}, k < n → badB (X k) = true → greatB X n = true
  | 0, k, h, _ => by omega
  | n + 1, k, h, hb => by
    unfold greatB
    by_cases e : k = n
    · subst e; rw [hb, Bool.or_true]
    · rw [great_bad (n := n) (by omega) hb, Bool.true_or]
theorem great_good {X : Nat → List Int} : ∀ {n : Nat}, (∀ k, k < n → badB (X k) = false) → greatB X n = false
  | 0, _ => rfl
  | n + 1, h => by unfold greatB; rw [great_good (fun k hk => h k (by omega)), h n (by omega)]; rfl

end Go.Proofs.YtomdbmjfehoodaaGreatDoor

