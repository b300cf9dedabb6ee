/- Walks of package ivl: the closure that folds. -/
import Derived.Test.YtimdglgianheiaaGreatDoorP7
import Derived.RangeFuncOwn
namespace Go.Proofs.YtimdglgianheiaaGreatDoor
open Go.RowKit
/-- The slice lies in another block than g. -/
def NotAt (g : Nat) (v : Value) : Prop := ∀ b off l c, v = .slice (some ⟨b, off, none⟩) l c → 0 < l → b ≠ g
theorem Nw.not {w : World} {v : Value} {g : Nat} (h : Nw w v) (hg : g < w.heap.size) : NotAt g v := fun b off l c hv hl => by
  obtain ⟨b', off', h1, h2⟩ := h _ l c hv hl
  simp only [Option.some.injEq, Addr.mk.injEq] at h1
  omega
theorem dn_not {w w' : World} {g : Nat} {x M y : Value} {d : Dyadic} (n : Dn w (.agg #[x, M, y]) d) (h : NotAt g M) (hs : ∀ p : Addr, p.block ≠ g → p.block < w.heap.size → w'.cell? p = w.cell? p) (hw : w.heap.size ≤ w'.heap.size) : Dn w' (.agg #[x, M, y]) d := by
  obtain ⟨M', z, e, hv, ⟨xs, ⟨A, c, rfl, h1, h2, h3⟩, nf, ev⟩, k2, k3⟩ := n
  simp only [Value.agg.injEq, Array.mk.injEq, List.cons.injEq, and_true] at hv
  obtain ⟨rfl, rfl, rfl⟩ := hv
  refine ⟨_, z, e, rfl, ⟨xs, ⟨A, c, rfl, h1, h2, fun hl => ?_⟩, nf, ev⟩, k2, k3⟩
  obtain ⟨b, off, rfl, hb, hc⟩ := h3 hl
  exact ⟨b, off, rfl, by omega, fun j hj => by rw [hs _ (h _ _ _ _ rfl hl) hb]; exact hc j hj⟩
theorem not_zero {w : World} {g : Nat} {x M y : Value} {d : Dyadic} (n : Dn w (.agg #[x, M, y]) d) (hz : ∀ j u, w.cell? ⟨g, j, none⟩ = some (.int .i64 u) → u = 0) : NotAt g M := by
  obtain ⟨M', z, e, hv, ⟨xs, ⟨A, c, rfl, h1, h2, h3⟩, nf, ev⟩, k2, k3⟩ := n
  simp only [Value.agg.injEq, Array.mk.injEq, List.cons.injEq, and_true] at hv
  obtain ⟨rfl, rfl, rfl⟩ := hv
  intro b off l c' hv hl
  simp only [Value.slice.injEq] at hv
  obtain ⟨rfl, rfl, rfl⟩ := hv
  rintro rfl
  obtain ⟨b', off', hA, hb, hc⟩ := h3 hl
  simp only [Option.some.injEq, Addr.mk.injEq, and_true] at hA
  obtain ⟨rfl, rfl⟩ := hA
  have hk := hc (xs.length - 1) (by omega)
  rcases nf.2 with e | e
  · subst e; simp at hl
  · exact e (hz _ _ hk)
/-- At g lies the enclosure from lo to hi, whose naturals lie elsewhere. -/
def All (w : World) (g : Nat) (lo hi : Dyadic) : Prop :=
  ∃ (b : Bool) (A : Option Addr) (n c : Nat) (e : Int) (b' : Bool) (A' : Option Addr) (n' c' : Nat) (e' : Int),
    Bx w g (.bool b) (.slice A n c) (.int .i64 e) (.bool b') (.slice A' n' c') (.int .i64 e') ∧ Dn w (.agg #[.bool b, .slice A n c, .int .i64 e]) lo ∧ Dn w (.agg #[.bool b', .slice A' n' c', .int .i64 e']) hi ∧
    NotAt g (.slice A n c) ∧ NotAt g (.slice A' n' c') ∧ ∀ j, w.frozen? ⟨g, j, none⟩ = false
theorem All.ext {w w' : World} {g : Nat} {lo hi : Dyadic} (h : All w g lo hi) (E : Ext w w') : All w' g lo hi := by
  obtain ⟨b, A, n, c, e, b', A', n', c', e', B, d1, d2, n1, n2, f⟩ := h
  have hg : g < w.heap.size := World.block_lt_of_cell? w _ B.c0
  exact ⟨b, A, n, c, e, b', A', n', c', e', B.ext E, d1.ext E, d2.ext E, n1, n2, fun j => (E.frozen hg).trans (f j)⟩
/-- All but the blocks a and b is as it was. -/
structure But (a b : Nat) (w w' : World) : Prop where
  os : w'.os = w.os
  tape : w'.tape = w.tape
  output : w'.output = w.output
  size : w.heap.size ≤ w'.heap.size
  block : ∀ k, k < w.heap.size → k ≠ a → k ≠ b → w'.heap[k]? = w.heap[k]?
theorem But.of {a b : Nat} {w w' : World} (h : Ext w w') : But a b w w' := ⟨h.os, h.tape, h.output, h.size, fun k hk _ _ => h.block k hk⟩
theorem But.refl (a b : Nat) (w : World) : But a b w w := But.of (Ext.refl w)
theorem But.trans {a b : Nat} {u v w : World} (h : But a b u v) (k : But a b v w) : But a b u w :=
  ⟨k.os.trans h.os, k.tape.trans h.tape, k.output.trans h.output, Nat.le_trans h.size k.size, fun i hi ha hb => (k.block i (Nat.lt_of_lt_of_le hi h.size) ha hb).trans (h.block i hi ha hb)⟩
theorem But.set {a b : Nat} (w : World) {p : Addr} (v : Value) (h : p.block = a ∨ p.block = b) : But a b w (w.setCell p v) :=
  ⟨rfl, rfl, rfl, by simp [World.setCell], fun k _ ha hb => Below.heap_setCell _ _ _ _ (by rcases h with h | h <;> omega)⟩
theorem But.put {a b : Nat} {u w : World} {p : Addr} {v : Value} (h : But a b u w) (hp : p.block = a ∨ p.block = b) : But a b u (w.setCell p v) := h.trans (But.set w v hp)
theorem But.cell {a b : Nat} {w w' : World} (h : But a b w w') {p : Addr} (hp : p.block < w.heap.size) (ha : p.block ≠ a) (hb : p.block ≠ b) : w'.cell? p = w.cell? p := World.cell?_of_block (h.block _ hp ha hb)
structure Hd (w : World) (a b : Nat) (lo hi : Dyadic) : Prop where
  all : All w a lo hi
  yes : w.cell? ⟨b, 0, none⟩ = some (.bool true)
  fz : w.frozen? ⟨b, 0, none⟩ = false
theorem Hd.ext {w w' : World} {a b : Nat} {lo hi : Dyadic} (h : Hd w a b lo hi) (E : Ext w w') : Hd w' a b lo hi :=
  have hb := World.block_lt_of_cell? w _ h.yes
  ⟨h.all.ext E, (E.cell hb).trans h.yes, (E.frozen hb).trans h.fz⟩
def RetFo (w : World) (a b : Nat) (lo hi : Dyadic) (e : Ending) (w' : World) : Prop := (∃ u, e = .returned u) ∧ Hd w' a b lo hi ∧ But a b w w'

theorem row_flag {w : World} {p : Addr} {v : Value} {xs : List Int} {u u' : Bool} (r : Row w v xs) (hp : w.cell? p = some (.bool u)) : Row (w.setCell p (.bool u')) v xs := by
  obtain ⟨A, c, rfl, h1, h2, h3⟩ := r
  refine ⟨A, c, rfl, h1, h2, fun hl => ?_⟩
  obtain ⟨b, off, rfl, hb, hc⟩ := h3 hl
  refine ⟨b, off, rfl, by simpa [World.setCell] using hb, fun j hj => ?_⟩
  have hk := hc j hj
  have hne : (⟨b, off + j, none⟩ : Addr) ≠ p := by rintro rfl; rw [hk] at hp; cases hp
  first
  | rw [World.cell?_setCell_other _ _ _ _ hne]; exact hk
  | rw [World.cell?_setCell_other _ _ _ _ hne.symm]; exact hk
theorem dn_flag {w : World} {p : Addr} {v : Value} {d : Dyadic} {u u' : Bool} (n : Dn w v d) (hp : w.cell? p = some (.bool u)) : Dn (w.setCell p (.bool u')) v d := by
  obtain ⟨M, z, e, rfl, ⟨xs, r, nf, ev⟩, k2, k3⟩ := n
  exact ⟨M, z, e, rfl, ⟨xs, row_flag r hp, nf, ev⟩, k2, k3⟩
theorem set_off {w : World} {p q : Addr} {v : Value} (h : p.block ≠ q.block) : (w.setCell p v).cell? q = w.cell? q := World.cell?_of_block (Below.heap_setCell _ _ _ _ (fun e => h e.symm))
theorem set3_lo {w : World} {g : Nat} {x y z x' y' z' a b c : Value} (B : Bx w g a b c x' y' z') : Bx (((w.setCell ⟨g, 0, none⟩ x).setCell ⟨g, 1, none⟩ y).setCell ⟨g, 2, none⟩ z) g x y z x' y' z' := by
  have o : ∀ (W : World) (i j : Nat) (v : Value), i ≠ j → (W.setCell ⟨g, i, none⟩ v).cell? ⟨g, j, none⟩ = W.cell? ⟨g, j, none⟩ := fun W i j v hij => World.cell?_setCell_other _ _ _ _ (fun h => hij (by injection h))
  refine ⟨?_, ?_, ?_, ?_, ?_, ?_⟩
  · rw [o _ 2 0 _ (by omega), o _ 1 0 _ (by omega)]; exact World.cell?_setCell_same _ _ _ B.c0
  · rw [o _ 2 1 _ (by omega)]; exact World.cell?_setCell_same _ _ _ (by rw [o _ 0 1 _ (by omega)]; exact B.c1)
  · exact World.cell?_setCell_same _ _ _ (by rw [o _ 1 2 _ (by omega), o _ 0 2 _ (by omega)]; exact B.c2)
  · rw [o _ 2 3 _ (by omega), o _ 1 3 _ (by omega), o _ 0 3 _ (by omega)]; exact B.c3
  · rw [o _ 2 4 _ (by omega), o _ 1 4 _ (by omega), o _ 0 4 _ (by omega)]; exact B.c4
  · rw [o _ 2 5 _ (by omega), o _ 1 5 _ (by omega), o _ 0 5 _ (by omega)]; exact B.c5
theorem set3_hi {w : World} {g : Nat} {x y z x' y' z' a b c : Value} (B : Bx w g x y z a b c) : Bx (((w.setCell ⟨g, 3, none⟩ x').setCell ⟨g, 4, none⟩ y').setCell ⟨g, 5, none⟩ z') g x y z x' y' z' := by
  have o : ∀ (W : World) (i j : Nat) (v : Value), i ≠ j → (W.setCell ⟨g, i, none⟩ v).cell? ⟨g, j, none⟩ = W.cell? ⟨g, j, none⟩ := fun W i j v hij => World.cell?_setCell_other _ _ _ _ (fun h => hij (by injection h))
  refine ⟨?_, ?_, ?_, ?_, ?_, ?_⟩
  · rw [o _ 5 0 _ (by omega), o _ 4 0 _ (by omega), o _ 3 0 _ (by omega)]; exact B.c0
  · rw [o _ 5 1 _ (by omega), o _ 4 1 _ (by omega), o _ 3 1 _ (by omega)]; exact B.c1
  · rw [o _ 5 2 _ (by omega), o _ 4 2 _ (by omega), o _ 3 2 _ (by omega)]; exact B.c2
  · rw [o _ 5 3 _ (by omega), o _ 4 3 _ (by omega)]; exact World.cell?_setCell_same _ _ _ B.c3
  · rw [o _ 5 4 _ (by omega)]; exact World.cell?_setCell_same _ _ _ (by rw [o _ 3 4 _ (by omega)]; exact B.c4)
  · exact World.cell?_setCell_same _ _ _ (by rw [o _ 4 5 _ (by omega), o _ 3 5 _ (by omega)]; exact B.c5)
/-- The first number is laid in both ends. -/
theorem Hd.first {w w1 : World} {a b : Nat} {x : Dyadic} {b1 b1' : Bool} {A1 A1' : Option Addr} {n1 c1 n1' c1' : Nat} {x1 x1' : Int} (Z : Zi w1 a) (hab : a ≠ b) (hb : w1.cell? ⟨b, 0, none⟩ = some (.bool false)) (hf : w1.frozen? ⟨b, 0, none⟩ = false)
    (d1 : Dn w1 (.agg #[.bool b1, .slice A1 n1 c1, .int .i64 x1]) x) (d2 : Dn w1 (.agg #[.bool b1', .slice A1' n1' c1', .int .i64 x1']) x) (E : Ext w w1) :
    let W := (((((((w1.setCell ⟨a, 0, none⟩ (.bool b1)).setCell ⟨a, 1, none⟩ (.slice A1 n1 c1)).setCell ⟨a, 2, none⟩ (.int .i64 x1)).setCell ⟨a, 3, none⟩ (.bool b1')).setCell ⟨a, 4, none⟩ (.slice A1' n1' c1')).setCell ⟨a, 5, none⟩ (.int .i64 x1')).setCell ⟨b, 0, none⟩ (.bool true))
    Hd W a b x x ∧ But a b w W := by
  have k1 := not_zero d1 Z.z
  have k2 := not_zero d2 Z.z
  have B := set6_same (x := .bool b1) (y := .slice A1 n1 c1) (z := .int .i64 x1) (x' := .bool b1') (y' := .slice A1' n1' c1') (z' := .int .i64 x1') Z.bx
  have hb2 : (set6 w1 a (.bool b1) (.slice A1 n1 c1) (.int .i64 x1) (.bool b1') (.slice A1' n1' c1') (.int .i64 x1')).cell? ⟨b, 0, none⟩ = some (.bool false) := (set6_other (p := ⟨b, 0, none⟩) (fun h => hab h.symm)).trans hb
  have q1 := dn_flag (u' := true) (dn_not (w' := set6 w1 a (.bool b1) (.slice A1 n1 c1) (.int .i64 x1) (.bool b1') (.slice A1' n1' c1') (.int .i64 x1')) d1 k1 (fun p hp _ => set6_other hp) (Nat.le_of_eq set6_size.symm)) hb2
  have q2 := dn_flag (u' := true) (dn_not (w' := set6 w1 a (.bool b1) (.slice A1 n1 c1) (.int .i64 x1) (.bool b1') (.slice A1' n1' c1') (.int .i64 x1')) d2 k2 (fun p hp _ => set6_other hp) (Nat.le_of_eq set6_size.symm)) hb2
  refine ⟨⟨⟨_, _, _, _, _, _, _, _, _, _, ⟨(set_off (fun h => hab h.symm)).trans B.c0, (set_off (fun h => hab h.symm)).trans B.c1, (set_off (fun h => hab h.symm)).trans B.c2, (set_off (fun h => hab h.symm)).trans B.c3, (set_off (fun h => hab h.symm)).trans B.c4, (set_off (fun h => hab h.symm)).trans B.c5⟩, q1, q2, k1, k2, fun j => ?_⟩, World.cell?_setCell_same _ _ _ hb2, ?_⟩, ?_⟩
  · simp only [World.frozen?_setCell]; exact Z.f j
  · simp only [World.frozen?_setCell]; exact hf
  · refine But.put ?_ (.inr rfl)
    refine But.put ?_ (.inl rfl)
    refine But.put ?_ (.inl rfl)
    refine But.put ?_ (.inl rfl)
    refine But.put ?_ (.inl rfl)
    refine But.put ?_ (.inl rfl)
    refine But.put ?_ (.inl rfl)
    exact But.of E
/-- A lower end is laid. -/
theorem Hd.lower {w w1 : World} {a b : Nat} {x lo hi : Dyadic} {b1 : Bool} {A1 : Option Addr} {n1 c1 : Nat} {x1 : Int} (H : Hd w1 a b lo hi) (hab : a ≠ b) (d1 : Dn w1 (.agg #[.bool b1, .slice A1 n1 c1, .int .i64 x1]) x) (k1 : NotAt a (.slice A1 n1 c1)) (E : But a b w w1) :
    let W := (((w1.setCell ⟨a, 0, none⟩ (.bool b1)).setCell ⟨a, 1, none⟩ (.slice A1 n1 c1)).setCell ⟨a, 2, none⟩ (.int .i64 x1))
    Hd W a b x hi ∧ But a b w W := by
  obtain ⟨⟨b', A', n', c', e', b2, A2, n2, c2, e2, B, _, d2, _, k2, f⟩, hy, hf⟩ := H
  have q1 := dn_not (w' := set3 w1 a (.bool b1) (.slice A1 n1 c1) (.int .i64 x1)) d1 k1 (fun p hp _ => set3_other hp) (Nat.le_of_eq set3_size.symm)
  have q2 := dn_not (w' := set3 w1 a (.bool b1) (.slice A1 n1 c1) (.int .i64 x1)) d2 k2 (fun p hp _ => set3_other hp) (Nat.le_of_eq set3_size.symm)
  refine ⟨⟨⟨_, _, _, _, _, _, _, _, _, _, set3_lo B, q1, q2, k1, k2, fun j => ?_⟩, (set3_other (p := ⟨b, 0, none⟩) (fun h => hab h.symm)).trans hy, ?_⟩, ?_⟩
  · simp only [World.frozen?_setCell]; exact f j
  · simp only [World.frozen?_setCell]; exact hf
  · refine But.put ?_ (.inl rfl)
    refine But.put ?_ (.inl rfl)
    refine But.put ?_ (.inl rfl)
    exact E
theorem Hd.upper {w w1 : World} {a b : Nat} {x lo hi : Dyadic} {b1 : Bool} {A1 : Option Addr} {n1 c1 : Nat} {x1 : Int} (H : Hd w1 a b lo hi) (hab : a ≠ b) (d1 : Dn w1 (.agg #[.bool b1, .slice A1 n1 c1, .int .i64 x1]) x) (k1 : NotAt a (.slice A1 n1 c1)) (E : But a b w w1) :
    let W := (((w1.setCell ⟨a, 3, none⟩ (.bool b1)).setCell ⟨a, 4, none⟩ (.slice A1 n1 c1)).setCell ⟨a, 5, none⟩ (.int .i64 x1))
    Hd W a b lo x ∧ But a b w W := by
  obtain ⟨⟨b', A', n', c', e', b2, A2, n2, c2, e2, B, d2, _, k2, _, f⟩, hy, hf⟩ := H
  have o : ∀ p : Addr, p.block ≠ a → (((w1.setCell ⟨a, 3, none⟩ (.bool b1)).setCell ⟨a, 4, none⟩ (.slice A1 n1 c1)).setCell ⟨a, 5, none⟩ (.int .i64 x1)).cell? p = w1.cell? p := fun p hp => by
    rw [set_off (fun h => hp h.symm), set_off (fun h => hp h.symm), set_off (fun h => hp h.symm)]
  have q1 := dn_not (w' := ((w1.setCell ⟨a, 3, none⟩ (.bool b1)).setCell ⟨a, 4, none⟩ (.slice A1 n1 c1)).setCell ⟨a, 5, none⟩ (.int .i64 x1)) d1 k1 (fun p hp _ => o p hp) (by simp [World.setCell])
  have q2 := dn_not (w' := ((w1.setCell ⟨a, 3, none⟩ (.bool b1)).setCell ⟨a, 4, none⟩ (.slice A1 n1 c1)).setCell ⟨a, 5, none⟩ (.int .i64 x1)) d2 k2 (fun p hp _ => o p hp) (by simp [World.setCell])
  refine ⟨⟨⟨_, _, _, _, _, _, _, _, _, _, set3_hi B, q2, q1, k2, k1, fun j => ?_⟩, (o ⟨b, 0, none⟩ (fun h => hab h.symm)).trans hy, ?_⟩, ?_⟩
  · simp only [World.frozen?_setCell]; exact f j
  · simp only [World.frozen?_setCell]; exact hf
  · refine But.put ?_ (.inl rfl)
    refine But.put ?_ (.inl rfl)
    refine But.put ?_ (.inl rfl)
    exact E

set_option maxRecDepth 4000 in
set_option maxHeartbeats 1000000 in
theorem fold_first (w : World) (v : Value) (x : Dyadic) (a b P Q : Nat) (hv : Dn w v x) (Z : Zi w a) (hb : w.cell? ⟨b, 0, none⟩ = some (.bool false)) (hf : w.frozen? ⟨b, 0, none⟩ = false) (hab : a ≠ b) (r : Rg P Q x) (hp : P + Q ≤ 9600) (T : Tb w) :
    Calls Tryz.prog 78 #[v, .pointer (some ⟨b, 0, none⟩), .pointer (some ⟨a, 0, none⟩)] w (RetFo w a b x x) := by
  have la : a < w.heap.size := World.block_lt_of_cell? w _ Z.c0
  have lb : b < w.heap.size := World.block_lt_of_cell? w _ hb
  have HP := Lib.hid (fun (w' : World) (E : Ext w w') => ipoint_any w' v x P Q (hv.ext E) r hp (T.ext E))
  obtain ⟨bd, Ad, nd, cd, ed, rfl⟩ := hv.form
  clear hv T
  have hne : b ≠ w.heap.size := by omega
  have hb0 : (w.alloc (.cells #[.bool bd, .slice Ad nd cd, .int .i64 ed] 24)).cell? ⟨b, 0, none⟩ = some (.bool false) := (((Ext.refl w).alloc _).cell (p := ⟨b, 0, none⟩) lb).trans hb
  go_enter Tryz.func78, Tryz.ntmps78
  go_wp2_with fail
  refine (HP.out _ ((Ext.refl w).alloc _)).mono ?_
  rintro _ w1 ⟨v1, rfl, m1, e1⟩
  obtain ⟨b1, A1, n1, c1, x1, b1', A1', n1', c1', x1', rfl, d1, d2⟩ := m1
  have E1 : Ext w w1 := ((Ext.refl w).alloc _).trans e1
  have Z1 := Z.ext E1
  have g0 := Z1.c0
  have g1 := Z1.c1
  have g2 := Z1.c2
  have g3 := Z1.c3
  have g4 := Z1.c4
  have g5 := Z1.c5
  have f0 := Z1.f 0
  have f1 := Z1.f 1
  have f2 := Z1.f 2
  have f3 := Z1.f 3
  have f4 := Z1.f 4
  have f5 := Z1.f 5
  have hb1 := (E1.cell (p := ⟨b, 0, none⟩) lb).trans hb
  have hf1 := (E1.frozen (p := ⟨b, 0, none⟩) lb).trans hf
  have hba : b ≠ a := fun h => hab h.symm
  go_wp2
  obtain ⟨H1, H2⟩ := Hd.first Z1 hab hb1 hf1 d1 d2 E1
  go_end0
  exact ⟨⟨_, rfl⟩, H1, H2⟩

set_option maxRecDepth 4000 in
set_option maxHeartbeats 1000000 in
theorem fold_low (w : World) (x M y : Value) (d lo hi : Dyadic) (a b P Q P' Q' : Nat) (hv : Dn w (.agg #[x, M, y]) d) (hn : NotAt a M) (H : Hd w a b lo hi) (hab : a ≠ b) (r : Rg P Q d) (r1 : Rg P' Q' lo) (hp : P + Q ≤ 4800) (hp' : P' + Q' ≤ 4800) (hlt : d < lo) :
    Calls Tryz.prog 78 #[.agg #[x, M, y], .pointer (some ⟨b, 0, none⟩), .pointer (some ⟨a, 0, none⟩)] w (RetFo w a b d hi) := by
  obtain ⟨t, ht⟩ : ∃ t, cmpD d lo = t := ⟨_, rfl⟩
  have ht0 : t < 0 := by rw [← ht]; exact (cmp_lt d lo).2 hlt
  obtain ⟨bd, Ad, nd, cd, ed, hq⟩ := hv.form
  simp only [Value.agg.injEq, Array.mk.injEq, List.cons.injEq, and_true] at hq
  obtain ⟨rfl, rfl, rfl⟩ := hq
  have E0 : Ext w (w.alloc (.cells #[.bool bd, .slice Ad nd cd, .int .i64 ed] 24)) := (Ext.refl w).alloc _
  have H0 := H.ext E0
  have V0 := hv.ext E0
  obtain ⟨⟨b1, A1, n1, c1, e1, b2, A2, n2, c2, e2, B, d1, d2, k1, k2, f⟩, hy, hf⟩ := id H0
  have HC := Lib.hid (ht ▸ cmpD_any _ _ _ d lo P Q P' Q' V0 d1 r r1 hp hp')
  clear ht
  obtain ⟨s0, s1, s2, s3, s4, s5⟩ := id B
  go_enter Tryz.func78, Tryz.ntmps78
  go_wp2_with fail
  refine HC.out.mono ?_
  rintro _ w1 ⟨rfl, e3⟩
  have B1 : Box w1 w.heap.size (.bool bd) (.slice Ad nd cd) (.int .i64 ed) := Box.at e3 rfl
  obtain ⟨p0, p1, p2⟩ := id B1
  have H1 := H0.ext e3
  replace V0 := V0.ext e3
  have B2 := B.ext e3
  obtain ⟨q0, q1, q2, q3, q4, q5⟩ := id B2
  have la := World.block_lt_of_cell? _ _ s0
  have f0 := (e3.frozen (p := ⟨a, 0, none⟩) la).trans (f 0)
  have f1 := (e3.frozen (p := ⟨a, 1, none⟩) la).trans (f 1)
  have f2 := (e3.frozen (p := ⟨a, 2, none⟩) la).trans (f 2)
  obtain ⟨K1, K2⟩ := Hd.lower H1 hab V0 hn (But.of (E0.trans e3))
  clear f la s0 s1 s2 s3 s4 s5 HC
  go_wp2
  go_end0
  exact ⟨⟨_, rfl⟩, K1, K2⟩
set_option maxRecDepth 4000 in
set_option maxHeartbeats 1000000 in
theorem fold_up (w : World) (x M y : Value) (d lo hi : Dyadic) (a b P Q P' Q' : Nat) (hv : Dn w (.agg #[x, M, y]) d) (hn : NotAt a M) (H : Hd w a b lo hi) (hab : a ≠ b) (r : Rg P Q d) (r1 : Rg P' Q' lo) (r2 : Rg P' Q' hi) (hp : P + Q ≤ 4800) (hp' : P' + Q' ≤ 4800) (hge : ¬ d < lo) (up : Bool) (hup : up = decide (hi < d)) :
    Calls Tryz.prog 78 #[.agg #[x, M, y], .pointer (some ⟨b, 0, none⟩), .pointer (some ⟨a, 0, none⟩)] w (RetFo w a b lo (if up then d else hi)) := by
  obtain ⟨m, hm⟩ : ∃ m, (if up then d else hi) = m := ⟨_, rfl⟩
  rw [hm]
  have HMX := Lib.hid hm
  clear hm
  obtain ⟨t, ht⟩ : ∃ t, cmpD d lo = t := ⟨_, rfl⟩
  have ht0 : ¬ t < 0 := by rw [← ht]; exact fun h => hge ((cmp_lt d lo).1 h)
  obtain ⟨s, hs⟩ : ∃ s, cmpD d hi = s := ⟨_, rfl⟩
  have hs0 : decide (0 < s) = up := by
    rw [hup, ← hs]; apply decide_eq_decide.2
    have := cmp_le d hi
    constructor
    · intro h; by_cases k : d ≤ hi
      · have := this.2 k; omega
      · grind
    · intro h
      rcases Int.lt_or_le 0 (cmpD d hi) with k | k
      · exact k
      · have := this.1 k; grind
  obtain ⟨bd, Ad, nd, cd, ed, hq⟩ := hv.form
  simp only [Value.agg.injEq, Array.mk.injEq, List.cons.injEq, and_true] at hq
  obtain ⟨rfl, rfl, rfl⟩ := hq
  have E0 : Ext w (w.alloc (.cells #[.bool bd, .slice Ad nd cd, .int .i64 ed] 24)) := (Ext.refl w).alloc _
  have H0 := H.ext E0
  have V0 := hv.ext E0
  obtain ⟨⟨b1, A1, n1, c1, e1, b2, A2, n2, c2, e2, B, d1, d2, k1, k2, f⟩, hy, hf⟩ := id H0
  have HC := Lib.hid (ht ▸ cmpD_any _ _ _ d lo P Q P' Q' V0 d1 r r1 hp hp')
  have HC2 := Lib.hid (fun (w' : World) (E : Ext _ w') => hs ▸ cmpD_any w' _ _ d hi P Q P' Q' (V0.ext E) (d2.ext E) r r2 hp hp')
  have HS0 := Lib.hid hs0
  clear ht hs hs0 hup hge
  obtain ⟨s0, s1, s2, s3, s4, s5⟩ := id B
  go_enter Tryz.func78, Tryz.ntmps78
  go_wp2_with fail
  refine HC.out.mono ?_
  rintro _ w1 ⟨rfl, e3⟩
  have B1 : Box w1 w.heap.size (.bool bd) (.slice Ad nd cd) (.int .i64 ed) := Box.at e3 rfl
  obtain ⟨p0, p1, p2⟩ := id B1
  have B2 := B.ext e3
  obtain ⟨q0, q1, q2, q3, q4, q5⟩ := id B2
  clear HC
  go_wp2_with fail
  refine (HC2.out _ e3).mono ?_
  rintro _ w2 ⟨rfl, e4⟩
  replace e3 := e3.trans e4
  have H1 := H0.ext e3
  replace V0 := V0.ext e3
  replace B1 := B1.ext e4
  replace B2 := B2.ext e4
  clear p0 p1 p2 q0 q1 q2 q3 q4 q5
  obtain ⟨p0, p1, p2⟩ := id B1
  obtain ⟨q0, q1, q2, q3, q4, q5⟩ := id B2
  have la := World.block_lt_of_cell? _ _ s0
  have f0 := (e3.frozen (p := ⟨a, 3, none⟩) la).trans (f 3)
  have f1 := (e3.frozen (p := ⟨a, 4, none⟩) la).trans (f 4)
  have f2 := (e3.frozen (p := ⟨a, 5, none⟩) la).trans (f 5)
  clear f la s0 s1 s2 s3 s4 s5 HC2
  have hs0 := HS0.out
  clear HS0
  cases up with
  | true =>
    have hs1 : 0 < s := of_decide_eq_true hs0
    obtain rfl : d = m := HMX.out
    clear HMX
    obtain ⟨K1, K2⟩ := Hd.upper H1 hab V0 hn (But.of (E0.trans e3))
    go_wp2
    go_end0
    exact ⟨⟨_, rfl⟩, K1, K2⟩
  | false =>
    have hs1 : ¬ 0 < s := of_decide_eq_false hs0
    obtain rfl : hi = m := HMX.out
    clear HMX
    go_wp2
    go_end0
    exact ⟨⟨_, rfl⟩, H1, But.of (E0.trans e3)⟩
end Go.Proofs.YtimdglgianheiaaGreatDoor
