/- What the walks of naturals stand on: no function of the program is named here. -/
import Derived.Test.YtncopdgonbgaaaaDoorRootM
import Derived.Test.YtncopdgonbgaaaaDoorChecked
import Derived.Deep.RegionWith
import Derived.Deep.RegionHeld3
import Derived.Laws.AppendOwnNone
import Derived.Laws.CopyOwn
namespace Go.Proofs.YtncopdgonbgaaaaDoor
open Go.RowKit

theorem ret_int {k : IntKind} {a b : Int} (h : a = b) : Ending.returned (.int k a) = .returned (.int k b) := by rw [h]
theorem i64_and24 (x : Int) : bits .and .i64 x 16777215 = x % 16777216 := by
  show IntKind.i64.wrap ((BitVec.ofInt 64 x &&& BitVec.ofInt 64 (16777215 : Int)).toNat : Int) = _
  have e : (BitVec.ofInt 64 (16777215 : Int)).toNat = 2 ^ 24 - 1 := by decide
  rw [BitVec.toNat_and, e, Nat.and_two_pow_sub_one_eq_mod, BitVec.toNat_ofInt, IntKind.wrap_i64]
  omega
/-- What 'trimmed' leaves: the same slice, cut behind its last number that is not 0. -/
def TrimPost (w : World) (v : Value) (xs : List Int) (e : Ending) (w' : World) : Prop :=
  ∃ A c k, v = .slice A xs.length c ∧ k ≤ xs.length ∧ e = .returned (.slice A k c) ∧ w = w' ∧ (∀ j, k ≤ j → nth xs j = 0) ∧ (k = 0 ∨ nth xs (k - 1) ≠ 0)
/-- What 'sums' leaves. -/
def SumsPost (w : World) (bo bc off n cap : Nat) (h : Nat → Int) (c : Int) (e : Ending) (w' : World) : Prop :=
  ∃ k, k ≤ n ∧ e = .returned (.slice (some ⟨bo, off, none⟩) k cap) ∧ Only [bo, bc] w w' ∧ (∀ j, j < n → w'.cell? ⟨bo, off + j, none⟩ = some (.int .i64 (limbAt h c j))) ∧
    (∀ j, k ≤ j → j < n → limbAt h c j = 0) ∧ (k = 0 ∨ limbAt h c (k - 1) ≠ 0) ∧ (∀ x, x < off → w'.cell? ⟨bo, x, none⟩ = w.cell? ⟨bo, x, none⟩)
theorem Row.drewN {w : World} {v : Value} {xs : List Int} (h : Row w v xs) (n : Nat) : Row (w.drewN n) v xs := h
theorem info_int : (Tryd.prog.info? 3).map (fun i => (i.zero, i.size, i.bytes)) = some (some (.int .i64 0), 1, 8) := by kernel_rfl
theorem mkf (fn : Fn) (first cap : Array Value) (w : World) : (Instr.makeFunc fn first cap).run Tryd.prog w = .ok (.func fn first cap) w := rfl
/-- What 'make([]int, n)' leaves. -/
structure Made (n : Nat) (w w' : World) : Prop where
  ext : Ext w w'
  size : w'.heap.size = w.heap.size + 1
  cell : ∀ j, j < n → w'.cell? ⟨w.heap.size, j, none⟩ = some (.int .i64 0)
  frozen : ∀ j, w'.frozen? ⟨w.heap.size, j, none⟩ = false
  blk : w'.heap[w.heap.size]? = some (.cells (List.replicate n (Value.int .i64 0)).toArray 3 (0, 0))
theorem madeCells_zeros (n : Nat) : madeCells #[.int .i64 0] n = (List.replicate n (Value.int .i64 0)).toArray := by
  apply Array.ext
  · simp [madeCells]
  · intro i h1 h2
    simp [madeCells, Nat.mod_one]
/-- What 'sums' over a new row leaves: the natural m. -/
def SumN (w : World) (bo bc m : Nat) (e : Ending) (w' : World) : Prop := ∃ v, e = .returned v ∧ N w' v m ∧ Only [bo, bc] w w'
/-- The slice value v lies in a block from base on, which nobody else has; it reads as xs. -/
def Own (w : World) (base : Nat) (v : Value) (xs : List Int) : Prop := w.ownsRow base 3 1 v xs.length (xs.map (Value.int .i64))
theorem Own.nil (w : World) (base : Nat) : Own w base (.slice none 0 0) [] := World.ownsRow_nil w base _ _
theorem Own.row {w : World} {base : Nat} {v : Value} {xs : List Int} (h : Own w base v xs) : Row w v xs := by
  obtain ⟨h1, h2⟩ := h
  rcases h2 with ⟨rfl, h0⟩ | ⟨g, cap, cur, rfl, hb, hg, hn, hm, hs, ht⟩
  · have : xs = [] := List.eq_nil_of_length_eq_zero h0
    subst this
    exact Row.nil w none 0 (by simp [maxLen])
  · refine ⟨_, cap, rfl, hn, hm, fun _ => ⟨g, 0, rfl, (Array.getElem?_eq_some_iff.1 hg).1, fun j hj => ?_⟩⟩
    rw [Nat.zero_add, cell_of_row w g j cur _ (0, 0) hg]
    have e : (cur.toList.take (xs.length * 1))[j]? = some (Value.int .i64 (nth xs j)) := by
      rw [ht, List.getElem?_map, List.getElem?_eq_getElem hj, nth_eq hj]; rfl
    rw [List.getElem?_take, if_pos (by omega)] at e
    simpa using e
theorem Own.lt {w : World} {base : Nat} {v : Value} {xs : List Int} (h : Own w base v xs) : ∀ k, v.ownBlock = some k → base ≤ k ∧ k < w.heap.size := World.ownsRow.lt h
theorem Own.ext {w w' : World} {base : Nat} {v : Value} {xs : List Int} (h : Own w base v xs) (k : Ext w w') : Own w' base v xs :=
  World.ownsRow.kept h (row := none) ⟨k.os, k.tape, k.output, k.size, fun i hi _ => k.block i hi⟩ (by cases v.ownBlock <;> simp)
theorem Own.alloc {w : World} {base : Nat} {v : Value} {xs : List Int} (h : Own w base v xs) (o : Obj) : Own (w.alloc o) base v xs := h.ext ((Ext.refl w).alloc o)
theorem Own.drewN {w : World} {base : Nat} {v : Value} {xs : List Int} (h : Own w base v xs) (n : Nat) : Own (w.drewN n) base v xs := h
theorem Own.empty (w : World) (base : Nat) (hb : base ≤ w.heap.size) : Own (w.alloc (.cells #[] 3)) base (.slice (some ⟨w.heap.size, 0, none⟩) 0 0) [] :=
  World.ownsRow_made w #[] 0 hb (by simp [maxLen]) rfl
theorem Own.made {w w' : World} {n base : Nat} (h : Made n w w') (hb : base ≤ w.heap.size) (hn : n ≤ 1000000) : Own w' base (.slice (some ⟨w.heap.size, 0, none⟩) n n) (List.replicate n 0) := by
  refine ⟨by simp, .inr ⟨w.heap.size, n, _, by simp, hb, h.blk, by simp, by unfold maxLen; omega, by simp, by simp⟩⟩
theorem Ext.app {a b c : World} {base : Nat} {v : Value} {xs : List Int} (h : Ext a b) (ho : Own b base v xs) (hb : a.heap.size ≤ base) (hg : b.grownBy c v.ownBlock) : Ext a c :=
  h.grown hg (fun k hk => Nat.le_trans hb (ho.lt k hk).1)
/-- A row of one, laid in a new block. -/
theorem row_one (w : World) (x : Int) (t : TypeId) : Row (w.alloc (.cells #[.int .i64 x] t)) (.slice (some ⟨w.heap.size, 0, none⟩) 1 1) [x] := by
  refine ⟨_, _, rfl, Nat.le_refl _, by simp [maxLen], fun _ => ⟨w.heap.size, 0, rfl, by simp, fun j hj => ?_⟩⟩
  have : j = 0 := by simpa using hj
  subst this
  rw [World.cell?_alloc_new]; rfl
theorem val_drop {a : List Int} {k : Nat} (hk : k < a.length) : val (a.drop k) = nth a k + 16777216 * val (a.drop (k + 1)) := by
  rw [List.drop_eq_getElem_cons hk, val, nth_eq hk]
theorem Limbs.drop {a : List Int} (h : Limbs a) (k : Nat) : Limbs (a.drop k) := fun j hj => by
  have hj' : k + j < a.length := by simp at hj; omega
  have e : nth (a.drop k) j = nth a (k + j) := by rw [nth_eq hj, nth_eq hj']; simp
  rw [e]; exact h.at _
theorem val_drop_le {a : List Int} (h : Limbs a) : ∀ k, 0 ≤ val (a.drop k) ∧ val (a.drop k) ≤ val a
  | 0 => by simp; exact (val_bounds h).1
  | k + 1 => by
    have ih := val_drop_le h k
    have h0 := (val_bounds (h.drop (k + 1))).1
    by_cases hk : k < a.length
    · have := val_drop hk
      have := h.at k
      omega
    · rw [List.drop_eq_nil_of_le (by omega)]
      have := (val_bounds h).1
      simp [val]; omega
theorem N.row {w : World} {v : Value} {a : List Int} {m : Nat} (h : Row w v a) (n : NF a) (e : val a = (m : Int)) : N w v m := ⟨a, h, n, e⟩
/-- It returned the natural m, in new memory, and the bool b. -/
def RetNB (w : World) (m : Nat) (b : Bool) (e : Ending) (w' : World) : Prop := ∃ v, e = .returned (.tuple #[v, .bool b]) ∧ N w' v m ∧ Ext w w'
theorem two_cell0 (w : World) (c1 c2 : Array Value) (t1 t2 : TypeId) (i : Nat) : ((w.alloc (.cells c1 t1)).alloc (.cells c2 t2)).cell? ⟨w.heap.size, i, none⟩ = c1[i]? := by
  rw [World.cell?_alloc_lt _ _ _ (by simp), World.cell?_alloc_new]
theorem two_cell1 (w : World) (c1 c2 : Array Value) (t1 t2 : TypeId) (i : Nat) : ((w.alloc (.cells c1 t1)).alloc (.cells c2 t2)).cell? ⟨w.heap.size + 1, i, none⟩ = c2[i]? := by
  have := World.cell?_alloc_new (w.alloc (.cells c1 t1)) c2 t2 i
  rwa [World.size_alloc] at this
theorem two_ext (w : World) (o1 o2 : Obj) : Ext w ((w.alloc o1).alloc o2) := ((Ext.refl w).alloc _).alloc _
theorem two_size (w : World) (o1 o2 : Obj) : ((w.alloc o1).alloc o2).heap.size = w.heap.size + 1 + 1 := by simp
/-- The column at a place, as it is summed. -/
theorem col_bounds {a b : List Int} (na : NF a) (nb : NF b) (la : a.length ≤ 1000) (p k : Nat) (hk : k ≤ a.length) : 0 ≤ psum a b p k ∧ psum a b p k ≤ 281474943156225000 := by
  have := psum_bounds na.1 nb.1 p k
  have : (k : Int) * 281474943156225 ≤ 1000 * 281474943156225 := Int.mul_le_mul_of_nonneg_right (by omega) (by omega)
  omega
theorem psum_lo (a b : List Int) (p : Nat) : psum a b p (p + 1 - b.length) = 0 := by
  by_cases h : b.length ≤ p + 1
  · exact psum_low _ (by omega)
  · have e : p + 1 - b.length = 0 := by omega
    rw [e]; rfl
theorem val_split {a : List Int} : ∀ q : Nat, val a = S (nth a) q + bp q * val (a.drop q)
  | 0 => by simp [S, bp]
  | q + 1 => by
    have ih := val_split (a := a) q
    by_cases hq : q < a.length
    · rw [val_drop hq, Int.mul_add] at ih
      rw [S_succ, bp_succ, Int.mul_comm (nth a q)]
      have : 16777216 * bp q * val (a.drop (q + 1)) = bp q * (16777216 * val (a.drop (q + 1))) := by
        rw [Int.mul_comm 16777216 (bp q), Int.mul_assoc]
      omega
    · rw [List.drop_eq_nil_of_le (by omega)] at ih ⊢
      rw [S_succ, nth_past (by omega)]
      simp [val] at ih ⊢; omega
theorem val_drop_div {a : List Int} (h : Limbs a) (q : Nat) : val (a.drop q) = val a / bp q := by
  have e := val_split (a := a) q
  have hb := S_bounds (n := q) (fun j _ => h.at j)
  have hp := bp_pos q
  rw [e, Int.add_mul_ediv_left _ _ (by omega), Int.ediv_eq_zero_of_lt hb.1 hb.2]; simp
/-- The limbs of a number over 2^d. -/
def shrAt (l : List Int) (d : Nat) (p : Nat) : Int := nth l p / 2 ^ d + nth l (p + 1) * 2 ^ (24 - d) % 16777216
theorem shr_step (x1 v : Int) (d : Nat) (hd : d < 24) :
    (x1 + 16777216 * v) * 2 ^ (24 - d) = x1 * 2 ^ (24 - d) % 16777216 + 16777216 * ((x1 + 16777216 * v) / 2 ^ d) := by
  obtain rfl | rfl | rfl | rfl | rfl | rfl | rfl | rfl | rfl | rfl | rfl | rfl | rfl | rfl | rfl | rfl | rfl | rfl | rfl | rfl | rfl | rfl | rfl | rfl :
    d = 0 ∨ d = 1 ∨ d = 2 ∨ d = 3 ∨ d = 4 ∨ d = 5 ∨ d = 6 ∨ d = 7 ∨ d = 8 ∨ d = 9 ∨ d = 10 ∨ d = 11 ∨ d = 12 ∨ d = 13 ∨ d = 14 ∨ d = 15 ∨ d = 16 ∨ d = 17 ∨ d = 18 ∨ d = 19 ∨ d = 20 ∨ d = 21 ∨ d = 22 ∨ d = 23 := by omega
  all_goals (simp only [Nat.reduceSub, Int.reducePow]; omega)
theorem div_step (x v : Int) (d : Nat) (hd : d < 24) : (x + 16777216 * v) / 2 ^ d = x / 2 ^ d + v * 2 ^ (24 - d) := by
  obtain rfl | rfl | rfl | rfl | rfl | rfl | rfl | rfl | rfl | rfl | rfl | rfl | rfl | rfl | rfl | rfl | rfl | rfl | rfl | rfl | rfl | rfl | rfl | rfl :
    d = 0 ∨ d = 1 ∨ d = 2 ∨ d = 3 ∨ d = 4 ∨ d = 5 ∨ d = 6 ∨ d = 7 ∨ d = 8 ∨ d = 9 ∨ d = 10 ∨ d = 11 ∨ d = 12 ∨ d = 13 ∨ d = 14 ∨ d = 15 ∨ d = 16 ∨ d = 17 ∨ d = 18 ∨ d = 19 ∨ d = 20 ∨ d = 21 ∨ d = 22 ∨ d = 23 := by omega
  all_goals (simp only [Nat.reduceSub, Int.reducePow]; omega)
theorem S_shr (d : Nat) (hd : d < 24) : ∀ l : List Int, Limbs l → S (shrAt l d) l.length = val l / 2 ^ d
  | [], _ => by simp [S, val]
  | x :: l, h => by
    have ih := S_shr d hd l h.tail
    rw [List.length_cons, S_shift]
    have e : S (fun j => shrAt (x :: l) d (j + 1)) l.length = S (shrAt l d) l.length := S_congr _ (fun j _ => rfl)
    rw [e, ih, val, div_step _ _ _ hd]
    have e2 : shrAt (x :: l) d 0 = x / 2 ^ d + nth l 0 * 2 ^ (24 - d) % 16777216 := rfl
    rw [e2]
    cases l with
    | nil => simp [val, nth_past]
    | cons y ys =>
      have := shr_step y (val ys) d hd
      rw [nth_cons_zero, val]; omega
theorem shr_bounds {l : List Int} (h : Limbs l) (d p : Nat) : 0 ≤ shrAt l d p ∧ shrAt l d p ≤ 33554432 := by
  unfold shrAt
  have h1 := h.at p
  have hp : (1 : Int) ≤ 2 ^ d := by
    have : 0 < (2 : Int) ^ d := Int.pow_pos (by omega)
    omega
  have h2 : 0 ≤ nth l p / 2 ^ d := Int.ediv_nonneg h1.1 (by omega)
  have h3 : nth l p / 2 ^ d ≤ nth l p := Int.ediv_le_self _ h1.1
  omega
theorem shr_word {l : List Int} {d j : Nat} (B : Hid (0 ≤ shrAt l d j ∧ shrAt l d j ≤ 33554432)) :
    wrap64 (nth l j / 2 ^ d + bits BinOp.and IntKind.i64 (wrap64 (nth l (j + 1) * 2 ^ (24 - d))) 16777215) = shrAt l d j := by
  have B := B.out
  rw [i64_and24]
  have e : wrap64 (nth l (j + 1) * 2 ^ (24 - d)) % 16777216 = nth l (j + 1) * 2 ^ (24 - d) % 16777216 := by unfold wrap64; omega
  rw [e]
  unfold shrAt at B ⊢
  unfold wrap64
  omega
theorem Row.cut {w : World} {A : Option Addr} {c q : Nat} {xs : List Int} (h : Row w (.slice A xs.length c) xs) (hq : q ≤ xs.length) :
    Row w (.slice (if c = q then A else A.map (·.add q)) (xs.length - q) (c - q)) (xs.drop q) := by
  obtain ⟨A', c', e, h1, h2, h3⟩ := h
  injection e with e1 e2 e3
  subst e1 e3
  have hlen : (xs.drop q).length = xs.length - q := by simp
  refine ⟨_, c - q, by rw [hlen], by omega, by omega, fun hp => ?_⟩
  obtain ⟨b, off, rfl, hb, hc⟩ := h3 (by omega)
  rw [if_neg (by omega)]
  refine ⟨b, off + q, by simp [Addr.add_lit], hb, fun j hj => ?_⟩
  have hj' : q + j < xs.length := by omega
  rw [Nat.add_assoc, hc (q + j) hj']
  rw [nth_eq hj', nth_eq hj]
  simp
theorem two_pow_le (d : Nat) (hd : d < 24) : (1 : Int) ≤ 2 ^ d ∧ (2 : Int) ^ d ≤ 8388608 := by
  have h1 := Nat.pow_le_pow_right (show 0 < 2 by omega) (show d ≤ 23 by omega)
  have h2 := Nat.two_pow_pos d
  have e : ((2 ^ d : Nat) : Int) = (2 : Int) ^ d := by push_cast; rfl
  omega
theorem shl_bounds {d : Nat} {x : Int} (hd : d < 24) (h0 : 0 ≤ x) (h1 : x < 16777216) : 0 ≤ 2 ^ d * x ∧ 2 ^ d * x ≤ 140737488355328 := by
  have hp := two_pow_le d hd
  refine ⟨Int.mul_nonneg (by omega) h0, ?_⟩
  have : 2 ^ d * x ≤ 8388608 * 16777216 := Int.mul_le_mul hp.2 (by omega) h0 (by omega)
  omega
theorem shl_word {d : Nat} {x : Int} (hd : d < 24) (h0 : 0 ≤ x) (h1 : x < 16777216) : wrap64 (x * 2 ^ d) = 2 ^ d * x := by
  have := shl_bounds hd h0 h1
  rw [Int.mul_comm]
  unfold wrap64
  omega
theorem val_take {ys : List Int} {k : Nat} (hk : k ≤ ys.length) (hz : ∀ j, k ≤ j → nth ys j = 0) : val (ys.take k) = val ys := by
  have hlen : (ys.take k).length = k := by simp; omega
  rw [val_S, val_S, hlen, S_more hk (fun j hj _ => hz j hj)]
  exact S_congr _ (fun j hj => by rw [nth_eq (by omega), nth_eq (by omega), List.getElem_take])
theorem nf_take {ys : List Int} {k : Nat} (h : Limbs ys) (hk : k ≤ ys.length) (hl : k = 0 ∨ nth ys (k - 1) ≠ 0) : NF (ys.take k) := by
  have hlen : (ys.take k).length = k := by simp; omega
  have hn : ∀ j, j < k → nth (ys.take k) j = nth ys j := fun j hj => by rw [nth_eq (by omega), nth_eq (by omega), List.getElem_take]
  refine ⟨fun j hj => by rw [hn j (by omega)]; exact h.at j, ?_⟩
  rcases hl with e | e
  · left; subst e; simp
  · by_cases e0 : k = 0
    · left; subst e0; simp
    · right; rw [hlen, hn _ (by omega)]; exact e
/-- It returned the natural m, in the world as it is. -/
def RetH (w : World) (m : Nat) (e : Ending) (w' : World) : Prop := ∃ v, e = .returned v ∧ N w v m ∧ w = w'
theorem S_zeros (h : Nat → Int) (q : Nat) : ∀ L, S (fun x => if x < q then 0 else h (x - q)) (q + L) = bp q * S h L
  | 0 => by
    have e : S (fun x => if x < q then 0 else h (x - q)) q = S (fun _ => 0) q := S_congr q (fun j hj => by simp [hj])
    rw [Nat.add_zero, e, S_zero]; simp [S]
  | L + 1 => by
    rw [← Nat.add_assoc, S_succ, S_zeros h q L, S_succ, bp_add, Int.mul_add, if_neg (by omega), Nat.add_sub_cancel_left, Int.mul_left_comm]
/-- What the sums of Shl leave: the whole row. -/
def ShlPost (w : World) (bo n m : Nat) (e : Ending) (w' : World) : Prop :=
  ∃ v ys, e = .returned v ∧ ys.length = n ∧ Row w' (.slice (some ⟨bo, 0, none⟩) n n) ys ∧ Limbs ys ∧ val ys = (m : Int) ∧ Ext w w'
theorem size_int : (Tryd.prog.info? 3).map (·.size) = some 1 := by kernel_rfl
theorem blk_set {w : World} {g : Nat} {t : TypeId} {cs : Array Value} (h : w.heap[g]? = some (.cells cs t (0, 0))) (i : Nat) (u : Value) : (w.setCell ⟨g, i, none⟩ u).heap[g]? = some (.cells (cs.setIfInBounds i u) t (0, 0)) := by
  simp [World.setCell, Array.getElem?_modify, h]
theorem blk_cell {w : World} {g : Nat} {t : TypeId} {cs : Array Value} (h : w.heap[g]? = some (.cells cs t (0, 0))) (i : Nat) : w.cell? ⟨g, i, none⟩ = cs[i]? := cell_of_row w g i cs t (0, 0) h
/-- What 'behind' has filled in. -/
theorem behind_row {w' : World} {g n : Nat} {t : TypeId} {x : Int} {a : List Int} (hn : n = a.length) (hl : a.length ≤ 1000) (hg : g < w'.heap.size)
    (h : w'.heap[g]? = some (.cells (splice (Value.int .i64 x :: List.replicate n (Value.int .i64 0)) 1 (a.map (Value.int .i64))).toArray t (0, 0))) :
    Row w' (.slice (some ⟨g, 0, none⟩) (n + 1) (n + 1)) (x :: a) := by
  subst hn
  have e : splice (Value.int .i64 x :: List.replicate a.length (Value.int .i64 0)) 1 (a.map (Value.int .i64)) = (x :: a).map (Value.int .i64) := by
    have e2 : ((Value.int .i64 x :: List.replicate a.length (Value.int .i64 0)) : List Value).drop (1 + a.length) = [] := List.drop_eq_nil_of_le (by simp; omega)
    simp only [splice, List.length_map, e2]
    simp
  rw [e] at h
  refine ⟨_, a.length + 1, rfl, by simp, by unfold maxLen; omega, fun _ => ⟨g, 0, rfl, hg, fun j hj => ?_⟩⟩
  rw [Nat.zero_add, blk_cell h, nth_eq hj, List.getElem?_toArray, List.getElem?_map, List.getElem?_eq_getElem hj]
  rfl
theorem behind_val {a : List Int} {m : Nat} {x : Int} (na : NF a) (ea : val a = (m : Int)) (x0 : 0 ≤ x) (x1 : x < 16777216) : Limbs (x :: a) ∧ val (x :: a) = ((m * 16777216 + x.toNat : Nat) : Int) := by
  refine ⟨fun j hj => ?_, by rw [val, ea]; omega⟩
  cases j with
  | zero => exact ⟨x0, x1⟩
  | succ j => rw [nth_cons_succ]; exact na.1.at j
/-- Is a row a natural of at most 300 limbs? -/
def rightB (xs : List Int) : Bool := xs.all (fun x => decide (0 ≤ x ∧ x ≤ 16777215)) && decide (xs.length ≤ 300) && (xs.isEmpty || nth xs (xs.length - 1) != 0)
theorem all_nth {xs : List Int} {p : Int → Bool} : xs.all p = true ↔ ∀ j, j < xs.length → p (nth xs j) = true := by
  rw [List.all_eq_true]
  constructor
  · intro h j hj; rw [nth_eq hj]; exact h _ (List.getElem_mem hj)
  · intro h x hx
    obtain ⟨j, hj, rfl⟩ := List.getElem_of_mem hx
    have := h j hj; rwa [nth_eq hj] at this
theorem right_iff {xs : List Int} : rightB xs = true ↔ NF xs ∧ xs.length ≤ 300 := by
  unfold rightB NF
  rw [Bool.and_eq_true, Bool.and_eq_true, all_nth, Bool.or_eq_true, decide_eq_true_eq, bne_iff_ne, List.isEmpty_iff]
  constructor
  · rintro ⟨⟨h1, h2⟩, h3⟩
    exact ⟨⟨fun j hj => by have := h1 j hj; rw [decide_eq_true_eq] at this; omega, h3⟩, h2⟩
  · rintro ⟨⟨h1, h3⟩, h2⟩
    exact ⟨⟨fun j hj => by have := h1 j hj; rw [decide_eq_true_eq]; omega, h2⟩, h3⟩
theorem right_bad {xs : List Int} {j : Nat} (hj : j < xs.length) (h : nth xs j < 0 ∨ 16777215 < nth xs j) : rightB xs = false := by
  rcases hb : rightB xs with _ | _
  · rfl
  · have := (right_iff.1 hb).1.1 j hj; omega
theorem right_end {xs : List Int} (hne : 0 < xs.length) (h : ∀ j, j < xs.length → 0 ≤ nth xs j ∧ nth xs j ≤ 16777215) : rightB xs = (decide (xs.length ≤ 300) && (nth xs (xs.length - 1) != 0)) := by
  unfold rightB
  have e : xs.all (fun x => decide (0 ≤ x ∧ x ≤ 16777215)) = true := all_nth.2 (fun j hj => by rw [decide_eq_true_eq]; exact h j hj)
  have e2 : xs.isEmpty = false := by cases xs <;> simp_all
  rw [e, e2]; simp
/-- It returned v, and no old memory has turned. -/
def RetE (w : World) (v : Value) (e : Ending) (w' : World) : Prop := e = .returned v ∧ Ext w w'
theorem guess_word {X Y : Nat} (h : X < 4611686018427387904) : min (wrap64 ((X : Int) / (Y : Int))) 16777215 = ((min (X / Y) 16777215 : Nat) : Int) := by
  have e : (X : Int) / (Y : Int) = ((X / Y : Nat) : Int) := by rw [Int.natCast_ediv]
  have : X / Y ≤ X := Nat.div_le_self _ _
  rw [e]
  generalize X / Y = z at *
  unfold wrap64
  omega
/-- It returned the naturals r and s, in new memory. -/
def RetNN (w : World) (r s : Nat) (e : Ending) (w' : World) : Prop := ∃ v1 v2, e = .returned (.tuple #[v1, v2]) ∧ N w' v1 r ∧ N w' v2 s ∧ Ext w w'
def FirstPost (w : World) (n : Nat) (e : Ending) (w' : World) : Prop := ∃ r, Sq n r ∧ RetNN w r (n - r * r) e w'
/-- What 'nextLimb' leaves. -/
def NextPost (w : World) (r s h l : Nat) (e : Ending) (w' : World) : Prop :=
  ∃ q, Fit r (s * 281474976710656 + h * 16777216 + l) q ∧ ¬ Fit r (s * 281474976710656 + h * 16777216 + l) (q + 1) ∧
    RetNN w (r * 16777216 + q) (s * 281474976710656 + h * 16777216 + l - (2 * r * 16777216 + q) * q) e w'
theorem bl_shift {m : Nat} (k : Nat) (h : m ≠ 0) : bl (m * 2 ^ k) = bl m + k := by
  have hp := Nat.two_pow_pos k
  have h1 := bl_lt m
  have h2 := bl_le h
  have h3 : bl m ≠ 0 := by intro e0; rw [e0] at h1; simp at h1; omega
  obtain ⟨n, hn⟩ : ∃ n, bl m = n + 1 := ⟨bl m - 1, by omega⟩
  rw [hn] at h1 h2 ⊢
  rw [Nat.add_sub_cancel] at h2
  rw [Nat.add_right_comm]
  apply bl_is
  · rw [Nat.pow_add]; exact Nat.mul_le_mul_right _ h2
  · rw [Nat.add_right_comm, Nat.pow_add]; exact Nat.mul_lt_mul_of_pos_right h1 hp
theorem bl_pos {m : Nat} (h : m ≠ 0) : 0 < bl m := by
  rcases Nat.eq_zero_or_pos (bl m) with e | e
  · have := bl_lt m; rw [e] at this; simp at this; omega
  · exact e
theorem wide_len {b : List Int} {M m u : Nat} (nb : NF b) (eb : val b = (M : Int)) (hm : m ≠ 0) (hu : u = (47 - (bl m - 1) % 48) / 2) (hM : M = m * 2 ^ (2 * u)) : ∃ t, b.length = 2 * t + 2 := by
  have hM0 : M ≠ 0 := by
    rw [hM]; exact Nat.mul_ne_zero hm (by have := Nat.two_pow_pos (2 * u); omega)
  have hb0 : b ≠ [] := by
    intro e; subst e; simp [val] at eb; omega
  have hl : b.length ≠ 0 := by simpa using hb0
  obtain ⟨t0, t1⟩ := nb.1.at (b.length - 1)
  obtain ⟨t, ht⟩ := Int.eq_ofNat_of_zero_le t0
  have htop := bl_top nb hb0 eb ht
  have h24 : bl t ≤ 24 := bl_of_lt (n := 24) (by omega)
  have ht0 : t ≠ 0 := by
    rcases nb.2 with e | e
    · exact absurd e hb0
    · omega
  have hpos := bl_pos ht0
  have hsh : bl M = bl m + 2 * u := by rw [hM]; exact bl_shift _ hm
  have hmp := bl_pos hm
  exact ⟨b.length / 2 - 1, by omega⟩
/-- The upper end of a row, two limbs more. -/
theorem val_two {b : List Int} {t : Nat} (h : 2 * t + 1 < b.length) : val (b.drop (2 * t)) = val (b.drop (2 * (t + 1))) * 281474976710656 + nth b (2 * t + 1) * 16777216 + nth b (2 * t) := by
  have e1 := val_drop (a := b) (k := 2 * t) (by omega)
  have e2 := val_drop (a := b) (k := 2 * t + 1) (by omega)
  have e3 : 2 * (t + 1) = 2 * t + 1 + 1 := by omega
  rw [e3]
  omega
/-- It returned the root of m. -/
def RetSq (w : World) (m : Nat) (e : Ending) (w' : World) : Prop := ∃ r, Sq m r ∧ RetN w r e w'
theorem eq_of_nth {xs ys : List Int} (hl : xs.length = ys.length) (h : ∀ j, j < xs.length → nth xs j = nth ys j) : xs = ys := by
  apply List.ext_getElem hl
  intro i h1 h2
  have := h i h1
  rwa [nth_eq h1, nth_eq h2] at this
/-- A row that is too long, or no natural. -/
def badB (xs : List Int) : Bool := decide (30 < xs.length) || !rightB xs
def greatB (X : Nat → List Int) : Nat → Bool
  | 0 => false
  | n + 1 => greatB X n || badB (X n)
theorem great_bad {X : Nat → List Int} : ∀ {n k : Nat}, k < n → badB (X k) = true → greatB X n = true
  | 0, k, h, _ => by omega
  | n + 1, k, h, hb => by
    unfold greatB
    by_cases e : k = n
    · subst e; rw [hb, Bool.or_true]
    · rw [great_bad (n := n) (by omega) hb, Bool.true_or]
theorem great_good {X : Nat → List Int} : ∀ {n : Nat}, (∀ k, k < n → badB (X k) = false) → greatB X n = false
  | 0, _ => rfl
  | n + 1, h => by unfold greatB; rw [great_good (fun k hk => h k (by omega)), h n (by omega)]; rfl

end Go.Proofs.YtncopdgonbgaaaaDoor
