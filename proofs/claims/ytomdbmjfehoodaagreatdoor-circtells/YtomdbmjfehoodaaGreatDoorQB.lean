/- The document's list of halves in memory: 'append' of one. -/
import Derived.Test.YtomdbmjfehoodaaGreatDoorQA
import Derived.Deep.CutRange
set_option maxRecDepth 8000
namespace Go.Proofs.YtomdbmjfehoodaaGreatDoor
open Go.RowKit
set_option linter.unusedVariables false
set_option linter.unusedSimpArgs false
/-- All ints among these are at most 0. -/
def Lw0 (l : List Value) : Prop := ∀ z ∈ l, ∀ i, z = .int .i64 i → i ≤ 0
theorem Lw0.app {a b : List Value} (h : Lw0 a) (g : Lw0 b) : Lw0 (a ++ b) := fun z hz => by
  rcases List.mem_append.1 hz with k | k
  · exact h z k
  · exact g z k
theorem Lw0.take {a : List Value} (h : Lw0 a) (n : Nat) : Lw0 (a.take n) := fun z hz => h z (List.mem_of_mem_take hz)
theorem Lw0.drop {a : List Value} (h : Lw0 a) (n : Nat) : Lw0 (a.drop n) := fun z hz => h z (List.mem_of_mem_drop hz)
/-- The twelve cells of one half at a place of a list. -/
structure At (l : List Value) (o : Nat) (x y z x' y' z' p q r p' q' r' : Value) : Prop where
  c0 : l[o]? = some x
  c1 : l[o + 1]? = some y
  c2 : l[o + 2]? = some z
  c3 : l[o + 3]? = some x'
  c4 : l[o + 4]? = some y'
  c5 : l[o + 5]? = some z'
  c6 : l[o + 6]? = some p
  c7 : l[o + 7]? = some q
  c8 : l[o + 8]? = some r
  c9 : l[o + 9]? = some p'
  c10 : l[o + 10]? = some q'
  c11 : l[o + 11]? = some r'
theorem At.keep {l r : List Value} {o m : Nat} {x y z x' y' z' p q s p' q' s' : Value} (h : At l o x y z x' y' z' p q s p' q' s') (hm : o + 12 ≤ m) (hl : m ≤ l.length) : At (l.take m ++ r) o x y z x' y' z' p q s p' q' s' := by
  have k : ∀ j, j < m → (l.take m ++ r)[j]? = l[j]? := fun j hj => by
    rw [List.getElem?_append_left (by rw [List.length_take]; omega), List.getElem?_take_of_lt hj]
  exact ⟨(k _ (by omega)).trans h.c0, (k _ (by omega)).trans h.c1, (k _ (by omega)).trans h.c2, (k _ (by omega)).trans h.c3, (k _ (by omega)).trans h.c4, (k _ (by omega)).trans h.c5,
    (k _ (by omega)).trans h.c6, (k _ (by omega)).trans h.c7, (k _ (by omega)).trans h.c8, (k _ (by omega)).trans h.c9, (k _ (by omega)).trans h.c10, (k _ (by omega)).trans h.c11⟩
theorem At.last {l r : List Value} {m : Nat} (x y z x' y' z' p q s p' q' s' : Value) (hl : m ≤ l.length) : At (l.take m ++ ([x, y, z, x', y', z', p, q, s, p', q', s'] ++ r)) m x y z x' y' z' p q s p' q' s' := by
  have k : ∀ j, (l.take m ++ ([x, y, z, x', y', z', p, q, s, p', q', s'] ++ r))[m + j]? = ([x, y, z, x', y', z', p, q, s, p', q', s'] ++ r)[j]? := fun j => by
    rw [List.getElem?_append_right (by rw [List.length_take]; omega)]
    congr 1
    rw [List.length_take]; omega
  exact ⟨k 0, k 1, k 2, k 3, k 4, k 5, k 6, k 7, k 8, k 9, k 10, k 11⟩
/-- v is a list of n halves, in a block of its own from base on. -/
structure Lh (w : World) (base : Nat) (v : Value) (n : Nat) (h : Nat → Hf) : Prop where
  out : (n = 0 ∧ v = .slice none 0 0) ∨ ∃ (g cap : Nat) (cur : Array Value), v = .slice (some ⟨g, 0, none⟩) n cap ∧ base ≤ g ∧ w.heap[g]? = some (.cells cur 113 (0, 0)) ∧ n ≤ cap ∧ cap ≤ maxLen ∧ cur.size = cap * 12 ∧ Lw0 cur.toList ∧
    ∀ i, i < n → ∃ x y z x' y' z' p q r p' q' r', At cur.toList (i * 12) x y z x' y' z' p q r p' q' r' ∧ In w (.agg #[x, y, z, x', y', z']) (h i).c1 (h i).c2 ∧ In w (.agg #[p, q, r, p', q', r']) (h i).s1 (h i).s2
theorem Lh.nil (w : World) (base : Nat) (h : Nat → Hf) : Lh w base (.slice none 0 0) 0 h := ⟨.inl ⟨rfl, rfl⟩⟩
theorem Lh.ext {w w' : World} {base n : Nat} {v : Value} {h : Nat → Hf} (L : Lh w base v n h) (E : Ext w w') : Lh w' base v n h := by
  rcases L.out with k | ⟨g, cap, cur, rfl, hb, hg, hn, hm, hs, hl, he⟩
  · exact ⟨.inl k⟩
  · exact ⟨.inr ⟨g, cap, cur, rfl, hb, (E.block g (Array.getElem?_eq_some_iff.1 hg).1).trans hg, hn, hm, hs, hl, fun i hi => by
      obtain ⟨x, y, z, x', y', z', p, q, r, p', q', r', a, b, c⟩ := he i hi
      exact ⟨x, y, z, x', y', z', p, q, r, p', q', r', a, b.ext E, c.ext E⟩⟩⟩
/-- A variable below the list is stored into. -/
theorem Lh.set {w : World} {base n g : Nat} {v x y z x' y' z' : Value} {h : Nat → Hf} (L : Lh w base v n h) (V : Vr w g x y z x' y' z') (hg : g < base) (a b c a' b' c' : Value) : Lh (set6 w g a b c a' b' c') base v n h := by
  rcases L.out with k | ⟨g', cap, cur, rfl, hb, hgg, hn, hm, hs, hl, he⟩
  · exact ⟨.inl k⟩
  · exact ⟨.inr ⟨g', cap, cur, rfl, hb, (set6_block (by omega)).trans hgg, hn, hm, hs, hl, fun i hi => by
      obtain ⟨x, y, z, x', y', z', p, q, r, p', q', r', k1, k2, k3⟩ := he i hi
      exact ⟨x, y, z, x', y', z', p, q, r, p', q', r', k1, V.off k2 _ _ _ _ _ _, V.off k3 _ _ _ _ _ _⟩⟩⟩
/-- What an append leaves as it was. -/
structure Sv (base : Nat) (w w' : World) : Prop where
  old : ∀ w0, Ext w0 w → w0.heap.size ≤ base → Ext w0 w'
  blk : ∀ k, k < base → w'.heap[k]? = w.heap[k]?
  dn : ∀ v d, Dn w v d → Dn w' v d
  size : w.heap.size ≤ w'.heap.size
theorem Sv.in {base : Nat} {w w' : World} (s : Sv base w w') {v : Value} {l u : Dyadic} (h : In w v l u) : In w' v l u := by
  obtain ⟨b, A, n, c, e, b', A', n', c', e', hv, h1, h2⟩ := h
  exact ⟨b, A, n, c, e, b', A', n', c', e', hv, s.dn _ _ h1, s.dn _ _ h2⟩
theorem info_half : (Tryz.prog.info? 113).map (fun i => (i.zero, i.size, i.bytes)) = some (some (.agg #[.bool false, .slice none 0 0, .int .i64 0, .bool false, .slice none 0 0, .int .i64 0, .bool false, .slice none 0 0, .int .i64 0, .bool false, .slice none 0 0, .int .i64 0]), 12, 160) := by kernel_rfl
theorem low_zeros : ∀ n, Lw0 (Builtin.zeroCells (Value.agg #[.bool false, .slice none 0 0, .int .i64 0, .bool false, .slice none 0 0, .int .i64 0, .bool false, .slice none 0 0, .int .i64 0, .bool false, .slice none 0 0, .int .i64 0]).cells n).toList := fun n z hz i hi => by
  unfold Builtin.zeroCells at hz
  rw [Array.mem_toList_iff, Array.mem_map] at hz
  obtain ⟨a, _, ha⟩ := hz
  have hm := Nat.mod_lt a (show 0 < 12 by omega)
  have ha2 : (#[Value.bool false, .slice none 0 0, .int .i64 0, .bool false, .slice none 0 0, .int .i64 0, .bool false, .slice none 0 0, .int .i64 0, .bool false, .slice none 0 0, .int .i64 0])[a % 12]! = z := ha
  clear ha
  generalize a % 12 = m at *
  subst hi
  obtain rfl | rfl | rfl | rfl | rfl | rfl | rfl | rfl | rfl | rfl | rfl | rfl : m = 0 ∨ m = 1 ∨ m = 2 ∨ m = 3 ∨ m = 4 ∨ m = 5 ∨ m = 6 ∨ m = 7 ∨ m = 8 ∨ m = 9 ∨ m = 10 ∨ m = 11 := by omega
  all_goals (simp at ha2; try omega)
/-- 'append(out, h)'. -/
theorem app_half (w : World) (ty : TypeId) (base n ga : Nat) (v : Value) (h : Nat → Hf) (L : Lh w base v n h) (hn : n ≤ 1000) (hb : base ≤ w.heap.size)
    (x y z x' y' z' p q r p' q' r' : Value) (hc : ∀ j u, [x, y, z, x', y', z', p, q, r, p', q', r'][j]? = some u → w.cell? ((⟨ga, 0, none⟩ : Addr).add j) = some u)
    (lw : Lw0 [x, y, z, x', y', z', p, q, r, p', q', r']) (oc : ∀ u ∈ [x, y, z, x', y', z', p, q, r, p', q', r'], u.oneCell' = true)
    (I1 : In w (.agg #[x, y, z, x', y', z']) (h n).c1 (h n).c2) (I2 : In w (.agg #[p, q, r, p', q', r']) (h n).s1 (h n).s2) :
    ∃ v' w', (Builtin.append_ #[90, 90] ty #[v, .slice (some ⟨ga, 0, none⟩) 1 1]).run Tryz.prog w = .ok v' w' ∧ Lh w' base v' (n + 1) h ∧ Sv base w w' := by
  obtain ⟨i0, hi, hz0, hz1, hz2⟩ := info_parts info_half
  have hl : [x, y, z, x', y', z', p, q, r, p', q', r'].length = 1 * i0.size := by rw [hz1]; rfl
  have hnews := hc
  -- a new block
  have grown : ∀ (l : List Value) (cap : Nat), l.length = n * 12 → Lw0 l → n + 1 ≤ cap → cap ≤ maxLen → (∀ i, i < n → ∃ x y z x' y' z' p q r p' q' r', At l (i * 12) x y z x' y' z' p q r p' q' r' ∧ In w (.agg #[x, y, z, x', y', z']) (h i).c1 (h i).c2 ∧ In w (.agg #[p, q, r, p', q', r']) (h i).s1 (h i).s2) →
      ∀ zs : Array Value, zs.size = (cap - (n + 1)) * 12 → Lw0 zs.toList →
      Lh (w.drew.alloc (.cells (l.toArray ++ [x, y, z, x', y', z', p, q, r, p', q', r'].toArray ++ zs) 113)) base (.slice (some ⟨w.heap.size, 0, none⟩) (n + 1) cap) (n + 1) h ∧
      Sv base w (w.drew.alloc (.cells (l.toArray ++ [x, y, z, x', y', z', p, q, r, p', q', r'].toArray ++ zs) 113)) := by
    intro l cap hll hlow hcap hcm he zs hzs hzl
    have E : Ext w (w.drew.alloc (.cells (l.toArray ++ [x, y, z, x', y', z', p, q, r, p', q', r'].toArray ++ zs) 113)) := ((Ext.refl w).drew).alloc _
    have hlist : (l.toArray ++ [x, y, z, x', y', z', p, q, r, p', q', r'].toArray ++ zs).toList = l.take (n * 12) ++ ([x, y, z, x', y', z', p, q, r, p', q', r'] ++ zs.toList) := by
      rw [List.take_of_length_le (by omega)]
      simp [List.append_assoc]
    refine ⟨⟨.inr ⟨w.heap.size, cap, _, rfl, hb, heap_alloc_new w.drew _, hcap, hcm, ?_, ?_, ?_⟩⟩, ⟨fun w0 e0 _ => e0.trans E, fun k hk => E.block k (by omega), fun v d hd => hd.ext E, E.size⟩⟩
    · rw [Array.size_append, Array.size_append, hzs]
      simp only [List.size_toArray, hll, List.length_cons, List.length_nil]
      omega
    · rw [hlist]; exact (hlow.take _).app (lw.app hzl)
    · intro i hi'
      rw [hlist]
      by_cases hin : i < n
      · obtain ⟨x, y, z, x', y', z', p, q, r, p', q', r', a, b, c⟩ := he i hin
        exact ⟨x, y, z, x', y', z', p, q, r, p', q', r', a.keep (by omega) (by omega), b.ext E, c.ext E⟩
      · obtain rfl : i = n := by omega
        exact ⟨x, y, z, x', y', z', p, q, r, p', q', r', At.last _ _ _ _ _ _ _ _ _ _ _ _ (by omega), I1.ext E, I2.ext E⟩
  have hzc : ∀ k, (Builtin.zeroCells (Value.agg #[.bool false, .slice none 0 0, .int .i64 0, .bool false, .slice none 0 0, .int .i64 0, .bool false, .slice none 0 0, .int .i64 0, .bool false, .slice none 0 0, .int .i64 0]).cells k).size = k * 12 := fun k => by rw [size_zeroCells]; rfl
  rcases L.out with ⟨rfl, rfl⟩ | ⟨g, cap, cur, rfl, hbg, hg, hnc, hcm, hcs, hlow, he⟩
  · have hr := run_append_nil (P := Tryz.prog) w 90 ty 113 i0 _ Tryz.underlying90 hi hz0 ⟨ga, 0, none⟩ 1 1 _ hl hnews (by omega) (by omega) (by rw [hz2]; omega)
    have hge := grownCap_ge w 1 0 113
    have hcm := grownCap_le_maxLen w 1 0 113 (by simp [maxLen])
    have := grown [] _ rfl (fun z hz => by cases hz) hge hcm (fun i hi => by omega) _ (hzc _) (low_zeros _)
    simp only [Array.empty_append] at this
    exact ⟨_, _, hr, this.1, this.2⟩
  · by_cases hroom : n + 1 ≤ cap
    · have hfit : n * i0.size + [x, y, z, x', y', z', p, q, r, p', q', r'].length ≤ cur.size := by
        rw [hz1, hcs]
        have := Nat.mul_le_mul_right 12 hroom
        simp only [List.length_cons, List.length_nil]
        omega
      have hr := run_append_room (P := Tryz.prog) w 90 ty 113 i0 Tryz.underlying90 hi g n cap cur hg ⟨ga, 0, none⟩ 1 1 _ hl hnews oc hroom hfit
      rw [hz1] at hr hfit
      have hgl : g < w.heap.size := (Array.getElem?_eq_some_iff.1 hg).1
      obtain ⟨new, hnew⟩ : ∃ new : List Value, new = cur.toList.take (n * 12) ++ ([x, y, z, x', y', z', p, q, r, p', q', r'] ++ cur.toList.drop (n * 12 + 12)) := ⟨_, rfl⟩
      have hset : (cur.toList.take (n * 12) ++ [x, y, z, x', y', z', p, q, r, p', q', r'] ++ cur.toList.drop (n * 12 + [x, y, z, x', y', z', p, q, r, p', q', r'].length)) = new := by
        rw [hnew, List.append_assoc]; rfl
      rw [hset] at hr
      have hsz : n * 12 ≤ cur.toList.length := by
        have := Nat.mul_le_mul_right 12 hroom
        rw [Array.length_toList]; omega
      have oth : ∀ k, k ≠ g → (w.setRow g new.toArray).heap[k]? = w.heap[k]? := fun k hk => setRow_other w g k _ hk
      have dn : ∀ v d, Dn w v d → Dn (w.setRow g new.toArray) v d := fun v d hd => dn_offn (g := g) (fun j i hj => by
        rw [cell_of_row w g j cur _ (0, 0) hg] at hj
        exact hlow _ (Array.mem_toList_iff.2 (Array.mem_of_getElem? hj)) i rfl) hd (fun p hp => World.cell?_of_block (oth _ hp)) (by simp)
      have inn : ∀ v l u, In w v l u → In (w.setRow g new.toArray) v l u := fun v l u hi => by
        obtain ⟨b, A, n, c, e, b', A', n', c', e', hv, h1, h2⟩ := hi
        exact ⟨b, A, n, c, e, b', A', n', c', e', hv, dn _ _ h1, dn _ _ h2⟩
      refine ⟨_, _, hr, ⟨.inr ⟨g, cap, _, rfl, hbg, setRow_heap w g cur _ _ _ hg, hroom, hcm, ?_, ?_, ?_⟩⟩, ⟨fun w0 e0 hw0 => ?_, fun k hk => oth k (by omega), dn, by simp⟩⟩
      · rw [hnew]
        simp only [List.size_toArray, List.length_append, List.length_take, List.length_drop, Array.length_toList, List.length_cons, List.length_nil]
        omega
      · rw [List.toList_toArray, hnew]; exact (hlow.take _).app (lw.app (hlow.drop _))
      · intro i hi'
        by_cases hin : i < n
        · obtain ⟨x, y, z, x', y', z', p, q, r, p', q', r', a, b, c⟩ := he i hin
          exact ⟨x, y, z, x', y', z', p, q, r, p', q', r', by rw [List.toList_toArray, hnew]; exact a.keep (by omega) hsz, inn _ _ _ b, inn _ _ _ c⟩
        · obtain rfl : i = n := by omega
          exact ⟨x, y, z, x', y', z', p, q, r, p', q', r', by rw [List.toList_toArray, hnew]; exact At.last _ _ _ _ _ _ _ _ _ _ _ _ hsz, inn _ _ _ I1, inn _ _ _ I2⟩
      · exact ⟨e0.os, e0.tape, e0.output, by simpa using e0.size, fun k hk => (oth k (by omega)).trans (e0.block k hk)⟩
    · obtain rfl : n = cap := by omega
      have holds : ∀ j u, cur.toList[j]? = some u → w.cell? ((⟨g, 0, none⟩ : Addr).add j) = some u := fun j u hu => by
        rw [Addr.add_lit, Nat.zero_add, cell_of_row w g j cur _ (0, 0) hg]
        simpa using hu
      have hlo : cur.toList.length = n * i0.size := by rw [hz1, Array.length_toList, hcs]
      have hr := run_append_grow (P := Tryz.prog) w 90 ty 113 i0 _ Tryz.underlying90 hi hz0 ⟨g, 0, none⟩ n n cur.toList hlo holds ⟨ga, 0, none⟩ 1 1 _ hl hnews (by omega) (by omega) (growslice_fits (by omega) (by rw [hz2]; omega))
      have hge := grownCap_ge w (n + 1) n 113
      have hcm2 := grownCap_le_maxLen w (n + 1) n 113 (by simp only [maxLen]; omega)
      have := grown cur.toList _ (by rw [hlo, hz1]) hlow hge hcm2 he _ (hzc _) (low_zeros _)
      exact ⟨_, _, hr, this.1, this.2⟩
theorem wpList_app_half (w : World) {ops : Array Oper} {rest : List Oper} {o : Oper} {a : Act} {Q : Exit → Act → World → Prop} (hgd : o.guard = none) (s x0 : Operand)
    (hop : o.op = .call { callee := .builtin .append, args := #[s, x0], argTypes := #[90, 90] })
    (base n ga : Nat) (v : Value) (h : Nat → Hf) (hs : a.eval s = v) (hx : a.eval x0 = .slice (some ⟨ga, 0, none⟩) 1 1) (L : Lh w base v n h) (hn : n ≤ 1000) (hb : base ≤ w.heap.size)
    (x y z x' y' z' p q r p' q' r' : Value) (hc : ∀ j u, [x, y, z, x', y', z', p, q, r, p', q', r'][j]? = some u → w.cell? ((⟨ga, 0, none⟩ : Addr).add j) = some u)
    (lw : Lw0 [x, y, z, x', y', z', p, q, r, p', q', r']) (oc : ∀ u ∈ [x, y, z, x', y', z', p, q, r, p', q', r'], u.oneCell' = true)
    (I1 : In w (.agg #[x, y, z, x', y', z']) (h n).c1 (h n).c2) (I2 : In w (.agg #[p, q, r, p', q', r']) (h n).s1 (h n).s2)
    (hK : ∀ v' w', Lh w' base v' (n + 1) h → Sv base w w' → wpList Tryz.prog ops Q rest (a.put o.dst v') w') : wpList Tryz.prog ops Q (o :: rest) a w := by
  obtain ⟨v', w', hrun, h2, h3⟩ := app_half w o.type base n ga v h L hn hb x y z x' y' z' p q r p' q' r' hc lw oc I1 I2
  refine wpList_plain hgd fun K hK' => ?_
  unfold Oper.wp execOp
  simp only [hop, resolve, invoke, builtin, Sem.run_bind, Sem.run_pure, Result.andThen_ok, List.map_toArray, List.map_cons, List.map_nil, hs, hx, hrun]
  exact hK' _ _ (hK v' w' h2 h3)
/-- In a block just laid. -/
theorem at_new (w : World) (t : TypeId) (x y z x' y' z' p q r p' q' r' : Value) : ∀ j u, [x, y, z, x', y', z', p, q, r, p', q', r'][j]? = some u → (w.alloc (.cells #[x, y, z, x', y', z', p, q, r, p', q', r'] t)).cell? ((⟨w.heap.size, 0, none⟩ : Addr).add j) = some u := fun j u hu => by
  rw [Addr.add_lit, Nat.zero_add, World.cell?_alloc_new]
  simpa using hu
theorem low12 {b b' d d' : Bool} {A A' B B' : Option Addr} {n c n' c' m y m' y' : Nat} {e e' f f' : Int} (h1 : e ≤ 0) (h2 : e' ≤ 0) (h3 : f ≤ 0) (h4 : f' ≤ 0) :
    Lw0 [.bool b, .slice A n c, .int .i64 e, .bool b', .slice A' n' c', .int .i64 e', .bool d, .slice B m y, .int .i64 f, .bool d', .slice B' m' y', .int .i64 f'] := fun z hz i hi => by
  subst hi
  simp at hz
  omega
theorem one12 {b b' d d' : Bool} {A A' B B' : Option Addr} {n c n' c' m y m' y' : Nat} {e e' f f' : Int} :
    ∀ u ∈ ([.bool b, .slice A n c, .int .i64 e, .bool b', .slice A' n' c', .int .i64 e', .bool d, .slice B m y, .int .i64 f, .bool d', .slice B' m' y', .int .i64 f'] : List Value), u.oneCell' = true := fun u hu => by
  simp at hu
  rcases hu with rfl | rfl | rfl | rfl | rfl | rfl | rfl | rfl | rfl | rfl | rfl | rfl <;> rfl
end Go.Proofs.YtomdbmjfehoodaaGreatDoor
