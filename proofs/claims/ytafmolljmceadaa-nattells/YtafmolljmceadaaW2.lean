/- Walks of nat's sums: Of, Add, Sub, Mul, Shl, Shr. -/
import Derived.Test.YtafmolljmceadaaW1
import Derived.Deep.RegionWith
namespace Go.Proofs.Ytafmolljmceadaa
open Go.RowKit

theorem Row.drewN {w : World} {v : Value} {xs : List Int} (h : Row w v xs) (n : Nat) : Row (w.drewN n) v xs := h
theorem call36 : ∀ (x : Array Value) (W : World), (callFunc 35 x).run Try.prog W = .ok (.enter 35 x) W := fun _ _ => by kernel_rfl
theorem callAdd : ∀ (x : Array Value) (W : World), (callFunc 41 x).run Try.prog W = .ok (.enter 41 x) W := fun _ _ => by kernel_rfl

set_option maxHeartbeats 400000 in
theorem add1_any (w : World) (ba bb : Nat) (va vb : Value) (a b : List Int) (j : Nat) (hj : j ≤ 9000000000000000000)
    (ca : w.cell? ⟨ba, 0, none⟩ = some va) (cb : w.cell? ⟨bb, 0, none⟩ = some vb) (ra : Row w va a) (rb : Row w vb b)
    (b1 : 0 ≤ nth a j ∧ nth a j < 16777216) (b2 : 0 ≤ nth b j ∧ nth b j < 16777216) :
    Calls Try.prog 41 #[.int .i64 j, .pointer (some ⟨ba, 0, none⟩), .pointer (some ⟨bb, 0, none⟩)] w fun e w' =>
      e = .returned (.int .i64 (nth a j + nth b j)) ∧ ∃ q, w' = w.drewN q := by
  obtain ⟨b11, b12⟩ := b1
  obtain ⟨b21, b22⟩ := b2
  obtain ⟨A, c, rfl, h1, h2, h3⟩ := id ra
  obtain ⟨A', c', rfl, h1', h2', h3'⟩ := id rb
  clear h3 h3'
  go_enter Try.func41, Try.ntmps41
  go_wp2
  have hj0 : (0 : Int) ≤ (j : Int) := by omega
  go_quiet ((go_at_call 38; first | with_reducible exact quiet_left (at_any _ _ _ _ (ra.drewN _) hj0) | with_reducible exact quiet_left (at_any _ _ _ _ (rb.drewN _) hj0)))
  go_wp2
  go_ret
  exact ⟨rfl, _, rfl⟩

theorem info_int : (Try.prog.info? 3).map (fun i => (i.zero, i.size, i.bytes)) = some (some (.int .i64 0), 1, 8) := by kernel_rfl
/-- 'make([]int, n)'. -/
theorem mk_ints (W : World) (n : Nat) (l : Int) (hl : l = (n : Int)) (hn : n ≤ 1000000) : (Instr.makeSlice 22 (.int .i64 l) (.int .i64 l)).run Try.prog W =
    .ok (.slice (some ⟨W.heap.size, 0, none⟩) n n) (W.alloc (.cells (madeCells #[.int .i64 0] n) 3)) := by
  obtain ⟨i0, hi, hz0, hz1, hz2⟩ := info_parts info_int
  subst hl
  have hr := run_make (P := Try.prog) W 22 3 i0 (.int .i64 0) Try.underlying22 hi hz0 .i64 .i64 n n (by omega) (by omega) (by rw [hz2]; omega) (by omega)
  rw [hz1] at hr
  simpa [Value.cells] using hr

theorem mkf (fn : Fn) (first cap : Array Value) (w : World) : (Instr.makeFunc fn first cap).run Try.prog w = .ok (.func fn first cap) w := rfl
/-- What 'make([]int, n)' leaves. -/
structure Made (n : Nat) (w w' : World) : Prop where
  ext : Ext w w'
  size : w'.heap.size = w.heap.size + 1
  cell : ∀ j, j < n → w'.cell? ⟨w.heap.size, j, none⟩ = some (.int .i64 0)
  frozen : ∀ j, w'.frozen? ⟨w.heap.size, j, none⟩ = false
  blk : w'.heap[w.heap.size]? = some (.cells (List.replicate n (Value.int .i64 0)).toArray 3 (0, 0))

theorem madeCells_zeros (n : Nat) : madeCells #[.int .i64 0] n = (List.replicate n (Value.int .i64 0)).toArray := by
  apply Array.ext
  · simp [madeCells]
  · intro i h1 h2
    simp [madeCells, Nat.mod_one]

theorem wpList_mk_ints (w : World) {ops : Array Oper} {rest : List Oper} {o : Oper} {a : Act} {Q : Exit → Act → World → Prop} (hg : o.guard = none) (l : Operand) (hop : o.op = Op.makeSlice 22 l l)
    (n : Nat) (L : Int) (hl : a.eval l = .int .i64 L) (hL : L = (n : Int)) (hn : n ≤ 1000000)
    (hK : ∀ w', Made n w w' → wpList Try.prog ops Q rest (a.put o.dst (.slice (some ⟨w.heap.size, 0, none⟩) n n)) w') : wpList Try.prog ops Q (o :: rest) a w := by
  refine wpList_plain hg fun K hK' => ?_
  have hrun := mk_ints w n L hL hn
  unfold Oper.wp
  simp only [execOp, hop, hl, Sem.run_bind, hrun, Result.andThen_ok]
  refine hK' _ _ (hK _ ⟨(Ext.refl w).alloc _, by simp, fun j hj => ?_, fun j => ?_, ?_⟩)
  · rw [World.cell?_alloc_new]
    simp [madeCells, hj, Nat.mod_one]
  · rw [World.frozen?_alloc_new]
  · rw [madeCells_zeros]; exact heap_alloc_new w _

/-- What 'sums' over a new row leaves: the natural m. -/
def SumN (w : World) (bo bc m : Nat) (e : Ending) (w' : World) : Prop := ∃ v, e = .returned v ∧ N w' v m ∧ Only [bo, bc] w w'

theorem sums_new (W w1 : World) (bc L : Nat) (F : Nat) (caps : Array Value) (h : Nat → Int) (c : Int) (m : Nat)
    (hL : L ≤ 1000000) (hm : Made L W w1) (hc : W.cell? ⟨bc, 0, none⟩ = some (.int .i64 c)) (hf : W.frozen? ⟨bc, 0, none⟩ = false)
    (hb : ∀ j, j < L → -9000000000000000000 ≤ h j + carryAt h c j ∧ h j + carryAt h c j ≤ 9223372036854775807)
    (hT : c + S h L = (m : Int)) (hlt : (m : Int) < bp L)
    (hcall : ∀ (x : Array Value) (W : World), (callFunc F x).run Try.prog W = .ok (.enter F x) W)
    (hhow : ∀ (w' : World) (j : Nat), Only [W.heap.size, bc] w1 w' → j < L → Calls Try.prog F (#[.int .i64 j] ++ caps) w' fun e w'' => e = .returned (.int .i64 (h j)) ∧ ∃ q, w'' = w'.drewN q) :
    Calls Try.prog 34 #[.slice (some ⟨W.heap.size, 0, none⟩) L L, .func (.func F) #[] caps, .func (.func 36) #[.pointer (some ⟨bc, 0, none⟩)] #[]] w1
      (SumN w1 W.heap.size bc m) := by
  have hbc : bc < W.heap.size := World.block_lt_of_cell? W _ hc
  have h0 : 0 ≤ c + S h L := by omega
  have hcc := (hm.ext.cell (p := ⟨bc, 0, none⟩) hbc).trans hc
  have hff := (hm.ext.frozen (p := ⟨bc, 0, none⟩) hbc).trans hf
  refine (sums_any w1 W.heap.size bc 0 L L F caps h c (Nat.le_refl _) (by unfold maxLen; omega) (by rw [hm.size]; omega) (by omega) (fun j hj => ⟨0, by simpa using hm.cell j hj⟩) hm.frozen hcc hff hb hcall hhow).mono ?_
  rintro e w' ⟨k, hk, rfl, ho, hcell, hz, hlast, _⟩
  have hS := carry_end h0 (by omega)
  have hlen : ((List.range k).map (limbAt h c)).length = k := by simp
  have hn : ∀ j, j < k → nth ((List.range k).map (limbAt h c)) j = limbAt h c j := fun j hj => by rw [nth_eq (by simpa using hj)]; simp
  refine ⟨_, rfl, ⟨(List.range k).map (limbAt h c), ⟨_, L, by rw [hlen], by omega, by unfold maxLen; omega, fun _ => ⟨W.heap.size, 0, rfl, by have := ho.size; rw [hm.size] at this; omega, fun j hj => ?_⟩⟩, ⟨fun j hj => ?_, ?_⟩, ?_⟩, ho⟩
  · rw [hlen] at hj; rw [hn j hj]; exact hcell j (by omega)
  · rw [hlen] at hj; rw [hn j hj]; exact limbAt_bounds h c j
  · rw [hlen]
    rcases hlast with e | e
    · left; subst e; rfl
    · by_cases e0 : k = 0
      · left; subst e0; rfl
      · right; rw [hn _ (by omega)]; exact e
  · rw [val_S, hlen, S_congr k hn, ← S_more (m := L) hk hz, hS, hT]

/-- Two boxes that a closure captures, a carry of 0, and a new row. -/
theorem box_sums (w W w1 : World) (x1 x2 : Value) (b1 b2 bc bo L m : Nat) (F : Nat) (caps : Array Value) (h : Nat → Int)
    (e0 : Ext w W) (c1 : W.cell? ⟨b1, 0, none⟩ = some x1) (c2 : W.cell? ⟨b2, 0, none⟩ = some x2) (cc : W.cell? ⟨bc, 0, none⟩ = some (.int .i64 0)) (fc : W.frozen? ⟨bc, 0, none⟩ = false)
    (hbc : w.heap.size ≤ bc) (n1 : b1 ≠ bc) (n2 : b2 ≠ bc) (hbo : W.heap.size = bo)
    (hmade : Made L W w1) (hL4 : L ≤ 1000000)
    (hbd : ∀ j, j < L → -1152921504606846976 ≤ h j ∧ h j ≤ 1152921504606846976) (hT : S h L = (m : Int)) (hlt : (m : Int) < bp L)
    (hcall : ∀ (x : Array Value) (W : World), (callFunc F x).run Try.prog W = .ok (.enter F x) W)
    (hhow : ∀ (w' : World) (j : Nat), Ext w w' → w'.cell? ⟨b1, 0, none⟩ = some x1 → w'.cell? ⟨b2, 0, none⟩ = some x2 → j < L →
      Calls Try.prog F (#[.int .i64 j] ++ caps) w' fun e w'' => e = .returned (.int .i64 (h j)) ∧ ∃ q, w'' = w'.drewN q) :
    Calls Try.prog 34 #[.slice (some ⟨bo, 0, none⟩) L L, .func (.func F) #[] caps, .func (.func 36) #[.pointer (some ⟨bc, 0, none⟩)] #[]] w1 (RetN w m) := by
  subst hbo
  have l1 := World.block_lt_of_cell? W _ c1
  have l2 := World.block_lt_of_cell? W _ c2
  have lc := World.block_lt_of_cell? W _ cc
  simp only at l1 l2 lc
  have e1 : Ext w w1 := e0.trans hmade.ext
  have hs := e0.size
  have hs1 := hmade.ext.size
  have key := sums_new W w1 bc L F caps h 0 m hL4 hmade cc fc
    (fun j hj => by have := hbd j hj; have := carry_bound (n := j) (M := 1152921504606846976) (h := h) (c := 0) (by omega) (by omega) (fun i _ => hbd i (by omega)) j (Nat.le_refl _); omega) (by omega) hlt hcall
    (fun w' j ho hj => by
      have k1 : w'.cell? ⟨b1, 0, none⟩ = some x1 := by
        rw [ho.cell (by show b1 < _; omega) (by simp; omega), hmade.ext.cell (by show b1 < _; omega), c1]
      have k2 : w'.cell? ⟨b2, 0, none⟩ = some x2 := by
        rw [ho.cell (by show b2 < _; omega) (by simp; omega), hmade.ext.cell (by show b2 < _; omega), c2]
      exact hhow w' j (e1.only ho (fun i hi => by simp at hi; omega)) k1 k2 hj)
  refine key.mono ?_
  rintro e w' ⟨v, rfl, hN, ho⟩
  exact ⟨v, rfl, hN, e1.only ho (fun i hi => by simp at hi; omega)⟩

theorem add_sums (w w1 : World) (A A' : Option Addr) (a b : List Int) (c c' L m n : Nat) (ra : Row w (.slice A a.length c) a) (rb : Row w (.slice A' b.length c') b) (na : NF a) (nb : NF b)
    (ea : val a = m) (eb : val b = n) (hL : L = max a.length b.length + 1) (hL4 : L ≤ 1000000)
    (hmade : Made L (three w #[.slice A a.length c] #[.slice A' b.length c'] #[.int .i64 0] 22 22 41) w1) :
    Calls Try.prog 34 #[.slice (some ⟨w.heap.size + 1 + 1 + 1, 0, none⟩) L L, .func (.func 41) #[] #[.pointer (some ⟨w.heap.size, 0, none⟩), .pointer (some ⟨w.heap.size + 1, 0, none⟩)],
      .func (.func 36) #[.pointer (some ⟨w.heap.size + 1 + 1, 0, none⟩)] #[]] w1 (RetN w (m + n)) := by
  refine box_sums w _ w1 _ _ w.heap.size (w.heap.size + 1) (w.heap.size + 1 + 1) _ L (m + n) _ _ (fun j => nth a j + nth b j) (three_ext ..) (three_0 ..) (three_1 ..) (three_2 ..) (three_f2 ..) (by omega) (by omega) (by omega) (three_size ..) hmade hL4 (fun j _ => by have := na.1.at j; have := nb.1.at j; omega) ?_ ?_ callAdd
    (fun w' j he h1 h2 hj => add1_any w' _ _ _ _ a b j (by omega) h1 h2 (ra.ext he) (rb.ext he) (na.1.at j) (nb.1.at j))
  · rw [S_add, val_S_ge (by omega), val_S_ge (by omega), ea, eb]; omega
  · have h1 := (val_bounds na.1).2
    have h2 := (val_bounds nb.1).2
    have h3 := bp_mono (show a.length ≤ max a.length b.length by omega)
    have h4 := bp_mono (show b.length ≤ max a.length b.length by omega)
    rw [hL, bp_succ]
    have := bp_pos (max a.length b.length)
    omega

set_option maxHeartbeats 400000 in
theorem add_any (w : World) (va vb : Value) (m n : Nat) (ha : N w va m) (hb : N w vb n) (hm : Lt 400 m) (hn : Lt 400 n) :
    Calls Try.prog 20 #[va, vb] w (RetN w (m + n)) := by
  obtain ⟨a, ra, na, ea⟩ := ha
  obtain ⟨b, rb, nb, eb⟩ := hb
  have la : a.length ≤ 400 := N.len hm na ea
  have lb : b.length ≤ 400 := N.len hn nb eb
  obtain ⟨A, c, rfl, h1, h2, h3⟩ := id ra
  obtain ⟨A', c', rfl, h1', h2', h3'⟩ := id rb
  clear h3 h3'
  have HA := Lib.hid ea
  have HB := Lib.hid eb
  clear ea eb
  obtain ⟨L, hL⟩ : ∃ L, L = max a.length b.length + 1 := ⟨_, rfl⟩
  have hL4 : L ≤ 401 := by omega
  have HL := Lib.hid hL
  clear hL
  have hmf : ∀ (fn : Fn) (first cap : Array Value) (w : World), (Instr.makeFunc fn first cap).run Try.prog w = .ok (.func fn first cap) w := fun _ _ _ _ => rfl
  by_cases hlt : a.length < b.length
  all_goals
    go_enter Try.func20, Try.ntmps20
    go_wp2_with (at_make; go_loud (refine wpList_mk_ints _ rfl _ rfl L _ rfl (by have := HL.out; omega) (by omega) ?_; intro w1 hmade))
    refine (add_sums w w1 A A' a b c c' L m n ra rb na nb HA.out HB.out HL.out (by omega) hmade).mono ?_
    rintro e w2 ⟨v, rfl, hN, hE⟩
    go_wp2
    go_ret
    exact ⟨v, rfl, hN, hE⟩

end Go.Proofs.Ytafmolljmceadaa
