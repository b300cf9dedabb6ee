/- Walks of nat's sums: Of, Add, Sub, Mul, Shl, Shr. -/
import Derived.Test.YtjnnodbejnmkmaaDoorW1
import Derived.Deep.RegionWith
namespace Go.Proofs.YtjnnodbejnmkmaaDoor
open Go.RowKit

theorem call36 : ∀ (x : Array Value) (W : World), (callFunc 72 x).run Tryd.prog W = .ok (.enter 72 x) W := fun _ _ => by kernel_rfl
theorem callAdd : ∀ (x : Array Value) (W : World), (callFunc 59 x).run Tryd.prog W = .ok (.enter 59 x) W := fun _ _ => by kernel_rfl

set_option maxHeartbeats 400000 in
theorem add1_any (w : World) (ba bb : Nat) (va vb : Value) (a b : List Int) (j : Nat) (hj : j ≤ 9000000000000000000)
    (ca : w.cell? ⟨ba, 0, none⟩ = some va) (cb : w.cell? ⟨bb, 0, none⟩ = some vb) (ra : Row w va a) (rb : Row w vb b)
    (b1 : 0 ≤ nth a j ∧ nth a j < 16777216) (b2 : 0 ≤ nth b j ∧ nth b j < 16777216) :
    Calls Tryd.prog 59 #[.int .i64 j, .pointer (some ⟨ba, 0, none⟩), .pointer (some ⟨bb, 0, none⟩)] w fun e w' =>
      e = .returned (.int .i64 (nth a j + nth b j)) ∧ ∃ q, w' = w.drewN q := by
  obtain ⟨b11, b12⟩ := b1
  obtain ⟨b21, b22⟩ := b2
  obtain ⟨A, c, rfl, h1, h2, h3⟩ := id ra
  obtain ⟨A', c', rfl, h1', h2', h3'⟩ := id rb
  clear h3 h3'
  go_enter Tryd.func59, Tryd.ntmps59
  go_wp2
  have hj0 : (0 : Int) ≤ (j : Int) := by omega
  go_quiet ((go_at_call 60; first | with_reducible exact quiet_left (at_any _ _ _ _ (ra.drewN _) hj0) | with_reducible exact quiet_left (at_any _ _ _ _ (rb.drewN _) hj0)))
  go_wp2
  go_ret
  exact ⟨rfl, _, rfl⟩

theorem sums_new (W w1 : World) (bc L : Nat) (F : Nat) (caps : Array Value) (h : Nat → Int) (c : Int) (m : Nat)
    (hL : L ≤ 1000000) (hm : Made L W w1) (hc : W.cell? ⟨bc, 0, none⟩ = some (.int .i64 c)) (hf : W.frozen? ⟨bc, 0, none⟩ = false)
    (hb : ∀ j, j < L → -9000000000000000000 ≤ h j + carryAt h c j ∧ h j + carryAt h c j ≤ 9223372036854775807)
    (hT : c + S h L = (m : Int)) (hlt : (m : Int) < bp L)
    (hcall : ∀ (x : Array Value) (W : World), (callFunc F x).run Tryd.prog W = .ok (.enter F x) W)
    (hhow : ∀ (w' : World) (j : Nat), Only [W.heap.size, bc] w1 w' → j < L → Calls Tryd.prog F (#[.int .i64 j] ++ caps) w' fun e w'' => e = .returned (.int .i64 (h j)) ∧ ∃ q, w'' = w'.drewN q) :
    Calls Tryd.prog 58 #[.slice (some ⟨W.heap.size, 0, none⟩) L L, .func (.func F) #[] caps, .func (.func 61) #[.pointer (some ⟨bc, 0, none⟩)] #[]] w1
      (SumN w1 W.heap.size bc m) := by
  have hbc : bc < W.heap.size := World.block_lt_of_cell? W _ hc
  have h0 : 0 ≤ c + S h L := by omega
  have hcc := (hm.ext.cell (p := ⟨bc, 0, none⟩) hbc).trans hc
  have hff := (hm.ext.frozen (p := ⟨bc, 0, none⟩) hbc).trans hf
  refine (sums_any w1 W.heap.size bc 0 L L F caps h c (Nat.le_refl _) (by unfold maxLen; omega) (by rw [hm.size]; omega) (by omega) (fun j hj => ⟨0, by simpa using hm.cell j hj⟩) hm.frozen hcc hff hb hcall hhow).mono ?_
  rintro e w' ⟨k, hk, rfl, ho, hcell, hz, hlast, _⟩
  have hS := carry_end h0 (by omega)
  have hlen : ((List.range k).map (limbAt h c)).length = k := by simp
  have hn : ∀ j, j < k → nth ((List.range k).map (limbAt h c)) j = limbAt h c j := fun j hj => by rw [nth_eq (by simpa using hj)]; simp
  refine ⟨_, rfl, ⟨(List.range k).map (limbAt h c), ⟨_, L, by rw [hlen], by omega, by unfold maxLen; omega, fun _ => ⟨W.heap.size, 0, rfl, by have := ho.size; rw [hm.size] at this; omega, fun j hj => ?_⟩⟩, ⟨fun j hj => ?_, ?_⟩, ?_⟩, ho⟩
  · rw [hlen] at hj; rw [hn j hj]; exact hcell j (by omega)
  · rw [hlen] at hj; rw [hn j hj]; exact limbAt_bounds h c j
  · rw [hlen]
    rcases hlast with e | e
    · left; subst e; rfl
    · by_cases e0 : k = 0
      · left; subst e0; rfl
      · right; rw [hn _ (by omega)]; exact e
  · rw [val_S, hlen, S_congr k hn, ← S_more (m := L) hk hz, hS, hT]

/-- Two boxes that a closure captures, a carry of 0, and a new row. -/
theorem box_sums (w W w1 : World) (x1 x2 : Value) (b1 b2 bc bo L m : Nat) (F : Nat) (caps : Array Value) (h : Nat → Int)
    (e0 : Ext w W) (c1 : W.cell? ⟨b1, 0, none⟩ = some x1) (c2 : W.cell? ⟨b2, 0, none⟩ = some x2) (cc : W.cell? ⟨bc, 0, none⟩ = some (.int .i64 0)) (fc : W.frozen? ⟨bc, 0, none⟩ = false)
    (hbc : w.heap.size ≤ bc) (n1 : b1 ≠ bc) (n2 : b2 ≠ bc) (hbo : W.heap.size = bo)
    (hmade : Made L W w1) (hL4 : L ≤ 1000000)
    (hbd : ∀ j, j < L → -1152921504606846976 ≤ h j ∧ h j ≤ 1152921504606846976) (hT : S h L = (m : Int)) (hlt : (m : Int) < bp L)
    (hcall : ∀ (x : Array Value) (W : World), (callFunc F x).run Tryd.prog W = .ok (.enter F x) W)
    (hhow : ∀ (w' : World) (j : Nat), Ext w w' → w'.cell? ⟨b1, 0, none⟩ = some x1 → w'.cell? ⟨b2, 0, none⟩ = some x2 → j < L →
      Calls Tryd.prog F (#[.int .i64 j] ++ caps) w' fun e w'' => e = .returned (.int .i64 (h j)) ∧ ∃ q, w'' = w'.drewN q) :
    Calls Tryd.prog 58 #[.slice (some ⟨bo, 0, none⟩) L L, .func (.func F) #[] caps, .func (.func 61) #[.pointer (some ⟨bc, 0, none⟩)] #[]] w1 (RetN w m) := by
  subst hbo
  have l1 := World.block_lt_of_cell? W _ c1
  have l2 := World.block_lt_of_cell? W _ c2
  have lc := World.block_lt_of_cell? W _ cc
  simp only at l1 l2 lc
  have e1 : Ext w w1 := e0.trans hmade.ext
  have hs := e0.size
  have hs1 := hmade.ext.size
  have key := sums_new W w1 bc L F caps h 0 m hL4 hmade cc fc
    (fun j hj => by have := hbd j hj; have := carry_bound (n := j) (M := 1152921504606846976) (h := h) (c := 0) (by omega) (by omega) (fun i _ => hbd i (by omega)) j (Nat.le_refl _); omega) (by omega) hlt hcall
    (fun w' j ho hj => by
      have k1 : w'.cell? ⟨b1, 0, none⟩ = some x1 := by
        rw [ho.cell (by show b1 < _; omega) (by simp; omega), hmade.ext.cell (by show b1 < _; omega), c1]
      have k2 : w'.cell? ⟨b2, 0, none⟩ = some x2 := by
        rw [ho.cell (by show b2 < _; omega) (by simp; omega), hmade.ext.cell (by show b2 < _; omega), c2]
      exact hhow w' j (e1.only ho (fun i hi => by simp at hi; omega)) k1 k2 hj)
  refine key.mono ?_
  rintro e w' ⟨v, rfl, hN, ho⟩
  exact ⟨v, rfl, hN, e1.only ho (fun i hi => by simp at hi; omega)⟩

theorem add_sums (w w1 : World) (A A' : Option Addr) (a b : List Int) (c c' L m n : Nat) (ra : Row w (.slice A a.length c) a) (rb : Row w (.slice A' b.length c') b) (na : NF a) (nb : NF b)
    (ea : val a = m) (eb : val b = n) (hL : L = max a.length b.length + 1) (hL4 : L ≤ 1000000)
    (hmade : Made L (three w #[.slice A a.length c] #[.slice A' b.length c'] #[.int .i64 0] 22 22 61) w1) :
    Calls Tryd.prog 58 #[.slice (some ⟨w.heap.size + 1 + 1 + 1, 0, none⟩) L L, .func (.func 59) #[] #[.pointer (some ⟨w.heap.size, 0, none⟩), .pointer (some ⟨w.heap.size + 1, 0, none⟩)],
      .func (.func 61) #[.pointer (some ⟨w.heap.size + 1 + 1, 0, none⟩)] #[]] w1 (RetN w (m + n)) := by
  refine box_sums w _ w1 _ _ w.heap.size (w.heap.size + 1) (w.heap.size + 1 + 1) _ L (m + n) _ _ (fun j => nth a j + nth b j) (three_ext ..) (three_0 ..) (three_1 ..) (three_2 ..) (three_f2 ..) (by omega) (by omega) (by omega) (three_size ..) hmade hL4 (fun j _ => by have := na.1.at j; have := nb.1.at j; omega) ?_ ?_ callAdd
    (fun w' j he h1 h2 hj => add1_any w' _ _ _ _ a b j (by omega) h1 h2 (ra.ext he) (rb.ext he) (na.1.at j) (nb.1.at j))
  · rw [S_add, val_S_ge (by omega), val_S_ge (by omega), ea, eb]; omega
  · have h1 := (val_bounds na.1).2
    have h2 := (val_bounds nb.1).2
    have h3 := bp_mono (show a.length ≤ max a.length b.length by omega)
    have h4 := bp_mono (show b.length ≤ max a.length b.length by omega)
    rw [hL, bp_succ]
    have := bp_pos (max a.length b.length)
    omega

set_option maxHeartbeats 400000 in
theorem add_any (w : World) (va vb : Value) (m n : Nat) (ha : N w va m) (hb : N w vb n) (hm : Lt 400 m) (hn : Lt 400 n) :
    Calls Tryd.prog 41 #[va, vb] w (RetN w (m + n)) := by
  obtain ⟨a, ra, na, ea⟩ := ha
  obtain ⟨b, rb, nb, eb⟩ := hb
  have la : a.length ≤ 400 := N.len hm na ea
  have lb : b.length ≤ 400 := N.len hn nb eb
  obtain ⟨A, c, rfl, h1, h2, h3⟩ := id ra
  obtain ⟨A', c', rfl, h1', h2', h3'⟩ := id rb
  clear h3 h3'
  have HA := Lib.hid ea
  have HB := Lib.hid eb
  clear ea eb
  obtain ⟨L, hL⟩ : ∃ L, L = max a.length b.length + 1 := ⟨_, rfl⟩
  have hL4 : L ≤ 401 := by omega
  have HL := Lib.hid hL
  clear hL
  have hmf : ∀ (fn : Fn) (first cap : Array Value) (w : World), (Instr.makeFunc fn first cap).run Tryd.prog w = .ok (.func fn first cap) w := fun _ _ _ _ => rfl
  by_cases hlt : a.length < b.length
  all_goals
    go_enter Tryd.func41, Tryd.ntmps41
    go_wp2_with (at_make; go_loud (refine wpList_mk_ints _ rfl _ rfl L _ rfl (by have := HL.out; omega) (by omega) ?_; intro w1 hmade))
    refine (add_sums w w1 A A' a b c c' L m n ra rb na nb HA.out HB.out HL.out (by omega) hmade).mono ?_
    rintro e w2 ⟨v, rfl, hN, hE⟩
    go_wp2
    go_ret
    exact ⟨v, rfl, hN, hE⟩

end Go.Proofs.YtjnnodbejnmkmaaDoor
