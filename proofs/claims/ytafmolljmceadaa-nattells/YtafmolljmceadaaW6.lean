/- Walks: Shl below 0, behind. -/
import Derived.Test.YtafmolljmceadaaW5
import Derived.Laws.CopyOwn
namespace Go.Proofs.Ytafmolljmceadaa
open Go.RowKit

set_option maxHeartbeats 1000000 in
theorem shl_neg (w : World) (v : Value) (m : Nat) (k : Int) (hk : k < 0) (h : N w v m) (hm : Lt 400 m) :
    Calls Try.prog 28 #[v, .int .i64 k] w (RetN w m) := by
  obtain ⟨a, ra, na, ea⟩ := h
  have la : a.length ≤ 400 := N.len hm na ea
  obtain ⟨A, c, rfl, h1, h2, h3⟩ := id ra
  have hmf := mkf
  have hmx : max k 0 = 0 := by omega
  have HA := Lib.hid ea
  clear ea h3
  by_cases hp : 0 < a.length
  · have hne : ((a.length : Int) == 0) = false := beq_eq_false_iff_ne.2 (by omega)
    go_enter Try.func28, Try.ntmps28
    go_wp2_with (at_make; refine wpList_mk_ints _ rfl _ rfl (a.length + 1) _ rfl (by omega) (by omega) ?_; intro w1 hmade)
    have key := shl_sums w _ w1 _ a m 0 0 (a.length + 1) rfl rfl (by omega) (by omega) na HA.out ra (two_ext ..) (two_cell0 ..) (two_cell1 ..) (two_size ..) (by rw [Nat.zero_add]; exact hmade)
    rw [Nat.zero_add, Nat.pow_zero, Nat.mul_one] at key
    refine key.mono ?_
    rintro e w2 ⟨v, ys, rfl, hlen, hrow, hlim, hval, hE⟩
    clear key
    have HT := Lib.hid (trimmed_nat w2 _ ys _ hrow hlim hval)
    have HE := Lib.hid hE
    clear hrow hlim hval hlen hmade hE ra na
    go_wp2_with fail
    refine HT.out.mono ?_
    rintro e w3 ⟨v, rfl, hN, rfl⟩
    go_wp2
    go_ret
    exact ⟨v, rfl, hN, HE.out⟩
  · have e0 : a = [] := List.eq_nil_of_length_eq_zero (by omega)
    subst e0
    have hm0 : m = 0 := by have := HA.out; simp [val] at this; omega
    subst hm0
    clear ra na HA
    go_enter Try.func28, Try.ntmps28
    go_wp2
    go_ret
    exact ⟨_, rfl, N.zero _ _ _ (by simp [maxLen]), two_ext ..⟩

theorem size_int : (Try.prog.info? 3).map (·.size) = some 1 := by kernel_rfl
/-- 'copy(dst, src)', dst in a row that is known whole. -/
theorem copy_ints (w : World) (ty : TypeId) (dp : Option Addr) (dLen dCap : Nat) (vs : Value) (xs : List Int) (rs : Row w vs xs)
    (g off : Nat) (hdp : 0 < xs.length → dp = some ⟨g, off, none⟩) (cur : List Value) (t : TypeId) (hg : w.heap[g]? = some (.cells cur.toArray t (0, 0))) (hlen : xs.length ≤ dLen) (hfit : off + xs.length ≤ cur.length) :
    ∃ w', (Builtin.copy_ #[22, 22] ty #[.slice dp dLen dCap, vs]).run Try.prog w = .ok (.int .i64 xs.length) w' ∧
      w'.heap[g]? = some (.cells (splice cur off (xs.map (Value.int .i64))).toArray t (0, 0)) ∧ Only [g] w w' := by
  obtain ⟨A, c, rfl, h1, h2, h3⟩ := rs
  by_cases h0 : xs.length = 0
  · obtain rfl : xs = [] := List.eq_nil_of_length_eq_zero h0
    exact ⟨w, run_copy_none w _ _ ty 3 dp A dLen dCap _ c Try.underlying22 size_int (by simp), by simpa [splice] using hg, Only.refl _ _⟩
  · obtain ⟨b, o2, rfl, hb, hc⟩ := h3 (by omega)
    rw [hdp (by omega)]
    have hl : (xs.map (Value.int .i64)).length = xs.length := by simp
    have hmin : Nat.min xs.length dLen = xs.length := Nat.min_eq_left hlen
    have hrun := run_copy_row (P := Try.prog) w 22 22 ty 3 g off dLen dCap ⟨b, o2, none⟩ xs.length c cur.toArray t (xs.map (Value.int .i64)) Try.underlying22 size_int hg (by rw [hl, hmin]) (fun j v hv => by
      have hj : j < xs.length := by
        rcases Nat.lt_or_ge j xs.length with h | h
        · exact h
        · rw [List.getElem?_eq_none (by simpa using h)] at hv; cases hv
      rw [Addr.add_lit, hc j hj, nth_eq hj]
      rw [List.getElem?_map, List.getElem?_eq_getElem hj] at hv
      simpa using hv) (by rw [hl]; simpa using hfit) (fun v hv => by
      obtain ⟨z, _, rfl⟩ := List.mem_map.1 hv
      rfl)
    rw [hl] at hrun
    exact ⟨_, hrun, by simpa [splice] using setRow_heap w g _ _ t _ hg, ⟨rfl, rfl, rfl, by simp [World.setRow], fun k _ hn => setRow_other w g k _ (fun e => hn (by simp [e]))⟩⟩

theorem blk_set {w : World} {g : Nat} {t : TypeId} {cs : Array Value} (h : w.heap[g]? = some (.cells cs t (0, 0))) (i : Nat) (u : Value) : (w.setCell ⟨g, i, none⟩ u).heap[g]? = some (.cells (cs.setIfInBounds i u) t (0, 0)) := by
  simp [World.setCell, Array.getElem?_modify, h]
theorem blk_cell {w : World} {g : Nat} {t : TypeId} {cs : Array Value} (h : w.heap[g]? = some (.cells cs t (0, 0))) (i : Nat) : w.cell? ⟨g, i, none⟩ = cs[i]? := cell_of_row w g i cs t (0, 0) h

/-- What 'behind' has filled in. -/
theorem behind_row {w' : World} {g n : Nat} {t : TypeId} {x : Int} {a : List Int} (hn : n = a.length) (hl : a.length ≤ 1000) (hg : g < w'.heap.size)
    (h : w'.heap[g]? = some (.cells (splice (Value.int .i64 x :: List.replicate n (Value.int .i64 0)) 1 (a.map (Value.int .i64))).toArray t (0, 0))) :
    Row w' (.slice (some ⟨g, 0, none⟩) (n + 1) (n + 1)) (x :: a) := by
  subst hn
  have e : splice (Value.int .i64 x :: List.replicate a.length (Value.int .i64 0)) 1 (a.map (Value.int .i64)) = (x :: a).map (Value.int .i64) := by
    have e2 : ((Value.int .i64 x :: List.replicate a.length (Value.int .i64 0)) : List Value).drop (1 + a.length) = [] := List.drop_eq_nil_of_le (by simp; omega)
    simp only [splice, List.length_map, e2]
    simp
  rw [e] at h
  refine ⟨_, a.length + 1, rfl, by simp, by unfold maxLen; omega, fun _ => ⟨g, 0, rfl, hg, fun j hj => ?_⟩⟩
  rw [Nat.zero_add, blk_cell h, nth_eq hj, List.getElem?_toArray, List.getElem?_map, List.getElem?_eq_getElem hj]
  rfl

theorem behind_val {a : List Int} {m : Nat} {x : Int} (na : NF a) (ea : val a = (m : Int)) (x0 : 0 ≤ x) (x1 : x < 16777216) : Limbs (x :: a) ∧ val (x :: a) = ((m * 16777216 + x.toNat : Nat) : Int) := by
  refine ⟨fun j hj => ?_, by rw [val, ea]; omega⟩
  cases j with
  | zero => exact ⟨x0, x1⟩
  | succ j => rw [nth_cons_succ]; exact na.1.at j

set_option maxHeartbeats 1000000 in
theorem behind_any (w : World) (v : Value) (m : Nat) (x : Int) (h : N w v m) (hm : Lt 400 m) (x0 : 0 ≤ x) (x1 : x < 16777216) :
    Calls Try.prog 53 #[v, .int .i64 x] w (RetN w (m * 16777216 + x.toNat)) := by
  obtain ⟨a, ra, na, ea⟩ := h
  have la : a.length ≤ 400 := N.len hm na ea
  have hv := behind_val na ea x0 x1
  obtain ⟨A, c, rfl, h1, h2, h3⟩ := id ra
  have HV := Lib.hid hv
  clear ea h3 hv na
  by_cases h0 : a = []
  · subst h0
    go_enter Try.func53, Try.ntmps53
    go_wp2_with (at_make; refine wpList_mk_ints _ rfl _ rfl 1 _ rfl (by simp) (by omega) ?_; intro w1 hmade; have hcell := hmade.cell 0 (by omega); have hfr := hmade.frozen 0)
    obtain ⟨w2, hrun, hg2, ho2⟩ := copy_ints (w1.setCell ⟨w.heap.size, 0, none⟩ (.int .i64 x)) 3 (some ⟨w.heap.size, 0, none⟩) 0 0 _ [] (ra.ext (hmade.ext.setCell (Nat.le_refl _) _)) w.heap.size 1 (fun h => absurd h (by simp)) (Value.int .i64 x :: List.replicate 0 (Value.int .i64 0)) 3 (by simpa [List.replicate_succ] using blk_set hmade.blk 0 (Value.int .i64 x)) (by simp) (by simp)
    simp only [List.length_nil] at hrun
    rw [hrun]
    have e2 : Ext w w2 := (hmade.ext.setCell (Nat.le_refl _) _).only ho2 (fun i hi => by simp at hi; omega)
    have HT := Lib.hid (trimmed_nat w2 _ [x] _ (behind_row (n := 0) rfl (by simp) (by have := hmade.size; have := ho2.size; simp at this; omega) hg2) HV.out.1 HV.out.2)
    clear hrun hg2 ho2 hmade
    go_wp2_with fail
    refine HT.out.mono ?_
    rintro e w3 ⟨v, rfl, hN, rfl⟩
    go_wp2
    go_ret
    exact ⟨v, rfl, hN, e2⟩
  · have hp : 0 < a.length := by
      rcases Nat.eq_zero_or_pos a.length with h | h
      · exact absurd (List.eq_nil_of_length_eq_zero h) h0
      · exact h
    go_enter Try.func53, Try.ntmps53
    go_wp2_with (at_make; refine wpList_mk_ints _ rfl _ rfl (a.length + 1) _ rfl (by omega) (by omega) ?_; intro w1 hmade; have hcell := hmade.cell 0 (by omega); have hfr := hmade.frozen 0)
    obtain ⟨w2, hrun, hg2, ho2⟩ := copy_ints (w1.setCell ⟨w.heap.size, 0, none⟩ (.int .i64 x)) 3 (some ⟨w.heap.size, 1, none⟩) a.length a.length _ a (ra.ext (hmade.ext.setCell (Nat.le_refl _) _)) w.heap.size 1 (fun _ => rfl) (Value.int .i64 x :: List.replicate a.length (Value.int .i64 0)) 3 (by simpa [List.replicate_succ] using blk_set hmade.blk 0 (Value.int .i64 x)) (by omega) (by simp; omega)
    rw [hrun]
    have e2 : Ext w w2 := (hmade.ext.setCell (Nat.le_refl _) _).only ho2 (fun i hi => by simp at hi; omega)
    have HT := Lib.hid (trimmed_nat w2 _ (x :: a) _ (behind_row rfl (by omega) (by have := hmade.size; have := ho2.size; simp at this; omega) hg2) HV.out.1 HV.out.2)
    clear hrun hg2 ho2 hmade
    go_wp2_with fail
    refine HT.out.mono ?_
    rintro e w3 ⟨v, rfl, hN, rfl⟩
    go_wp2
    go_ret
    exact ⟨v, rfl, hN, e2⟩

end Go.Proofs.Ytafmolljmceadaa
