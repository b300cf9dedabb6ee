/- Walks: Shr, Shl, behind. -/
import Derived.Test.YtjnnodbejnmkmaaDoorW4
namespace Go.Proofs.YtjnnodbejnmkmaaDoor
open Go.RowKit

theorem callShr : ∀ (x : Array Value) (W : World), (callFunc 74 x).run Tryd.prog W = .ok (.enter 74 x) W := fun _ _ => by kernel_rfl
theorem callShl : ∀ (x : Array Value) (W : World), (callFunc 80 x).run Tryd.prog W = .ok (.enter 80 x) W := fun _ _ => by kernel_rfl

set_option maxHeartbeats 1000000 in
theorem shr1_any (w : World) (bl bd : Nat) (v : Value) (l : List Int) (d j : Nat) (hj : j < l.length) (hd : d < 24)
    (cl : w.cell? ⟨bl, 0, none⟩ = some v) (cd : w.cell? ⟨bd, 0, none⟩ = some (.int .i64 d)) (rl : Row w v l) (nl : Limbs l) :
    Calls Tryd.prog 74 #[.int .i64 j, .pointer (some ⟨bl, 0, none⟩), .pointer (some ⟨bd, 0, none⟩)] w fun e w' =>
      e = .returned (.int .i64 (shrAt l d j)) ∧ ∃ q, w' = w.drewN q := by
  have hlen := rl.len_le
  obtain ⟨A, c, rfl, h1, h2, h3⟩ := id rl
  obtain ⟨b, off, rfl, hb, hc⟩ := h3 (by omega)
  have hcell := hc j hj
  obtain ⟨x0, x1⟩ := nl.at j
  obtain ⟨y0, y1⟩ := nl.at (j + 1)
  have hj0 : (0 : Int) ≤ (j : Int) + 1 := by omega
  have B := Lib.hid (shr_bounds nl d j)
  clear h3 hc nl
  go_enter Tryd.func74, Tryd.ntmps74
  go_wp2
  go_quiet ((go_at_call 60; with_reducible exact quiet_left (at_any _ _ _ _ (rl.drewN _) hj0)))
  go_wp2
  go_ret
  exact ⟨ret_int (shr_word B), nq, rfl⟩

theorem shr_sums (w w1 : World) (v : Value) (a : List Int) (m K q d L : Nat) (hq : q = min (K / 24) a.length) (hd : d = K % 24) (na : NF a) (ea : val a = m) (la : a.length ≤ 1000000)
    (hL : L = a.length - q) (rl : Row w v (a.drop q)) (hmade : Made L (three w #[v] #[.int .i64 d] #[.int .i64 0] 22 3 61) w1) :
    Calls Tryd.prog 58 #[.slice (some ⟨w.heap.size + 1 + 1 + 1, 0, none⟩) L L, .func (.func 74) #[] #[.pointer (some ⟨w.heap.size, 0, none⟩), .pointer (some ⟨w.heap.size + 1, 0, none⟩)],
      .func (.func 61) #[.pointer (some ⟨w.heap.size + 1 + 1, 0, none⟩)] #[]] w1 (RetN w (m / 2 ^ K)) := by
  have hlen : (a.drop q).length = L := by simp; omega
  have nl : Limbs (a.drop q) := na.1.drop q
  have hd24 : d < 24 := by omega
  have hv : val (a.drop q) / 2 ^ d = ((m / 2 ^ K : Nat) : Int) := by
    have e1 : val (a.drop q) = val (a.drop (K / 24)) := by
      by_cases h : K / 24 ≤ a.length
      · rw [hq, Nat.min_eq_left h]
      · rw [hq, Nat.min_eq_right (by omega), List.drop_eq_nil_of_le (Nat.le_refl _), List.drop_eq_nil_of_le (by omega)]
    rw [e1, val_drop_div na.1, ea, bp_two]
    have e2 : K = 24 * (K / 24) + d := by omega
    have e3 : m / 2 ^ K = m / 2 ^ (24 * (K / 24)) / 2 ^ d := by
      rw [Nat.div_div_eq_div_mul, ← Nat.pow_add, ← e2]
    rw [e3]
    push_cast
    rfl
  have hS := S_shr d hd24 (a.drop q) nl
  rw [hlen] at hS
  refine box_sums w _ w1 _ _ w.heap.size (w.heap.size + 1) (w.heap.size + 1 + 1) _ L (m / 2 ^ K) _ _ (shrAt (a.drop q) d) (three_ext ..) (three_0 ..) (three_1 ..) (three_2 ..) (three_f2 ..) (by omega) (by omega) (by omega) (three_size ..) hmade (by omega)
    (fun j _ => by have := shr_bounds nl d j; omega) (by rw [hS, hv]) ?_ callShr
    (fun w' j he h1 h2 hj => shr1_any w' _ _ v (a.drop q) d j (by omega) hd24 h1 h2 (rl.ext he) nl)
  have h1 := val_bounds nl
  rw [hlen] at h1
  have h2 : val (a.drop q) / 2 ^ d ≤ val (a.drop q) := Int.ediv_le_self _ h1.1
  omega

set_option maxHeartbeats 1000000 in
theorem shr_nat (w : World) (v : Value) (m K : Nat) (hK : K ≤ 9223372036854775807) (h : N w v m) (hm : Lt 400 m) :
    Calls Tryd.prog 56 #[v, .int .i64 K] w (RetN w (m / 2 ^ K)) := by
  obtain ⟨a, ra, na, ea⟩ := h
  have la : a.length ≤ 400 := N.len hm na ea
  obtain ⟨A, c, rfl, h1, h2, h3⟩ := id ra
  have hmf := mkf
  have HA := Lib.hid ea
  clear ea h3
  go_enter Tryd.func56, Tryd.ntmps56
  go_wp2_with (at_make; refine wpList_mk_ints _ rfl _ rfl _ _ rfl rfl (by omega) ?_; intro w1 hmade)
  all_goals
    refine (shr_sums w w1 _ a m K (min ((K : Int) / 24) (a.length : Int)).toNat (K % 24) _ (by omega) rfl na HA.out (by omega) rfl (ra.cut (by omega)) hmade).mono ?_
    rintro e w2 ⟨v, rfl, hN, hE⟩
    go_wp2
    go_ret
    exact ⟨v, rfl, hN, hE⟩

set_option maxHeartbeats 1000000 in
theorem shr_neg (w : World) (v : Value) (m : Nat) (k : Int) (hk : k < 0) (h : N w v m) (hm : Lt 400 m) :
    Calls Tryd.prog 56 #[v, .int .i64 k] w (RetN w m) := by
  obtain ⟨a, ra, na, ea⟩ := h
  have la : a.length ≤ 400 := N.len hm na ea
  obtain ⟨A, c, rfl, h1, h2, h3⟩ := id ra
  have hmf := mkf
  have hmx : max k 0 = 0 := by omega
  have HA := Lib.hid ea
  clear ea h3
  go_enter Tryd.func56, Tryd.ntmps56
  go_wp2_with (at_make; refine wpList_mk_ints _ rfl _ rfl _ _ rfl rfl (by omega) ?_; intro w1 hmade)
  all_goals
    have key := shr_sums w w1 _ a m 0 (min (0 : Int) (a.length : Int)).toNat 0 _ (by omega) rfl na HA.out (by omega) rfl (ra.cut (by omega)) hmade
    rw [Nat.pow_zero, Nat.div_one] at key
    refine key.mono ?_
    rintro e w2 ⟨v, rfl, hN, hE⟩
    clear key
    go_wp2
    go_ret
    exact ⟨v, rfl, hN, hE⟩

set_option maxHeartbeats 1000000 in
theorem shl1_any (w : World) (ba bk : Nat) (v : Value) (a : List Int) (K j : Nat) (hK : K ≤ 1000000) (hj : j ≤ 1000000)
    (ca : w.cell? ⟨ba, 0, none⟩ = some v) (ck : w.cell? ⟨bk, 0, none⟩ = some (.int .i64 K)) (ra : Row w v a) (na : Limbs a) :
    Calls Tryd.prog 80 #[.int .i64 j, .pointer (some ⟨ba, 0, none⟩), .pointer (some ⟨bk, 0, none⟩)] w fun e w' =>
      e = .returned (.int .i64 (2 ^ (K % 24) * nth a j)) ∧ ∃ q, w' = w.drewN q := by
  have hlen := ra.len_le
  obtain ⟨A, c, rfl, h1, h2, h3⟩ := id ra
  obtain ⟨y0, y1⟩ := na.at j
  have hj0 : (0 : Int) ≤ (j : Int) := by omega
  clear h3 na
  go_enter Tryd.func80, Tryd.ntmps80
  go_wp2
  go_quiet ((go_at_call 60; with_reducible exact quiet_left (at_any _ _ _ _ (ra.drewN _) hj0)))
  go_wp2
  go_ret
  exact ⟨ret_int (shl_word (by omega) y0 y1), nq, rfl⟩

theorem trimmed_nat (w : World) (v : Value) (ys : List Int) (m : Nat) (h : Row w v ys) (hl : Limbs ys) (hv : val ys = (m : Int)) : Calls Tryd.prog 76 #[v] w (RetH w m) := by
  refine (trimmed_any w v ys h).mono ?_
  rintro e w' ⟨A, c, k, rfl, hk, rfl, rfl, hz, hlast⟩
  exact ⟨_, rfl, ⟨ys.take k, h.take k hk, nf_take hl hk hlast, by rw [val_take hk hz, hv]⟩, rfl⟩

theorem shl_sums (w W w1 : World) (v : Value) (a : List Int) (m K q L : Nat) (hq : q = K / 24) (hL : L = a.length + 1) (hK : K ≤ 20000) (la : a.length ≤ 1000) (na : NF a) (ea : val a = m) (ra : Row w v a)
    (hW : Ext w W) (c1 : W.cell? ⟨w.heap.size, 0, none⟩ = some v) (c2 : W.cell? ⟨w.heap.size + 1, 0, none⟩ = some (.int .i64 K)) (hs : W.heap.size = w.heap.size + 1 + 1)
    (hmade : Made (q + L) W w1) :
    Calls Tryd.prog 58 #[.slice (some ⟨w.heap.size + 1 + 1, q, none⟩) L L, .func (.func 80) #[] #[.pointer (some ⟨w.heap.size, 0, none⟩), .pointer (some ⟨w.heap.size + 1, 0, none⟩)],
      .func (.func 61) #[.pointer (some ⟨w1.heap.size, 0, none⟩)] #[]] (w1.alloc (.cells #[.int .i64 0] 61)) (ShlPost w (w.heap.size + 1 + 1) (q + L) (m * 2 ^ K)) := by
  have hd : K % 24 < 24 := Nat.mod_lt _ (by omega)
  have hs1 := hmade.size
  have hbd : ∀ j, 0 ≤ 2 ^ (K % 24) * nth a j ∧ 2 ^ (K % 24) * nth a j ≤ 140737488355328 := fun j => shl_bounds hd (na.1.at j).1 (na.1.at j).2
  have hT : 0 + S (fun j => 2 ^ (K % 24) * nth a j) L = 2 ^ (K % 24) * (m : Int) := by rw [S_mul, val_S_ge (by omega), ea]; omega
  have hp := two_pow_le (K % 24) hd
  have h0 : 0 ≤ 0 + S (fun j => 2 ^ (K % 24) * nth a j) L := by rw [hT]; exact Int.mul_nonneg (by omega) (by omega)
  have h1 : 0 + S (fun j => 2 ^ (K % 24) * nth a j) L < bp L := by
    rw [hT, hL, bp_succ, ← ea]
    have hb := val_bounds na.1
    have k1 : 2 ^ (K % 24) * val a ≤ 8388608 * val a := Int.mul_le_mul_of_nonneg_right hp.2 hb.1
    omega
  have e1 : Ext w (w1.alloc (.cells #[.int .i64 0] 61)) := (hW.trans hmade.ext).alloc _
  have hz : ∀ x, x < w1.heap.size → ∀ i, (w1.alloc (.cells #[.int .i64 0] 61)).cell? ⟨x, i, none⟩ = w1.cell? ⟨x, i, none⟩ := fun x hx i => World.cell?_alloc_lt _ _ _ hx
  have hzf : ∀ x, x < w1.heap.size → ∀ i, (w1.alloc (.cells #[.int .i64 0] 61)).frozen? ⟨x, i, none⟩ = w1.frozen? ⟨x, i, none⟩ := fun x hx i => World.frozen?_alloc_old _ _ _ (by show x ≠ _; omega)
  have hc : ∀ j, j < q + L → w1.cell? ⟨w.heap.size + 1 + 1, j, none⟩ = some (.int .i64 0) := fun j hj => by rw [← hs]; exact hmade.cell j hj
  have hf : ∀ j, w1.frozen? ⟨w.heap.size + 1 + 1, j, none⟩ = false := fun j => by rw [← hs]; exact hmade.frozen j
  refine (sums_any _ (w.heap.size + 1 + 1) w1.heap.size q L L 80 #[.pointer (some ⟨w.heap.size, 0, none⟩), .pointer (some ⟨w.heap.size + 1, 0, none⟩)] (fun j => 2 ^ (K % 24) * nth a j) 0 (Nat.le_refl _) (by unfold maxLen; omega)
    (by simp; omega) (by omega) (fun j hj => ⟨0, by rw [hz _ (by omega)]; exact hc _ (by omega)⟩) (fun j => by rw [hzf _ (by omega)]; exact hf j) (World.cell?_alloc_new ..) (World.frozen?_alloc_new ..)
    (fun j hj => by have := hbd j; have := carry_bound (n := j) (M := 140737488355328) (h := fun j => 2 ^ (K % 24) * nth a j) (c := 0) (by omega) (by omega) (fun i _ => by have := hbd i; omega) j (Nat.le_refl _); omega) callShl
    (fun w' j ho hj => ?_)).mono ?_
  · refine shl1_any w' _ _ v a K j (by omega) (by omega) ?_ ?_ (ra.only e1 ho (fun i hi => by simp at hi; omega)) na.1
    · rw [ho.cell (by simp; omega) (by simp; omega), hz _ (by omega), hmade.ext.cell (by show w.heap.size < _; omega)]; exact c1
    · rw [ho.cell (by simp; omega) (by simp; omega), hz _ (by omega), hmade.ext.cell (by show w.heap.size + 1 < _; omega)]; exact c2
  · rintro e w' ⟨k, hk, rfl, ho, hcell, _, _, hlow⟩
    have hS := carry_end h0 h1
    have hn : ∀ j, j < q + L → nth ((List.range (q + L)).map fun x => if x < q then 0 else limbAt (fun j => 2 ^ (K % 24) * nth a j) 0 (x - q)) j = if j < q then 0 else limbAt (fun j => 2 ^ (K % 24) * nth a j) 0 (j - q) := fun j hj => by
      rw [nth_eq (by simpa using hj)]; simp
    have hlen : ((List.range (q + L)).map fun x => if x < q then 0 else limbAt (fun j => 2 ^ (K % 24) * nth a j) 0 (x - q)).length = q + L := by simp
    refine ⟨_, (List.range (q + L)).map fun x => if x < q then 0 else limbAt (fun j => 2 ^ (K % 24) * nth a j) 0 (x - q), rfl, hlen, ⟨_, q + L, by rw [hlen], by omega, by unfold maxLen; omega, fun _ => ⟨w.heap.size + 1 + 1, 0, rfl, by have := ho.size; simp at this; omega, fun j hj => ?_⟩⟩, fun j hj => ?_, ?_, e1.only ho (fun i hi => by simp at hi; omega)⟩
    · rw [hlen] at hj
      rw [hn j hj, Nat.zero_add]
      by_cases hjq : j < q
      · rw [if_pos hjq, hlow j hjq, hz _ (by omega)]; exact hc j hj
      · rw [if_neg hjq]
        have := hcell (j - q) (by omega)
        rwa [show q + (j - q) = j by omega] at this
    · rw [hlen] at hj
      rw [hn j hj]
      split
      · omega
      · exact limbAt_bounds _ _ _
    · rw [val_S, hlen, S_congr _ hn, S_zeros, hS, hT, bp_two]
      have e2 : K = 24 * q + K % 24 := by omega
      have e3 : m * 2 ^ K = 2 ^ (24 * q) * (2 ^ (K % 24) * m) := by
        rw [← Nat.mul_assoc, ← Nat.pow_add, ← e2, Nat.mul_comm]
      rw [e3]; push_cast; rfl

set_option maxHeartbeats 1000000 in
theorem shl_nat (w : World) (v : Value) (m K : Nat) (hK : K ≤ 20000) (h : N w v m) (hm : Lt 400 m) :
    Calls Tryd.prog 75 #[v, .int .i64 K] w (RetN w (m * 2 ^ K)) := by
  obtain ⟨a, ra, na, ea⟩ := h
  have la : a.length ≤ 400 := N.len hm na ea
  obtain ⟨A, c, rfl, h1, h2, h3⟩ := id ra
  have hmf := mkf
  have HA := Lib.hid ea
  clear ea h3
  by_cases hp : 0 < a.length
  · have hne : ((a.length : Int) == 0) = false := beq_eq_false_iff_ne.2 (by omega)
    go_enter Tryd.func75, Tryd.ntmps75
    go_wp2_with (at_make; refine wpList_mk_ints _ rfl _ rfl (K / 24 + a.length + 1) _ rfl (by omega) (by omega) ?_; intro w1 hmade)
    rw [show K / 24 + a.length + 1 = K / 24 + (a.length + 1) by omega] at hmade
    have eL : K / 24 + a.length + 1 - K / 24 = a.length + 1 := by omega
    have eN : K / 24 + (a.length + 1) = K / 24 + a.length + 1 := by omega
    have key := shl_sums w _ w1 _ a m K (K / 24) (a.length + 1) rfl rfl hK (by omega) na HA.out ra (two_ext ..) (two_cell0 ..) (two_cell1 ..) (two_size ..) hmade
    rw [eN] at key
    rw [eL]
    refine key.mono ?_
    rintro e w2 ⟨v, ys, rfl, hlen, hrow, hlim, hval, hE⟩
    clear key eL eN
    have HT := Lib.hid (trimmed_nat w2 _ ys _ hrow hlim hval)
    have HE := Lib.hid hE
    clear hrow hlim hval hlen hmade hE ra na
    go_wp2_with fail
    refine HT.out.mono ?_
    rintro e w3 ⟨v, rfl, hN, rfl⟩
    go_wp2
    go_ret
    exact ⟨v, rfl, hN, HE.out⟩
  · have e0 : a = [] := List.eq_nil_of_length_eq_zero (by omega)
    subst e0
    have hm0 : m = 0 := by have := HA.out; simp [val] at this; omega
    subst hm0
    clear ra na HA
    go_enter Tryd.func75, Tryd.ntmps75
    go_wp2
    go_ret
    exact ⟨_, rfl, by rw [Nat.zero_mul]; exact N.zero _ _ _ (by simp [maxLen]), two_ext ..⟩

end Go.Proofs.YtjnnodbejnmkmaaDoor
