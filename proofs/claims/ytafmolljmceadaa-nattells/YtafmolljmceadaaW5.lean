/- Walks: Shr, Shl, behind. -/
import Derived.Test.YtafmolljmceadaaW4
namespace Go.Proofs.Ytafmolljmceadaa
open Go.RowKit

theorem callShr : ∀ (x : Array Value) (W : World), (callFunc 47 x).run Try.prog W = .ok (.enter 47 x) W := fun _ _ => by kernel_rfl
theorem callShl : ∀ (x : Array Value) (W : World), (callFunc 45 x).run Try.prog W = .ok (.enter 45 x) W := fun _ _ => by kernel_rfl

theorem val_split {a : List Int} : ∀ q : Nat, val a = S (nth a) q + bp q * val (a.drop q)
  | 0 => by simp [S, bp]
  | q + 1 => by
    have ih := val_split (a := a) q
    by_cases hq : q < a.length
    · rw [val_drop hq, Int.mul_add] at ih
      rw [S_succ, bp_succ, Int.mul_comm (nth a q)]
      have : 16777216 * bp q * val (a.drop (q + 1)) = bp q * (16777216 * val (a.drop (q + 1))) := by
        rw [Int.mul_comm 16777216 (bp q), Int.mul_assoc]
      omega
    · rw [List.drop_eq_nil_of_le (by omega)] at ih ⊢
      rw [S_succ, nth_past (by omega)]
      simp [val] at ih ⊢; omega
theorem val_drop_div {a : List Int} (h : Limbs a) (q : Nat) : val (a.drop q) = val a / bp q := by
  have e := val_split (a := a) q
  have hb := S_bounds (n := q) (fun j _ => h.at j)
  have hp := bp_pos q
  rw [e, Int.add_mul_ediv_left _ _ (by omega), Int.ediv_eq_zero_of_lt hb.1 hb.2]; simp

/-- The limbs of a number over 2^d. -/
def shrAt (l : List Int) (d : Nat) (p : Nat) : Int := nth l p / 2 ^ d + nth l (p + 1) * 2 ^ (24 - d) % 16777216
theorem shr_step (x1 v : Int) (d : Nat) (hd : d < 24) :
    (x1 + 16777216 * v) * 2 ^ (24 - d) = x1 * 2 ^ (24 - d) % 16777216 + 16777216 * ((x1 + 16777216 * v) / 2 ^ d) := by
  obtain rfl | rfl | rfl | rfl | rfl | rfl | rfl | rfl | rfl | rfl | rfl | rfl | rfl | rfl | rfl | rfl | rfl | rfl | rfl | rfl | rfl | rfl | rfl | rfl :
    d = 0 ∨ d = 1 ∨ d = 2 ∨ d = 3 ∨ d = 4 ∨ d = 5 ∨ d = 6 ∨ d = 7 ∨ d = 8 ∨ d = 9 ∨ d = 10 ∨ d = 11 ∨ d = 12 ∨ d = 13 ∨ d = 14 ∨ d = 15 ∨ d = 16 ∨ d = 17 ∨ d = 18 ∨ d = 19 ∨ d = 20 ∨ d = 21 ∨ d = 22 ∨ d = 23 := by omega
  all_goals (simp only [Nat.reduceSub, Int.reducePow]; omega)
theorem div_step (x v : Int) (d : Nat) (hd : d < 24) : (x + 16777216 * v) / 2 ^ d = x / 2 ^ d + v * 2 ^ (24 - d) := by
  obtain rfl | rfl | rfl | rfl | rfl | rfl | rfl | rfl | rfl | rfl | rfl | rfl | rfl | rfl | rfl | rfl | rfl | rfl | rfl | rfl | rfl | rfl | rfl | rfl :
    d = 0 ∨ d = 1 ∨ d = 2 ∨ d = 3 ∨ d = 4 ∨ d = 5 ∨ d = 6 ∨ d = 7 ∨ d = 8 ∨ d = 9 ∨ d = 10 ∨ d = 11 ∨ d = 12 ∨ d = 13 ∨ d = 14 ∨ d = 15 ∨ d = 16 ∨ d = 17 ∨ d = 18 ∨ d = 19 ∨ d = 20 ∨ d = 21 ∨ d = 22 ∨ d = 23 := by omega
  all_goals (simp only [Nat.reduceSub, Int.reducePow]; omega)
theorem S_shr (d : Nat) (hd : d < 24) : ∀ l : List Int, Limbs l → S (shrAt l d) l.length = val l / 2 ^ d
  | [], _ => by simp [S, val]
  | x :: l, h => by
    have ih := S_shr d hd l h.tail
    rw [List.length_cons, S_shift]
    have e : S (fun j => shrAt (x :: l) d (j + 1)) l.length = S (shrAt l d) l.length := S_congr _ (fun j _ => rfl)
    rw [e, ih, val, div_step _ _ _ hd]
    have e2 : shrAt (x :: l) d 0 = x / 2 ^ d + nth l 0 * 2 ^ (24 - d) % 16777216 := rfl
    rw [e2]
    cases l with
    | nil => simp [val, nth_past]
    | cons y ys =>
      have := shr_step y (val ys) d hd
      rw [nth_cons_zero, val]; omega
theorem shr_bounds {l : List Int} (h : Limbs l) (d p : Nat) : 0 ≤ shrAt l d p ∧ shrAt l d p ≤ 33554432 := by
  unfold shrAt
  have h1 := h.at p
  have hp : (1 : Int) ≤ 2 ^ d := by
    have : 0 < (2 : Int) ^ d := Int.pow_pos (by omega)
    omega
  have h2 : 0 ≤ nth l p / 2 ^ d := Int.ediv_nonneg h1.1 (by omega)
  have h3 : nth l p / 2 ^ d ≤ nth l p := Int.ediv_le_self _ h1.1
  omega

theorem shr_word {l : List Int} {d j : Nat} (B : Hid (0 ≤ shrAt l d j ∧ shrAt l d j ≤ 33554432)) :
    wrap64 (nth l j / 2 ^ d + bits BinOp.and IntKind.i64 (wrap64 (nth l (j + 1) * 2 ^ (24 - d))) 16777215) = shrAt l d j := by
  have B := B.out
  rw [i64_and24]
  have e : wrap64 (nth l (j + 1) * 2 ^ (24 - d)) % 16777216 = nth l (j + 1) * 2 ^ (24 - d) % 16777216 := by unfold wrap64; omega
  rw [e]
  unfold shrAt at B ⊢
  unfold wrap64
  omega

set_option maxHeartbeats 1000000 in
theorem shr1_any (w : World) (bl bd : Nat) (v : Value) (l : List Int) (d j : Nat) (hj : j < l.length) (hd : d < 24)
    (cl : w.cell? ⟨bl, 0, none⟩ = some v) (cd : w.cell? ⟨bd, 0, none⟩ = some (.int .i64 d)) (rl : Row w v l) (nl : Limbs l) :
    Calls Try.prog 47 #[.int .i64 j, .pointer (some ⟨bl, 0, none⟩), .pointer (some ⟨bd, 0, none⟩)] w fun e w' =>
      e = .returned (.int .i64 (shrAt l d j)) ∧ ∃ q, w' = w.drewN q := by
  have hlen := rl.len_le
  obtain ⟨A, c, rfl, h1, h2, h3⟩ := id rl
  obtain ⟨b, off, rfl, hb, hc⟩ := h3 (by omega)
  have hcell := hc j hj
  obtain ⟨x0, x1⟩ := nl.at j
  obtain ⟨y0, y1⟩ := nl.at (j + 1)
  have hj0 : (0 : Int) ≤ (j : Int) + 1 := by omega
  have B := Lib.hid (shr_bounds nl d j)
  clear h3 hc nl
  go_enter Try.func47, Try.ntmps47
  go_wp2
  go_quiet ((go_at_call 38; with_reducible exact quiet_left (at_any _ _ _ _ (rl.drewN _) hj0)))
  go_wp2
  go_ret
  exact ⟨ret_int (shr_word B), nq, rfl⟩

theorem Row.cut {w : World} {A : Option Addr} {c q : Nat} {xs : List Int} (h : Row w (.slice A xs.length c) xs) (hq : q ≤ xs.length) :
    Row w (.slice (if c = q then A else A.map (·.add q)) (xs.length - q) (c - q)) (xs.drop q) := by
  obtain ⟨A', c', e, h1, h2, h3⟩ := h
  injection e with e1 e2 e3
  subst e1 e3
  have hlen : (xs.drop q).length = xs.length - q := by simp
  refine ⟨_, c - q, by rw [hlen], by omega, by omega, fun hp => ?_⟩
  obtain ⟨b, off, rfl, hb, hc⟩ := h3 (by omega)
  rw [if_neg (by omega)]
  refine ⟨b, off + q, by simp [Addr.add_lit], hb, fun j hj => ?_⟩
  have hj' : q + j < xs.length := by omega
  rw [Nat.add_assoc, hc (q + j) hj']
  rw [nth_eq hj', nth_eq hj]
  simp

theorem shr_sums (w w1 : World) (v : Value) (a : List Int) (m K q d L : Nat) (hq : q = min (K / 24) a.length) (hd : d = K % 24) (na : NF a) (ea : val a = m) (la : a.length ≤ 1000000)
    (hL : L = a.length - q) (rl : Row w v (a.drop q)) (hmade : Made L (three w #[v] #[.int .i64 d] #[.int .i64 0] 22 3 41) w1) :
    Calls Try.prog 34 #[.slice (some ⟨w.heap.size + 1 + 1 + 1, 0, none⟩) L L, .func (.func 47) #[] #[.pointer (some ⟨w.heap.size, 0, none⟩), .pointer (some ⟨w.heap.size + 1, 0, none⟩)],
      .func (.func 36) #[.pointer (some ⟨w.heap.size + 1 + 1, 0, none⟩)] #[]] w1 (RetN w (m / 2 ^ K)) := by
  have hlen : (a.drop q).length = L := by simp; omega
  have nl : Limbs (a.drop q) := na.1.drop q
  have hd24 : d < 24 := by omega
  have hv : val (a.drop q) / 2 ^ d = ((m / 2 ^ K : Nat) : Int) := by
    have e1 : val (a.drop q) = val (a.drop (K / 24)) := by
      by_cases h : K / 24 ≤ a.length
      · rw [hq, Nat.min_eq_left h]
      · rw [hq, Nat.min_eq_right (by omega), List.drop_eq_nil_of_le (Nat.le_refl _), List.drop_eq_nil_of_le (by omega)]
    rw [e1, val_drop_div na.1, ea, bp_two]
    have e2 : K = 24 * (K / 24) + d := by omega
    have e3 : m / 2 ^ K = m / 2 ^ (24 * (K / 24)) / 2 ^ d := by
      rw [Nat.div_div_eq_div_mul, ← Nat.pow_add, ← e2]
    rw [e3]
    push_cast
    rfl
  have hS := S_shr d hd24 (a.drop q) nl
  rw [hlen] at hS
  refine box_sums w _ w1 _ _ w.heap.size (w.heap.size + 1) (w.heap.size + 1 + 1) _ L (m / 2 ^ K) _ _ (shrAt (a.drop q) d) (three_ext ..) (three_0 ..) (three_1 ..) (three_2 ..) (three_f2 ..) (by omega) (by omega) (by omega) (three_size ..) hmade (by omega)
    (fun j _ => by have := shr_bounds nl d j; omega) (by rw [hS, hv]) ?_ callShr
    (fun w' j he h1 h2 hj => shr1_any w' _ _ v (a.drop q) d j (by omega) hd24 h1 h2 (rl.ext he) nl)
  have h1 := val_bounds nl
  rw [hlen] at h1
  have h2 : val (a.drop q) / 2 ^ d ≤ val (a.drop q) := Int.ediv_le_self _ h1.1
  omega

set_option maxHeartbeats 1000000 in
theorem shr_nat (w : World) (v : Value) (m K : Nat) (hK : K ≤ 9223372036854775807) (h : N w v m) (hm : Lt 400 m) :
    Calls Try.prog 30 #[v, .int .i64 K] w (RetN w (m / 2 ^ K)) := by
  obtain ⟨a, ra, na, ea⟩ := h
  have la : a.length ≤ 400 := N.len hm na ea
  obtain ⟨A, c, rfl, h1, h2, h3⟩ := id ra
  have hmf := mkf
  have HA := Lib.hid ea
  clear ea h3
  go_enter Try.func30, Try.ntmps30
  go_wp2_with (at_make; refine wpList_mk_ints _ rfl _ rfl _ _ rfl rfl (by omega) ?_; intro w1 hmade)
  all_goals
    refine (shr_sums w w1 _ a m K (min ((K : Int) / 24) (a.length : Int)).toNat (K % 24) _ (by omega) rfl na HA.out (by omega) rfl (ra.cut (by omega)) hmade).mono ?_
    rintro e w2 ⟨v, rfl, hN, hE⟩
    go_wp2
    go_ret
    exact ⟨v, rfl, hN, hE⟩

set_option maxHeartbeats 1000000 in
theorem shr_neg (w : World) (v : Value) (m : Nat) (k : Int) (hk : k < 0) (h : N w v m) (hm : Lt 400 m) :
    Calls Try.prog 30 #[v, .int .i64 k] w (RetN w m) := by
  obtain ⟨a, ra, na, ea⟩ := h
  have la : a.length ≤ 400 := N.len hm na ea
  obtain ⟨A, c, rfl, h1, h2, h3⟩ := id ra
  have hmf := mkf
  have hmx : max k 0 = 0 := by omega
  have HA := Lib.hid ea
  clear ea h3
  go_enter Try.func30, Try.ntmps30
  go_wp2_with (at_make; refine wpList_mk_ints _ rfl _ rfl _ _ rfl rfl (by omega) ?_; intro w1 hmade)
  all_goals
    have key := shr_sums w w1 _ a m 0 (min (0 : Int) (a.length : Int)).toNat 0 _ (by omega) rfl na HA.out (by omega) rfl (ra.cut (by omega)) hmade
    rw [Nat.pow_zero, Nat.div_one] at key
    refine key.mono ?_
    rintro e w2 ⟨v, rfl, hN, hE⟩
    clear key
    go_wp2
    go_ret
    exact ⟨v, rfl, hN, hE⟩

theorem two_pow_le (d : Nat) (hd : d < 24) : (1 : Int) ≤ 2 ^ d ∧ (2 : Int) ^ d ≤ 8388608 := by
  have h1 := Nat.pow_le_pow_right (show 0 < 2 by omega) (show d ≤ 23 by omega)
  have h2 := Nat.two_pow_pos d
  have e : ((2 ^ d : Nat) : Int) = (2 : Int) ^ d := by push_cast; rfl
  omega
theorem shl_bounds {d : Nat} {x : Int} (hd : d < 24) (h0 : 0 ≤ x) (h1 : x < 16777216) : 0 ≤ 2 ^ d * x ∧ 2 ^ d * x ≤ 140737488355328 := by
  have hp := two_pow_le d hd
  refine ⟨Int.mul_nonneg (by omega) h0, ?_⟩
  have : 2 ^ d * x ≤ 8388608 * 16777216 := Int.mul_le_mul hp.2 (by omega) h0 (by omega)
  omega
theorem shl_word {d : Nat} {x : Int} (hd : d < 24) (h0 : 0 ≤ x) (h1 : x < 16777216) : wrap64 (x * 2 ^ d) = 2 ^ d * x := by
  have := shl_bounds hd h0 h1
  rw [Int.mul_comm]
  unfold wrap64
  omega

set_option maxHeartbeats 1000000 in
theorem shl1_any (w : World) (ba bk : Nat) (v : Value) (a : List Int) (K j : Nat) (hK : K ≤ 1000000) (hj : j ≤ 1000000)
    (ca : w.cell? ⟨ba, 0, none⟩ = some v) (ck : w.cell? ⟨bk, 0, none⟩ = some (.int .i64 K)) (ra : Row w v a) (na : Limbs a) :
    Calls Try.prog 45 #[.int .i64 j, .pointer (some ⟨ba, 0, none⟩), .pointer (some ⟨bk, 0, none⟩)] w fun e w' =>
      e = .returned (.int .i64 (2 ^ (K % 24) * nth a j)) ∧ ∃ q, w' = w.drewN q := by
  have hlen := ra.len_le
  obtain ⟨A, c, rfl, h1, h2, h3⟩ := id ra
  obtain ⟨y0, y1⟩ := na.at j
  have hj0 : (0 : Int) ≤ (j : Int) := by omega
  clear h3 na
  go_enter Try.func45, Try.ntmps45
  go_wp2
  go_quiet ((go_at_call 38; with_reducible exact quiet_left (at_any _ _ _ _ (ra.drewN _) hj0)))
  go_wp2
  go_ret
  exact ⟨ret_int (shl_word (by omega) y0 y1), nq, rfl⟩

theorem val_take {ys : List Int} {k : Nat} (hk : k ≤ ys.length) (hz : ∀ j, k ≤ j → nth ys j = 0) : val (ys.take k) = val ys := by
  have hlen : (ys.take k).length = k := by simp; omega
  rw [val_S, val_S, hlen, S_more hk (fun j hj _ => hz j hj)]
  exact S_congr _ (fun j hj => by rw [nth_eq (by omega), nth_eq (by omega), List.getElem_take])
theorem nf_take {ys : List Int} {k : Nat} (h : Limbs ys) (hk : k ≤ ys.length) (hl : k = 0 ∨ nth ys (k - 1) ≠ 0) : NF (ys.take k) := by
  have hlen : (ys.take k).length = k := by simp; omega
  have hn : ∀ j, j < k → nth (ys.take k) j = nth ys j := fun j hj => by rw [nth_eq (by omega), nth_eq (by omega), List.getElem_take]
  refine ⟨fun j hj => by rw [hn j (by omega)]; exact h.at j, ?_⟩
  rcases hl with e | e
  · left; subst e; simp
  · by_cases e0 : k = 0
    · left; subst e0; simp
    · right; rw [hlen, hn _ (by omega)]; exact e
/-- It returned the natural m, in the world as it is. -/
def RetH (w : World) (m : Nat) (e : Ending) (w' : World) : Prop := ∃ v, e = .returned v ∧ N w v m ∧ w = w'
theorem trimmed_nat (w : World) (v : Value) (ys : List Int) (m : Nat) (h : Row w v ys) (hl : Limbs ys) (hv : val ys = (m : Int)) : Calls Try.prog 46 #[v] w (RetH w m) := by
  refine (trimmed_any w v ys h).mono ?_
  rintro e w' ⟨A, c, k, rfl, hk, rfl, rfl, hz, hlast⟩
  exact ⟨_, rfl, ⟨ys.take k, h.take k hk, nf_take hl hk hlast, by rw [val_take hk hz, hv]⟩, rfl⟩

theorem S_zeros (h : Nat → Int) (q : Nat) : ∀ L, S (fun x => if x < q then 0 else h (x - q)) (q + L) = bp q * S h L
  | 0 => by
    have e : S (fun x => if x < q then 0 else h (x - q)) q = S (fun _ => 0) q := S_congr q (fun j hj => by simp [hj])
    rw [Nat.add_zero, e, S_zero]; simp [S]
  | L + 1 => by
    rw [← Nat.add_assoc, S_succ, S_zeros h q L, S_succ, bp_add, Int.mul_add, if_neg (by omega), Nat.add_sub_cancel_left, Int.mul_left_comm]

/-- What the sums of Shl leave: the whole row. -/
def ShlPost (w : World) (bo n m : Nat) (e : Ending) (w' : World) : Prop :=
  ∃ v ys, e = .returned v ∧ ys.length = n ∧ Row w' (.slice (some ⟨bo, 0, none⟩) n n) ys ∧ Limbs ys ∧ val ys = (m : Int) ∧ Ext w w'

theorem shl_sums (w W w1 : World) (v : Value) (a : List Int) (m K q L : Nat) (hq : q = K / 24) (hL : L = a.length + 1) (hK : K ≤ 20000) (la : a.length ≤ 1000) (na : NF a) (ea : val a = m) (ra : Row w v a)
    (hW : Ext w W) (c1 : W.cell? ⟨w.heap.size, 0, none⟩ = some v) (c2 : W.cell? ⟨w.heap.size + 1, 0, none⟩ = some (.int .i64 K)) (hs : W.heap.size = w.heap.size + 1 + 1)
    (hmade : Made (q + L) W w1) :
    Calls Try.prog 34 #[.slice (some ⟨w.heap.size + 1 + 1, q, none⟩) L L, .func (.func 45) #[] #[.pointer (some ⟨w.heap.size, 0, none⟩), .pointer (some ⟨w.heap.size + 1, 0, none⟩)],
      .func (.func 36) #[.pointer (some ⟨w1.heap.size, 0, none⟩)] #[]] (w1.alloc (.cells #[.int .i64 0] 41)) (ShlPost w (w.heap.size + 1 + 1) (q + L) (m * 2 ^ K)) := by
  have hd : K % 24 < 24 := Nat.mod_lt _ (by omega)
  have hs1 := hmade.size
  have hbd : ∀ j, 0 ≤ 2 ^ (K % 24) * nth a j ∧ 2 ^ (K % 24) * nth a j ≤ 140737488355328 := fun j => shl_bounds hd (na.1.at j).1 (na.1.at j).2
  have hT : 0 + S (fun j => 2 ^ (K % 24) * nth a j) L = 2 ^ (K % 24) * (m : Int) := by rw [S_mul, val_S_ge (by omega), ea]; omega
  have hp := two_pow_le (K % 24) hd
  have h0 : 0 ≤ 0 + S (fun j => 2 ^ (K % 24) * nth a j) L := by rw [hT]; exact Int.mul_nonneg (by omega) (by omega)
  have h1 : 0 + S (fun j => 2 ^ (K % 24) * nth a j) L < bp L := by
    rw [hT, hL, bp_succ, ← ea]
    have hb := val_bounds na.1
    have k1 : 2 ^ (K % 24) * val a ≤ 8388608 * val a := Int.mul_le_mul_of_nonneg_right hp.2 hb.1
    omega
  have e1 : Ext w (w1.alloc (.cells #[.int .i64 0] 41)) := (hW.trans hmade.ext).alloc _
  have hz : ∀ x, x < w1.heap.size → ∀ i, (w1.alloc (.cells #[.int .i64 0] 41)).cell? ⟨x, i, none⟩ = w1.cell? ⟨x, i, none⟩ := fun x hx i => World.cell?_alloc_lt _ _ _ hx
  have hzf : ∀ x, x < w1.heap.size → ∀ i, (w1.alloc (.cells #[.int .i64 0] 41)).frozen? ⟨x, i, none⟩ = w1.frozen? ⟨x, i, none⟩ := fun x hx i => World.frozen?_alloc_old _ _ _ (by show x ≠ _; omega)
  have hc : ∀ j, j < q + L → w1.cell? ⟨w.heap.size + 1 + 1, j, none⟩ = some (.int .i64 0) := fun j hj => by rw [← hs]; exact hmade.cell j hj
  have hf : ∀ j, w1.frozen? ⟨w.heap.size + 1 + 1, j, none⟩ = false := fun j => by rw [← hs]; exact hmade.frozen j
  refine (sums_any _ (w.heap.size + 1 + 1) w1.heap.size q L L 45 #[.pointer (some ⟨w.heap.size, 0, none⟩), .pointer (some ⟨w.heap.size + 1, 0, none⟩)] (fun j => 2 ^ (K % 24) * nth a j) 0 (Nat.le_refl _) (by unfold maxLen; omega)
    (by simp; omega) (by omega) (fun j hj => ⟨0, by rw [hz _ (by omega)]; exact hc _ (by omega)⟩) (fun j => by rw [hzf _ (by omega)]; exact hf j) (World.cell?_alloc_new ..) (World.frozen?_alloc_new ..)
    (fun j hj => by have := hbd j; have := carry_bound (n := j) (M := 140737488355328) (h := fun j => 2 ^ (K % 24) * nth a j) (c := 0) (by omega) (by omega) (fun i _ => by have := hbd i; omega) j (Nat.le_refl _); omega) callShl
    (fun w' j ho hj => ?_)).mono ?_
  · refine shl1_any w' _ _ v a K j (by omega) (by omega) ?_ ?_ (ra.only e1 ho (fun i hi => by simp at hi; omega)) na.1
    · rw [ho.cell (by simp; omega) (by simp; omega), hz _ (by omega), hmade.ext.cell (by show w.heap.size < _; omega)]; exact c1
    · rw [ho.cell (by simp; omega) (by simp; omega), hz _ (by omega), hmade.ext.cell (by show w.heap.size + 1 < _; omega)]; exact c2
  · rintro e w' ⟨k, hk, rfl, ho, hcell, _, _, hlow⟩
    have hS := carry_end h0 h1
    have hn : ∀ j, j < q + L → nth ((List.range (q + L)).map fun x => if x < q then 0 else limbAt (fun j => 2 ^ (K % 24) * nth a j) 0 (x - q)) j = if j < q then 0 else limbAt (fun j => 2 ^ (K % 24) * nth a j) 0 (j - q) := fun j hj => by
      rw [nth_eq (by simpa using hj)]; simp
    have hlen : ((List.range (q + L)).map fun x => if x < q then 0 else limbAt (fun j => 2 ^ (K % 24) * nth a j) 0 (x - q)).length = q + L := by simp
    refine ⟨_, (List.range (q + L)).map fun x => if x < q then 0 else limbAt (fun j => 2 ^ (K % 24) * nth a j) 0 (x - q), rfl, hlen, ⟨_, q + L, by rw [hlen], by omega, by unfold maxLen; omega, fun _ => ⟨w.heap.size + 1 + 1, 0, rfl, by have := ho.size; simp at this; omega, fun j hj => ?_⟩⟩, fun j hj => ?_, ?_, e1.only ho (fun i hi => by simp at hi; omega)⟩
    · rw [hlen] at hj
      rw [hn j hj, Nat.zero_add]
      by_cases hjq : j < q
      · rw [if_pos hjq, hlow j hjq, hz _ (by omega)]; exact hc j hj
      · rw [if_neg hjq]
        have := hcell (j - q) (by omega)
        rwa [show q + (j - q) = j by omega] at this
    · rw [hlen] at hj
      rw [hn j hj]
      split
      · omega
      · exact limbAt_bounds _ _ _
    · rw [val_S, hlen, S_congr _ hn, S_zeros, hS, hT, bp_two]
      have e2 : K = 24 * q + K % 24 := by omega
      have e3 : m * 2 ^ K = 2 ^ (24 * q) * (2 ^ (K % 24) * m) := by
        rw [← Nat.mul_assoc, ← Nat.pow_add, ← e2, Nat.mul_comm]
      rw [e3]; push_cast; rfl

set_option maxHeartbeats 1000000 in
theorem shl_nat (w : World) (v : Value) (m K : Nat) (hK : K ≤ 20000) (h : N w v m) (hm : Lt 400 m) :
    Calls Try.prog 28 #[v, .int .i64 K] w (RetN w (m * 2 ^ K)) := by
  obtain ⟨a, ra, na, ea⟩ := h
  have la : a.length ≤ 400 := N.len hm na ea
  obtain ⟨A, c, rfl, h1, h2, h3⟩ := id ra
  have hmf := mkf
  have HA := Lib.hid ea
  clear ea h3
  by_cases hp : 0 < a.length
  · have hne : ((a.length : Int) == 0) = false := beq_eq_false_iff_ne.2 (by omega)
    go_enter Try.func28, Try.ntmps28
    go_wp2_with (at_make; refine wpList_mk_ints _ rfl _ rfl (K / 24 + a.length + 1) _ rfl (by omega) (by omega) ?_; intro w1 hmade)
    rw [show K / 24 + a.length + 1 = K / 24 + (a.length + 1) by omega] at hmade
    have eL : K / 24 + a.length + 1 - K / 24 = a.length + 1 := by omega
    have eN : K / 24 + (a.length + 1) = K / 24 + a.length + 1 := by omega
    have key := shl_sums w _ w1 _ a m K (K / 24) (a.length + 1) rfl rfl hK (by omega) na HA.out ra (two_ext ..) (two_cell0 ..) (two_cell1 ..) (two_size ..) hmade
    rw [eN] at key
    rw [eL]
    refine key.mono ?_
    rintro e w2 ⟨v, ys, rfl, hlen, hrow, hlim, hval, hE⟩
    clear key eL eN
    have HT := Lib.hid (trimmed_nat w2 _ ys _ hrow hlim hval)
    have HE := Lib.hid hE
    clear hrow hlim hval hlen hmade hE ra na
    go_wp2_with fail
    refine HT.out.mono ?_
    rintro e w3 ⟨v, rfl, hN, rfl⟩
    go_wp2
    go_ret
    exact ⟨v, rfl, hN, HE.out⟩
  · have e0 : a = [] := List.eq_nil_of_length_eq_zero (by omega)
    subst e0
    have hm0 : m = 0 := by have := HA.out; simp [val] at this; omega
    subst hm0
    clear ra na HA
    go_enter Try.func28, Try.ntmps28
    go_wp2
    go_ret
    exact ⟨_, rfl, by rw [Nat.zero_mul]; exact N.zero _ _ _ (by simp [maxLen]), two_ext ..⟩

end Go.Proofs.Ytafmolljmceadaa
