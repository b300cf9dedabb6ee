/- Walks of the document's answers: Of, Add, Sub. -/
import Derived.Test.YtjnnodbejnmkmaaDoorR2
namespace Go.Proofs.YtjnnodbejnmkmaaDoor
open Go.RowKit

theorem nth_snoc_lt {xs : List Int} {y : Int} {j : Nat} (h : j < xs.length) : nth (xs ++ [y]) j = nth xs j := by
  rw [nth_eq (by simp; omega), nth_eq h, List.getElem_append_left h]
theorem nth_snoc_eq (xs : List Int) (y : Int) : nth (xs ++ [y]) xs.length = y := by
  rw [nth_eq (by simp)]; simp
theorem val_snoc (xs : List Int) (y : Int) : val (xs ++ [y]) = val xs + y * bp xs.length := by
  rw [val_S, val_S, List.length_append, List.length_singleton, S_succ, nth_snoc_eq, S_congr _ (fun j hj => nth_snoc_lt hj)]
theorem Limbs.snoc {xs : List Int} {y : Int} (h : Limbs xs) (h0 : 0 ≤ y) (h1 : y < 16777216) : Limbs (xs ++ [y]) := fun j hj => by
  by_cases e : j < xs.length
  · rw [nth_snoc_lt e]; exact h j e
  · have : j = xs.length := by simp at hj; omega
    subst this; rw [nth_snoc_eq]; exact ⟨h0, h1⟩

/-- What R.Of's loop keeps. -/
def OfRel (n z : Int) (xs : List Int) : Prop := Limbs xs ∧ val xs + z * bp xs.length = n ∧ (0 < z ∨ xs = [] ∨ nth xs (xs.length - 1) ≠ 0) ∧ xs.length ≤ 3
theorem OfRel.start (n : Int) : OfRel n n [] := ⟨NF.nil.1, by simp [val, bp], .inr (.inl rfl), by simp⟩
theorem OfRel.step {n z : Int} {xs : List Int} (h : OfRel n z xs) (hz : 0 < z) (hn : n ≤ 9223372036854775807) : OfRel n (z / 16777216) (xs ++ [z % 16777216]) := by
  obtain ⟨h1, h2, _, h4⟩ := h
  have hb := val_bounds h1
  have hp := bp_pos xs.length
  have hz1 : bp xs.length ≤ z * bp xs.length := by
    have : 1 * bp xs.length ≤ z * bp xs.length := Int.mul_le_mul_of_nonneg_right (by omega) (by omega)
    omega
  have hl : xs.length < 3 := by
    rcases Nat.lt_or_ge xs.length 3 with e | e
    · exact e
    · have e3 : xs.length = 3 := by omega
      rw [e3] at hz1 hb h2
      have : bp 3 = 4722366482869645213696 := by simp [bp]
      omega
  refine ⟨h1.snoc (by omega) (by omega), ?_, ?_, by simp; omega⟩
  · rw [val_snoc, List.length_append, List.length_singleton, bp_succ]
    have e : z * bp xs.length = z % 16777216 * bp xs.length + z / 16777216 * (16777216 * bp xs.length) := by
      rw [← Int.mul_assoc, ← Int.add_mul]
      congr 1
      omega
    omega
  · by_cases e : 0 < z / 16777216
    · exact .inl e
    · right; right
      rw [List.length_append, List.length_singleton, Nat.add_sub_cancel, nth_snoc_eq]; omega
theorem OfRel.done {n : Int} {xs : List Int} (h : OfRel n 0 xs) : NF xs ∧ val xs = n := by
  obtain ⟨h1, h2, h3, _⟩ := h
  refine ⟨⟨h1, ?_⟩, by simpa using h2⟩
  rcases h3 with h | h
  · omega
  · exact h

set_option maxHeartbeats 1000000 in
theorem rof_any (w : World) (n : Int) (hn : n ≤ 9223372036854775807) : Calls Tryd.prog 33 #[.int .i64 n] w (RetN w n.toNat) := by
  by_cases h0 : 0 < n
  · go_enter Tryd.func33, Tryd.ntmps33
    go_wp2
    go_loopw [0, 3] (fun a v wr => ∃ (z : Int) (xs : List Int), a = .int .i64 z ∧ 0 ≤ z ∧ z ≤ n ∧ OfRel n z xs ∧ Own wr w.heap.size v xs ∧ Ext w wr) (fun a _ _ => (intOf a).toNat)
    case atStart => exact ⟨n, [], rfl, by omega, Int.le_refl _, OfRel.start n, Own.nil w _, Ext.refl _⟩
    case round =>
      obtain ⟨z, xs, rfl, hz0, hzn, hR, ho, he⟩ := hrel
      have hlen := hR.2.2.2
      have hsz := he.size
      by_cases hz : 0 < z
      · have HS := Lib.hid (hR.step hz hn)
        go_wp2_with (at_builtin; refine wpList_app _ rfl _ _ rfl w.heap.size _ xs _ [z % 16777216] rfl rfl (ho.alloc _) (row_one wr _ _) (by simp; omega) (by simp; omega) ?_; intro v' w' ho' hg)
        have e1 : Ext w w' := (he.alloc _).app (ho.alloc _) (Nat.le_refl _) hg
        go_roundw
        case rel => exact ⟨z / 16777216, _, rfl, by omega, by omega, HS.out, ho', e1⟩
        case measure => simp [intOf]; omega
      · have hz1 : z = 0 := by omega
        subst hz1
        have hd := hR.done
        have HN := Lib.hid (N.row (m := n.toNat) ho.row hd.1 (by rw [hd.2]; omega))
        go_wp2
        go_ret
        exact ⟨_, rfl, HN.out, he⟩
  · have e : n.toNat = 0 := by omega
    rw [e]
    go_enter Tryd.func33, Tryd.ntmps33
    go_wp2
    refine wp_loop_rounds 1 ?_
    rw [rounds_succ]
    go_wp2
    go_ret
    exact ⟨_, rfl, N.zero _ _ _ (by simp [maxLen]), Ext.refl _⟩

/-- The limbs of sums, so far. -/
def limbs (h : Nat → Int) (c : Int) (k : Nat) : List Int := (List.range k).map (limbAt h c)
theorem limbs_len (h : Nat → Int) (c : Int) (k : Nat) : (limbs h c k).length = k := by simp [limbs]
theorem limbs_succ (h : Nat → Int) (c : Int) (k : Nat) : limbs h c (k + 1) = limbs h c k ++ [limbAt h c k] := by simp [limbs, List.range_succ]
theorem limbs_nth {h : Nat → Int} {c : Int} {k j : Nat} (hj : j < k) : nth (limbs h c k) j = limbAt h c j := by
  rw [nth_eq (by rw [limbs_len]; exact hj)]; simp [limbs]
theorem limbs_limbs (h : Nat → Int) (c : Int) (k : Nat) : Limbs (limbs h c k) := fun j hj => by
  rw [limbs_len] at hj; rw [limbs_nth hj]; exact limbAt_bounds h c j
theorem limbs_val (h : Nat → Int) (c : Int) (k : Nat) : val (limbs h c k) = S (limbAt h c) k := by
  rw [val_S, limbs_len]; exact S_congr _ (fun j hj => limbs_nth hj)
theorem limbs_val_end {h : Nat → Int} {c : Int} {k : Nat} (hc : carryAt h c k = 0) : val (limbs h c k) = c + S h k := by
  have := carry_sum h c k
  rw [hc] at this
  rw [limbs_val]; omega

set_option maxHeartbeats 1000000 in
theorem radd_any (w : World) (va vb : Value) (m n : Nat) (ha : N w va m) (hb : N w vb n) (hm : Lt 400 m) (hn : Lt 400 n) : Calls Tryd.prog 44 #[va, vb] w (RetN w (m + n)) := by
  obtain ⟨a, ra, na, ea⟩ := ha
  obtain ⟨b, rb, nb, eb⟩ := hb
  have la : a.length ≤ 400 := N.len hm na ea
  have lb : b.length ≤ 400 := N.len hn nb eb
  obtain ⟨A, c, rfl, h1, h2, h3⟩ := id ra
  obtain ⟨A', c', rfl, h1', h2', h3'⟩ := id rb
  clear h3 h3'
  have hcb : ∀ j, -1 ≤ carryAt (fun j => nth a j + nth b j) 0 j ∧ carryAt (fun j => nth a j + nth b j) 0 j ≤ 1 := fun j => by
    induction j with
    | zero => simp [carryAt]
    | succ j ih => rw [carryAt_succ]; have := na.1.at j; have := nb.1.at j; omega
  have hc0 : ∀ j, 0 ≤ carryAt (fun j => nth a j + nth b j) 0 j := fun j => by
    induction j with
    | zero => simp [carryAt]
    | succ j ih => rw [carryAt_succ]; have := na.1.at j; have := nb.1.at j; omega
  obtain ⟨h, hh⟩ : ∃ h : Nat → Int, h = fun j => nth a j + nth b j := ⟨_, rfl⟩
  rw [← hh] at hcb hc0
  have hlast : ∀ j, a.length ≤ j → b.length ≤ j → carryAt h 0 (j + 1) = 0 := fun j k1 k2 => by
    have := hcb j
    have := hc0 j
    have e : h j = nth a j + nth b j := by rw [hh]
    rw [carryAt_succ, e, nth_past k1, nth_past k2]; omega
  have hval : ∀ k, a.length ≤ k → b.length ≤ k → carryAt h 0 k = 0 → val (limbs h 0 k) = ((m + n : Nat) : Int) := fun k k1 k2 k3 => by
    rw [limbs_val_end k3, hh, S_add, val_S_ge k1, val_S_ge k2, ea, eb]; omega
  have HCB := Lib.hid hcb
  have HC0 := Lib.hid hc0
  have HLA := Lib.hid hlast
  have HV := Lib.hid hval
  have HH := Lib.hid hh
  have NA := Lib.hid na
  have NB := Lib.hid nb
  clear hcb hc0 hlast hval ea eb hh na nb
  go_enter Tryd.func44, Tryd.ntmps44
  go_wp2
  go_loopw [5, 6, 7] (fun v cr i wr => ∃ k : Nat, k ≤ a.length + b.length + 1 ∧ Hid (k ≤ a.length ∨ k ≤ b.length ∨ carryAt h 0 k = 0) ∧ i = .int .i64 k ∧ cr = .int .i64 (carryAt h 0 k) ∧ Own wr w.heap.size v (limbs h 0 k) ∧ Ext w wr) (fun _ _ i _ => a.length + b.length + 1 - (intOf i).toNat)
  case atStart => exact ⟨0, by omega, .inl (Nat.zero_le _), rfl, rfl, Own.nil w _, Ext.refl _⟩
  case round =>
    obtain ⟨k, hk, hcar, rfl, rfl, ho, he⟩ := hrel
    have hsz := he.size
    have c0 := HC0.out k
    have c1 := (HCB.out k).2
    have hlen : (limbs h 0 k).length = k := limbs_len _ _ _
    have HLEN := Lib.hid hlen
    clear hlen
    by_cases hdone : a.length ≤ k ∧ b.length ≤ k ∧ carryAt h 0 k ≤ 0
    · obtain ⟨d1, d2, d3⟩ := hdone
      have hcz : carryAt h 0 k = 0 := by omega
      have HN := Lib.hid (rtrim_nat wr _ (limbs h 0 k) (m + n) ho.row (limbs_limbs _ _ _) (HV.out k d1 d2 hcz) (by rw [HLEN.out]; omega))
      have g1 : ¬ (k : Int) < (a.length : Int) := by omega
      have g2 : ¬ (k : Int) < (b.length : Int) := by omega
      have g3 : ¬ (0 : Int) < carryAt h 0 k := by omega
      clear hcz
      go_wp2_with (go_at_call 64; refine HN.out.mono ?_; rintro e w' ⟨v', rfl, hN, hE⟩)
      go_ret
      exact ⟨_, rfl, hN, he.trans hE⟩
    · have hkl : k ≤ a.length + b.length := by
        rcases hcar.out with e | e | e
        · omega
        · omega
        · by_cases k1 : a.length ≤ k
          · by_cases k2 : b.length ≤ k
            · exact absurd ⟨k1, k2, by omega⟩ hdone
            · omega
          · omega
      have x1 := NA.out.1.at k
      have x2 := NB.out.1.at k
      have hlimb : (nth a k + nth b k + carryAt h 0 k) % 16777216 = limbAt h 0 k := by unfold limbAt; rw [HH.out]
      have hcar' : (nth a k + nth b k + carryAt h 0 k) / 16777216 = carryAt h 0 (k + 1) := by rw [carryAt_succ, HH.out]
      have HL1 := Lib.hid hlimb
      have HC1 := Lib.hid hcar'
      have y1 := x1.1
      have y2 := x1.2
      have y3 := x2.1
      have y4 := x2.2
      have hk0 : (0 : Int) ≤ (k : Int) := by omega
      have HR1 := Lib.hid (rat_any wr _ _ (k : Int) (ra.ext he) hk0)
      have HR2 := Lib.hid (rat_any wr _ _ (k : Int) (rb.ext he) hk0)
      rw [Int.toNat_natCast] at HR1 HR2
      clear hlimb hcar' x1 x2
      have hcases : k < a.length ∨ (¬ k < a.length ∧ k < b.length) ∨ (¬ k < a.length ∧ ¬ k < b.length ∧ 0 < carryAt h 0 k) := by
        by_cases k1 : k < a.length
        · exact .inl k1
        · by_cases k2 : k < b.length
          · exact .inr (.inl ⟨k1, k2⟩)
          · exact .inr (.inr ⟨k1, k2, by
              rcases Int.lt_or_le 0 (carryAt h 0 k) with e | e
              · exact e
              · exact absurd ⟨by omega, by omega, e⟩ hdone⟩)
      clear hdone
      rcases hcases with d1 | ⟨d1, d2⟩ | ⟨d1, d2, d3⟩
      all_goals
        go_wp2_with (first | ((go_at_call 65); (with_reducible refine HR1.out.mono ?_); (rintro e w' ⟨rfl, rfl⟩)) | ((go_at_call 65); (with_reducible refine HR2.out.mono ?_); (rintro e w' ⟨rfl, rfl⟩)) | (at_builtin; refine wpList_app _ rfl _ _ rfl w.heap.size _ (limbs h 0 k) _ [(nth a k + nth b k + carryAt h 0 k) % 16777216] rfl rfl (ho.alloc _) (row_one wr _ _) (by simp; omega) (by rw [HLEN.out]; simp; omega) ?_; intro v' w' ho' hg))
        have e1 : Ext w w' := (he.alloc _).app (ho.alloc _) (Nat.le_refl _) hg
        rw [HL1.out, ← limbs_succ] at ho'
        go_roundw
        case rel => exact ⟨k + 1, by omega, by
          by_cases k1 : k + 1 ≤ a.length
          · exact .inl k1
          · by_cases k2 : k + 1 ≤ b.length
            · exact .inr (.inl k2)
            · exact .inr (.inr (HLA.out k (by omega) (by omega))), by go_num, by rw [HC1.out], ho', e1⟩
        case measure => simp [intOf]; omega

end Go.Proofs.YtjnnodbejnmkmaaDoor
