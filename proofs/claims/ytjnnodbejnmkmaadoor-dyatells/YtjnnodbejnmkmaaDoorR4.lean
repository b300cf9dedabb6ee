/- Walks of the document's answers: Sub, Shl, Shr. -/
import Derived.Test.YtjnnodbejnmkmaaDoorR3
namespace Go.Proofs.YtjnnodbejnmkmaaDoor
open Go.RowKit

theorem rsub_no (w : World) (va vb : Value) (m n : Nat) (ha : N w va m) (hb : N w vb n) (hlt : m < n) : Calls Tryd.prog 46 #[va, vb] w (RetNB w 0 false) := by
  have hc := rcmp_nat w va vb m n ha hb
  rw [cmpI_lt (by omega)] at hc
  have HC := Lib.hid hc
  clear hc
  go_enter Tryd.func46, Tryd.ntmps46
  go_wp2_with fail
  refine HC.out.mono ?_
  rintro e w1 ⟨rfl, hq⟩
  go_wp2
  go_ret2
  exact ⟨_, rfl, N.zero _ _ _ (by simp [maxLen]), hq.ext⟩

set_option maxHeartbeats 1000000 in
theorem rsub_yes (w : World) (va vb : Value) (m n : Nat) (ha : N w va m) (hb : N w vb n) (hm : Lt 400 m) (hlt : n ≤ m) : Calls Tryd.prog 46 #[va, vb] w (RetNB w (m - n) true) := by
  have HC := Lib.hid (rcmp_nat w va vb m n ha hb)
  obtain ⟨a, ra, na, ea⟩ := ha
  obtain ⟨b, rb, nb, eb⟩ := hb
  have la : a.length ≤ 400 := N.len hm na ea
  have lab : b.length ≤ a.length := by
    rcases Nat.lt_or_ge a.length b.length with h | h
    · have := val_short na nb h; omega
    · exact h
  have hc0 : ¬ cmpI (m : Int) (n : Int) < 0 := by
    rcases Nat.lt_or_ge n m with h | h
    · rw [cmpI_gt (by omega)]; omega
    · rw [cmpI_eq (by omega)]; omega
  obtain ⟨x, hx⟩ : ∃ x, x = cmpI (m : Int) (n : Int) := ⟨_, rfl⟩
  rw [← hx] at HC hc0
  clear hx
  obtain ⟨A, c, rfl, h1, h2, h3⟩ := id ra
  obtain ⟨A', c', rfl, h1', h2', h3'⟩ := id rb
  clear h3'
  obtain ⟨h, hh⟩ : ∃ h : Nat → Int, h = fun j => nth a j - nth b j := ⟨_, rfl⟩
  have hcb : ∀ j, -1 ≤ carryAt h 0 j ∧ carryAt h 0 j ≤ 0 := fun j => by
    induction j with
    | zero => simp [carryAt]
    | succ j ih =>
      have e : h j = nth a j - nth b j := by rw [hh]
      rw [carryAt_succ, e]; have := na.1.at j; have := nb.1.at j; omega
  have hval : val (limbs h 0 a.length) = ((m - n : Nat) : Int) := by
    have hS : S h a.length = (m : Int) - (n : Int) := by rw [hh, S_sub, val_S_ge (Nat.le_refl _), val_S_ge lab, ea, eb]
    have hb1 := (val_bounds na.1).2
    rw [limbs_val, carry_end (by omega) (by omega)]
    omega
  have H3 := Lib.hid h3
  have HCB := Lib.hid hcb
  have HV := Lib.hid hval
  have HH := Lib.hid hh
  have NA := Lib.hid na
  have NB := Lib.hid nb
  clear hcb hval ea eb hh na nb h3
  go_enter Tryd.func46, Tryd.ntmps46
  go_wp2_with fail
  refine HC.out.mono ?_
  rintro e w1 ⟨rfl, hq⟩
  have E1 := hq.ext
  clear HC
  go_wp2
  go_loopw [6, 7, 8] (fun v cr i wr => ∃ k : Nat, k ≤ a.length ∧ i = .int .i64 k ∧ cr = .int .i64 (-(carryAt h 0 k)) ∧ Own wr w.heap.size v (limbs h 0 k) ∧ Ext w wr) (fun _ _ i _ => a.length - (intOf i).toNat)
  case atStart => exact ⟨0, by omega, rfl, rfl, Own.nil w1 _, E1⟩
  case round =>
    obtain ⟨k, hk, rfl, rfl, ho, he⟩ := hrel
    have hsz := he.size
    have hlen : (limbs h 0 k).length = k := limbs_len _ _ _
    have HLEN := Lib.hid hlen
    clear hlen
    by_cases hlt : k < a.length
    · obtain ⟨c1, c2⟩ := HCB.out k
      obtain ⟨b1, off1, rfl, hb1, hc1⟩ := H3.out (by omega)
      have hcell := (he.cell (p := ⟨b1, off1 + k, none⟩) hb1).trans (hc1 k hlt)
      obtain ⟨y1, y2⟩ := NA.out.1.at k
      obtain ⟨y3, y4⟩ := NB.out.1.at k
      have hk0 : (0 : Int) ≤ (k : Int) := by omega
      have hkl : (k : Int) < (a.length : Int) := by omega
      have rbw := rb.ext he
      have ehk : h k = nth a k - nth b k := by rw [HH.out]
      have EHK := Lib.hid ehk
      obtain ⟨cr, hcr⟩ : ∃ cr, cr = carryAt h 0 k := ⟨_, rfl⟩
      rw [← hcr] at c1 c2
      have HCR := Lib.hid hcr
      have hnext : carryAt h 0 (k + 1) = (nth a k - nth b k + cr) / 16777216 := by rw [carryAt_succ, ehk, hcr]
      have hlimb : limbAt h 0 k = (nth a k - nth b k + cr) % 16777216 := by unfold limbAt; rw [ehk, hcr]
      have HNX := Lib.hid hnext
      have HLB := Lib.hid hlimb
      have j1 : IntKind.i64.wrap (nth a k - nth b k) = nth a k - nth b k := IntWalk.i64_in _ (by omega)
      have j2 : IntKind.i64.wrap (nth a k - nth b k + cr) = nth a k - nth b k + cr := IntWalk.i64_in _ (by omega)
      rw [← hcr]
      clear hnext hlimb ehk hcr hc1 H3 ra
      go_wp2
      go_quiet ((go_at_call 65; with_reducible exact quiet_left (rat_any _ _ _ _ (rbw.drewN _) hk0)))
      clear j1 j2
      have heq : Ext w (wr.drewN nq) := he.drewN nq
      have hoq : Own (wr.drewN nq) w.heap.size _ (limbs h 0 k) := ho
      have hszq : w.heap.size ≤ (wr.drewN nq).heap.size := heq.size
      generalize wr.drewN nq = wq at *
      clear rbw hcell
      by_cases hs : nth a k - nth b k + cr < 0
      · have e1 : limbAt h 0 k = nth a k - nth b k + cr + 16777216 := by rw [HLB.out]; omega
        have e2 : carryAt h 0 (k + 1) = -1 := by rw [HNX.out]; omega
        have E1' := Lib.hid e1
        have E2' := Lib.hid e2
        clear e1 e2
        go_wp2_with (at_builtin; refine wpList_app _ rfl _ _ rfl w.heap.size _ (limbs h 0 k) _ [nth a k - nth b k + cr + 16777216] rfl rfl (hoq.alloc _) (row_one wq _ _) (by simp; omega) (by rw [HLEN.out]; simp; omega) ?_; intro v' w' ho' hg)
        have e1 : Ext w w' := (heq.alloc _).app (hoq.alloc _) (Nat.le_refl _) hg
        rw [← E1'.out, ← limbs_succ] at ho'
        go_roundw
        case rel => exact ⟨k + 1, by omega, by go_num, by rw [E2'.out]; rfl, ho', e1⟩
        case measure => simp [intOf]; omega
      · have e1 : limbAt h 0 k = nth a k - nth b k + cr := by rw [HLB.out]; omega
        have e2 : carryAt h 0 (k + 1) = 0 := by rw [HNX.out]; omega
        have E1' := Lib.hid e1
        have E2' := Lib.hid e2
        clear e1 e2
        go_wp2_with (at_builtin; refine wpList_app _ rfl _ _ rfl w.heap.size _ (limbs h 0 k) _ [nth a k - nth b k + cr] rfl rfl (hoq.alloc _) (row_one wq _ _) (by simp; omega) (by rw [HLEN.out]; simp; omega) ?_; intro v' w' ho' hg)
        have e1 : Ext w w' := (heq.alloc _).app (hoq.alloc _) (Nat.le_refl _) hg
        rw [← E1'.out, ← limbs_succ] at ho'
        go_roundw
        case rel => exact ⟨k + 1, by omega, by go_num, by rw [E2'.out]; rfl, ho', e1⟩
        case measure => simp [intOf]; omega
    · have hkn : k = a.length := by omega
      have HN := Lib.hid (rtrim_nat wr _ (limbs h 0 k) (m - n) ho.row (limbs_limbs _ _ _) (by rw [hkn]; exact HV.out) (by rw [HLEN.out]; omega))
      clear hkn
      go_wp2_with (go_at_call 64; refine HN.out.mono ?_; rintro e w' ⟨v', rfl, hN, hE⟩)
      go_ret2
      exact ⟨_, rfl, hN, he.trans hE⟩

set_option maxHeartbeats 1000000 in
theorem rshl_same (w : World) (v : Value) (m : Nat) (k : Int) (h : N w v m) (hm : Lt 400 m) (hk : k ≤ 0 ∨ m = 0) : Calls Tryd.prog 43 #[v, .int .i64 k] w (RetN w m) := by
  obtain ⟨a, ra, na, ea⟩ := id h
  have la : a.length ≤ 400 := N.len hm na ea
  have HT := Lib.hid (rtrim_nat w v a m ra na.1 ea (by omega))
  by_cases hk0 : k ≤ 0
  · clear ra na ea
    go_enter Tryd.func43, Tryd.ntmps43
    go_wp2_with fail
    refine HT.out.mono ?_
    rintro e w' ⟨v', rfl, hN, hE⟩
    go_wp2
    go_ret
    exact ⟨_, rfl, hN, hE⟩
  · have hm0 : m = 0 := by omega
    obtain ⟨A, c, rfl, hc⟩ := N.form (w := w) (v := v) (by rw [← hm0]; exact h)
    clear ra na ea h hm hk hm0
    go_enter Tryd.func43, Tryd.ntmps43
    go_wp2_with fail
    refine HT.out.mono ?_
    rintro e w' ⟨v', rfl, hN, hE⟩
    go_wp2
    go_ret
    exact ⟨_, rfl, hN, hE⟩

theorem zeros_nth (q : Nat) (ys : List Int) (j : Nat) : nth (List.replicate q 0 ++ ys) j = if j < q then 0 else nth ys (j - q) := by
  by_cases h : j < q
  · rw [if_pos h, nth_eq (by simp; omega), List.getElem_append_left (by simpa using h)]; simp
  · rw [if_neg h]
    by_cases h2 : j - q < ys.length
    · rw [nth_eq (by simp; omega), nth_eq h2, List.getElem_append_right (by simp; omega)]; simp
    · rw [nth_past (by simp; omega), nth_past (by omega)]
theorem zeros_val (q : Nat) (ys : List Int) : val (List.replicate q 0 ++ ys) = bp q * val ys := by
  rw [val_S, val_S ys, ← S_zeros (nth ys) q ys.length]
  have e : (List.replicate q (0 : Int) ++ ys).length = q + ys.length := by simp
  rw [e]
  exact S_congr _ (fun j _ => zeros_nth q ys j)
theorem zeros_limbs {q : Nat} {ys : List Int} (h : Limbs ys) : Limbs (List.replicate q 0 ++ ys) := fun j _ => by
  rw [zeros_nth]; split
  · omega
  · exact h.at _

set_option maxHeartbeats 1000000 in
theorem rshl_nat (w : World) (v : Value) (m K : Nat) (hK0 : 0 < K) (hK : K ≤ 20000) (hN0 : N w v m) (hm : Lt 400 m) (hm0 : m ≠ 0) : Calls Tryd.prog 43 #[v, .int .i64 K] w (RetN w (m * 2 ^ K)) := by
  obtain ⟨a, ra, na, ea⟩ := id hN0
  have la : a.length ≤ 400 := N.len hm na ea
  obtain ⟨A, c, rfl, h1, h2, h3⟩ := id ra
  have hp : 0 < a.length := by
    rcases Nat.eq_zero_or_pos a.length with e | e
    · have : a = [] := List.eq_nil_of_length_eq_zero e
      subst this; simp [val] at ea; omega
    · exact e
  have hne : ((a.length : Int) == 0) = false := beq_eq_false_iff_ne.2 (by omega)
  obtain ⟨b1, off1, rfl, hb1, hc1⟩ := h3 hp
  obtain ⟨p, hpp⟩ : ∃ p : Int, p = 2 ^ (K % 24) := ⟨_, rfl⟩
  have hpb := two_pow_le (K % 24) (Nat.mod_lt _ (by omega))
  rw [← hpp] at hpb
  obtain ⟨h, hh⟩ : ∃ h : Nat → Int, h = fun j => p * nth a j := ⟨_, rfl⟩
  have hxb : ∀ j, 0 ≤ p * nth a j ∧ p * nth a j ≤ 140737488355328 := fun j => by rw [hpp]; exact shl_bounds (Nat.mod_lt _ (by omega)) (na.1.at j).1 (na.1.at j).2
  have hcb : ∀ j, 0 ≤ carryAt h 0 j ∧ carryAt h 0 j < 16777216 := fun j => by
    induction j with
    | zero => simp [carryAt]
    | succ j ih =>
      have e : h j = p * nth a j := by rw [hh]
      rw [carryAt_succ, e]; have := hxb j; omega
  have hval : val (limbs h 0 a.length ++ [carryAt h 0 a.length]) = p * (m : Int) := by
    have := carry_sum h 0 a.length
    have e2 : S h a.length = p * (m : Int) := by rw [hh, S_mul, val_S_ge (Nat.le_refl _), ea]
    rw [val_snoc, limbs_len, limbs_val]; omega
  have hfin : val (List.replicate (K / 24) 0 ++ (limbs h 0 a.length ++ [carryAt h 0 a.length])) = ((m * 2 ^ K : Nat) : Int) := by
    rw [zeros_val, hval, bp_two, hpp]
    have e2 : K = 24 * (K / 24) + K % 24 := by omega
    have e3 : m * 2 ^ K = 2 ^ (24 * (K / 24)) * (2 ^ (K % 24) * m) := by
      rw [← Nat.mul_assoc, ← Nat.pow_add, ← e2, Nat.mul_comm]
    rw [e3]; push_cast; rfl
  have hlim : Limbs (List.replicate (K / 24) 0 ++ (limbs h 0 a.length ++ [carryAt h 0 a.length])) := zeros_limbs ((limbs_limbs _ _ _).snoc (hcb _).1 (hcb _).2)
  have HWP := Lib.hid (show wrap64 (2 ^ (K % 24)) = p by rw [← hpp]; unfold wrap64; omega)
  have HC1 := Lib.hid hc1
  have HPP := Lib.hid hpp
  have HH := Lib.hid hh
  have HXB := Lib.hid hxb
  have HCB := Lib.hid hcb
  have HF := Lib.hid hfin
  have HL := Lib.hid hlim
  clear hc1 hpp hh hxb hcb hfin hlim hval h3 ea na ra hN0
  go_enter Tryd.func43, Tryd.ntmps43
  go_wp2_with (at_make; refine wpList_mk_ints _ rfl _ rfl (K / 24) _ rfl (by omega) (by omega) ?_; intro w1 hmade)
  rw [HWP.out]
  have ho1 := Own.made (base := w.heap.size) hmade (Nat.le_refl _) (by omega)
  have E1 := hmade.ext
  clear hmade
  go_loopw [5, 7, 8] (fun v cr i wr => ∃ k : Nat, k ≤ a.length ∧ i = .int .i64 k ∧ cr = .int .i64 (carryAt h 0 k) ∧ Own wr w.heap.size v (List.replicate (K / 24) 0 ++ limbs h 0 k) ∧ Ext w wr) (fun _ _ i _ => a.length - (intOf i).toNat)
  case atStart => exact ⟨0, by omega, rfl, rfl, by simpa [limbs] using ho1, E1⟩
  case round =>
    clear ho1 E1
    obtain ⟨k, hk, rfl, rfl, ho, he⟩ := hrel
    have hsz := he.size
    have hlen : (List.replicate (K / 24) (0 : Int) ++ limbs h 0 k).length = K / 24 + k := by simp [limbs_len]
    have HLEN := Lib.hid hlen
    clear hlen
    obtain ⟨c1, c2⟩ := HCB.out k
    by_cases hlt : k < a.length
    · have hcell := (he.cell (p := ⟨b1, off1 + k, none⟩) hb1).trans (HC1.out k hlt)
      obtain ⟨x1, x2⟩ := HXB.out k
      rw [Int.mul_comm] at x1 x2
      have ehk : h k = nth a k * p := by rw [HH.out]; exact Int.mul_comm _ _
      have hnext : carryAt h 0 (k + 1) = (nth a k * p + carryAt h 0 k) / 16777216 := by rw [carryAt_succ, ehk]
      have hlimb : limbAt h 0 k = (nth a k * p + carryAt h 0 k) % 16777216 := by unfold limbAt; rw [ehk]
      have HNX := Lib.hid hnext
      have HLB := Lib.hid hlimb
      clear hnext hlimb ehk
      go_wp2_with (at_builtin; refine wpList_app _ rfl _ _ rfl w.heap.size _ (List.replicate (K / 24) 0 ++ limbs h 0 k) _ [(nth a k * p + carryAt h 0 k) % 16777216] rfl rfl (ho.alloc _) (row_one wr _ _) (by simp; omega) (by rw [HLEN.out]; simp; omega) ?_; intro v' w' ho' hg)
      have e1 : Ext w w' := (he.alloc _).app (ho.alloc _) (Nat.le_refl _) hg
      rw [← HLB.out, List.append_assoc, ← limbs_succ] at ho'
      go_roundw
      case rel => exact ⟨k + 1, by omega, by go_num, by rw [HNX.out], ho', e1⟩
      case measure => simp [intOf]; omega
    · have hkn : k = a.length := by omega
      have HF2 := Lib.hid (show val (List.replicate (K / 24) 0 ++ (limbs h 0 k ++ [carryAt h 0 k])) = ((m * 2 ^ K : Nat) : Int) by rw [hkn]; exact HF.out)
      have HL2 := Lib.hid (show Limbs (List.replicate (K / 24) 0 ++ (limbs h 0 k ++ [carryAt h 0 k])) by rw [hkn]; exact HL.out)
      clear hkn
      go_wp2_with (at_builtin; refine wpList_app _ rfl _ _ rfl w.heap.size _ (List.replicate (K / 24) 0 ++ limbs h 0 k) _ [carryAt h 0 k] rfl rfl (ho.alloc _) (row_one wr _ _) (by simp; omega) (by rw [HLEN.out]; simp; omega) ?_; intro v' w' ho' hg)
      have e1 : Ext w w' := (he.alloc _).app (ho.alloc _) (Nat.le_refl _) hg
      rw [List.append_assoc] at ho'
      refine (rtrim_nat w' _ _ (m * 2 ^ K) ho'.row HL2.out HF2.out (by simp [limbs_len]; omega)).mono ?_
      rintro e w2 ⟨v2, rfl, hN, hE⟩
      go_wp2
      go_ret
      exact ⟨_, rfl, hN, e1.trans hE⟩

end Go.Proofs.YtjnnodbejnmkmaaDoor
