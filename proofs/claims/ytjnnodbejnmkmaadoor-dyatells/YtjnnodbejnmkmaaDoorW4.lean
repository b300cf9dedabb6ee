/- Walks: Int, Sub, Mul, Of. -/
import Derived.Test.YtjnnodbejnmkmaaDoorW3
namespace Go.Proofs.YtjnnodbejnmkmaaDoor
open Go.RowKit

theorem callSub : ∀ (x : Array Value) (W : World), (callFunc 63 x).run Tryd.prog W = .ok (.enter 63 x) W := fun _ _ => by kernel_rfl
theorem callMul : ∀ (x : Array Value) (W : World), (callFunc 66 x).run Tryd.prog W = .ok (.enter 66 x) W := fun _ _ => by kernel_rfl

set_option maxHeartbeats 400000 in
theorem sub1_any (w : World) (ba bb : Nat) (va vb : Value) (a b : List Int) (j : Nat) (hj : j ≤ 9000000000000000000)
    (ca : w.cell? ⟨ba, 0, none⟩ = some va) (cb : w.cell? ⟨bb, 0, none⟩ = some vb) (ra : Row w va a) (rb : Row w vb b)
    (b1 : 0 ≤ nth a j ∧ nth a j < 16777216) (b2 : 0 ≤ nth b j ∧ nth b j < 16777216) :
    Calls Tryd.prog 63 #[.int .i64 j, .pointer (some ⟨ba, 0, none⟩), .pointer (some ⟨bb, 0, none⟩)] w fun e w' =>
      e = .returned (.int .i64 (nth a j - nth b j)) ∧ ∃ q, w' = w.drewN q := by
  obtain ⟨b11, b12⟩ := b1
  obtain ⟨b21, b22⟩ := b2
  obtain ⟨A, c, rfl, h1, h2, h3⟩ := id ra
  obtain ⟨A', c', rfl, h1', h2', h3'⟩ := id rb
  clear h3 h3'
  go_enter Tryd.func63, Tryd.ntmps63
  go_wp2
  have hj0 : (0 : Int) ≤ (j : Int) := by omega
  go_quiet ((go_at_call 60; first | with_reducible exact quiet_left (at_any _ _ _ _ (ra.drewN _) hj0) | with_reducible exact quiet_left (at_any _ _ _ _ (rb.drewN _) hj0)))
  go_wp2
  go_ret
  exact ⟨rfl, _, rfl⟩


set_option maxHeartbeats 400000 in
theorem sub_no (w : World) (va vb : Value) (m n : Nat) (ha : N w va m) (hb : N w vb n) (hlt : m < n) :
    Calls Tryd.prog 42 #[va, vb] w (RetNB w 0 false) := by
  obtain ⟨a, ra, na, ea⟩ := ha
  obtain ⟨b, rb, nb, eb⟩ := hb
  have HC := Lib.hid fun W (e : Ext w W) => cmp_rows W va vb a b (ra.ext e) (rb.ext e) na nb
  have hc : cmpI (val a) (val b) = -1 := cmpI_lt (by omega)
  rw [hc] at HC
  obtain ⟨A, c, rfl, h1, h2, h3⟩ := id ra
  obtain ⟨A', c', rfl, h1', h2', h3'⟩ := id rb
  clear h3 h3' ra rb na nb ea eb hc
  go_enter Tryd.func42, Tryd.ntmps42
  go_wp2_with fail
  refine (HC.out _ (two_ext ..)).mono ?_
  rintro e w1 ⟨rfl, hq⟩
  go_wp2
  go_ret2
  exact ⟨_, rfl, N.zero _ _ _ (by simp [maxLen]), (two_ext ..).trans hq.ext⟩

theorem sub_sums (w w1 w2 : World) (A A' : Option Addr) (a b : List Int) (c c' m n : Nat) (ra : Row w (.slice A a.length c) a) (rb : Row w (.slice A' b.length c') b) (na : NF a) (nb : NF b)
    (ea : val a = m) (eb : val b = n) (hlt : n ≤ m) (lab : b.length ≤ a.length) (la : a.length ≤ 1000000) (ke : Ext w w1)
    (k1 : w1.cell? ⟨w.heap.size, 0, none⟩ = some (.slice A a.length c)) (k2 : w1.cell? ⟨w.heap.size + 1, 0, none⟩ = some (.slice A' b.length c')) (hz : w.heap.size + 1 < w1.heap.size)
    (hmade : Made a.length (w1.alloc (.cells #[.int .i64 0] 61)) w2) :
    Calls Tryd.prog 58 #[.slice (some ⟨w1.heap.size + 1, 0, none⟩) a.length a.length, .func (.func 63) #[] #[.pointer (some ⟨w.heap.size, 0, none⟩), .pointer (some ⟨w.heap.size + 1, 0, none⟩)],
      .func (.func 61) #[.pointer (some ⟨w1.heap.size, 0, none⟩)] #[]] w2 (RetN w (m - n)) := by
  refine box_sums w _ w2 _ _ w.heap.size (w.heap.size + 1) w1.heap.size _ a.length (m - n) _ _ (fun j => nth a j - nth b j) (ke.alloc _) ?_ ?_ (World.cell?_alloc_new ..) (World.frozen?_alloc_new ..) (by omega) (by omega) (by omega) (World.size_alloc ..) hmade la
    (fun j _ => by have := na.1.at j; have := nb.1.at j; omega) ?_ ?_ callSub
    (fun w' j he h1 h2 hj => sub1_any w' _ _ _ _ a b j (by omega) h1 h2 (ra.ext he) (rb.ext he) (na.1.at j) (nb.1.at j))
  · rw [World.cell?_alloc_lt _ _ _ (by show w.heap.size < _; omega)]; exact k1
  · rw [World.cell?_alloc_lt _ _ _ (by show w.heap.size + 1 < _; omega)]; exact k2
  · rw [S_sub, val_S_ge (by omega), val_S_ge (by omega), ea, eb]; omega
  · have h1 := (val_bounds na.1).2
    omega

set_option maxHeartbeats 400000 in
theorem sub_yes (w : World) (va vb : Value) (m n : Nat) (ha : N w va m) (hb : N w vb n) (hm : Lt 400 m) (hlt : n ≤ m) :
    Calls Tryd.prog 42 #[va, vb] w (RetNB w (m - n) true) := by
  obtain ⟨a, ra, na, ea⟩ := ha
  obtain ⟨b, rb, nb, eb⟩ := hb
  have la : a.length ≤ 400 := N.len hm na ea
  have HC := Lib.hid fun W (e : Ext w W) => cmp_rows W va vb a b (ra.ext e) (rb.ext e) na nb
  have hc0 : ¬ cmpI (val a) (val b) < 0 := by
    rcases Nat.lt_or_ge n m with h | h
    · rw [cmpI_gt (by omega)]; omega
    · rw [cmpI_eq (by omega)]; omega
  have lab : b.length ≤ a.length := by
    rcases Nat.lt_or_ge a.length b.length with h | h
    · have := val_short na nb h; omega
    · exact h
  obtain ⟨x, hx⟩ : ∃ x, x = cmpI (val a) (val b) := ⟨_, rfl⟩
  rw [← hx] at HC hc0
  clear hx
  obtain ⟨A, c, rfl, h1, h2, h3⟩ := id ra
  obtain ⟨A', c', rfl, h1', h2', h3'⟩ := id rb
  clear h3 h3'
  have HA := Lib.hid ea
  have HB := Lib.hid eb
  clear ea eb
  go_enter Tryd.func42, Tryd.ntmps42
  go_wp2_with fail
  refine (HC.out _ (two_ext ..)).mono ?_
  rintro e w1 ⟨rfl, hq⟩
  have k1 := (hq.cell _).trans (two_cell0 w #[.slice A a.length c] #[.slice A' b.length c'] 22 22 0)
  have k2 := (hq.cell _).trans (two_cell1 w #[.slice A a.length c] #[.slice A' b.length c'] 22 22 0)
  have ks : w1.heap.size = w.heap.size + 1 + 1 := hq.size.trans (two_size ..)
  have ke := (two_ext ..).trans hq.ext
  simp only [List.getElem?_toArray, List.getElem?_cons_zero] at k1 k2
  have KS := Lib.hid ks
  clear ks hq HC
  have hmf := mkf
  have hz : w.heap.size + 1 < w1.heap.size := by have := KS.out; omega
  have hz0 : w.heap.size < w1.heap.size := by omega
  go_wp2_with (at_make; refine wpList_mk_ints _ rfl _ rfl a.length _ rfl rfl (by omega) ?_; intro w2 hmade)
  refine (sub_sums w w1 w2 A A' a b c c' m n ra rb na nb HA.out HB.out hlt lab (by omega) ke k1 k2 hz hmade).mono ?_
  rintro e w3 ⟨v, rfl, hN, hE⟩
  go_wp2
  go_ret2
  exact ⟨v, rfl, hN, hE⟩

set_option maxHeartbeats 1000000 in
theorem mul1_any (w : World) (ba bb : Nat) (va vb : Value) (a b : List Int) (j : Nat) (hj : j < a.length + b.length)
    (ca : w.cell? ⟨ba, 0, none⟩ = some va) (cb : w.cell? ⟨bb, 0, none⟩ = some vb) (ra : Row w va a) (rb : Row w vb b) (na : NF a) (nb : NF b) (la : a.length ≤ 1000) (lb : b.length ≤ 1000) :
    Calls Tryd.prog 66 #[.int .i64 j, .pointer (some ⟨bb, 0, none⟩), .pointer (some ⟨ba, 0, none⟩)] w fun e w' =>
      e = .returned (.int .i64 (conv a b j)) ∧ ∃ q, w' = w.drewN q := by
  obtain ⟨A, c, rfl, h1, h2, h3⟩ := id ra
  obtain ⟨A', c', rfl, h1', h2', h3'⟩ := id rb
  have H3 := Lib.hid h3
  have H3' := Lib.hid h3'
  have NA := Lib.hid na
  have NB := Lib.hid nb
  clear h3 h3' na nb ra rb
  go_enter Tryd.func66, Tryd.ntmps66
  go_wp2
  go_loopw [5, 6] (fun s i wr => ∃ k : Nat, j + 1 ≤ k + b.length ∧ k ≤ a.length ∧ k ≤ j + 1 ∧ i = .int .i64 k ∧ s = .int .i64 (psum a b j k) ∧ Qt w wr) (fun _ i _ => a.length - (intOf i).toNat)
  case atStart => exact ⟨j + 1 - b.length, by omega, by omega, by omega, by go_num, by rw [psum_lo], Qt.refl _⟩
  case round =>
    obtain ⟨k, hk1, hk2, hk3, rfl, rfl, hq⟩ := hrel
    have ca' := (hq.cell _).trans ca
    have cb' := (hq.cell _).trans cb
    have CA := Lib.hid ca
    have CB := Lib.hid cb
    clear ca cb
    by_cases c1 : k < a.length
    · by_cases c2 : k ≤ j
      · obtain ⟨b1, off1, rfl, hb1, hc1⟩ := H3.out (by omega)
        obtain ⟨b2, off2, rfl, hb2, hc2⟩ := H3'.out (by omega)
        have hcell1 := (hq.cell _).trans (hc1 k c1)
        have hcell2 := (hq.cell _).trans (hc2 (j - k) (by omega))
        have i1 : (0 : Int) ≤ (j : Int) - (k : Int) := by omega
        have i2 : (j : Int) - (k : Int) < (b.length : Int) := by omega
        obtain ⟨s1, s2⟩ := col_bounds NA.out NB.out la j k (by omega)
        obtain ⟨t1, t2⟩ := term_bounds NA.out.1 NB.out.1 j k
        have et : term a b j k = nth a k * nth b (j - k) := by unfold term; rw [if_pos c2]
        rw [et] at t1 t2
        have ep : psum a b j (k + 1) = psum a b j k + nth a k * nth b (j - k) := by rw [psum, et]
        have EP := Lib.hid ep
        clear hc1 hc2 H3 H3' et ep
        go_wp2
        go_quiet (fail)
        go_wp2
        go_roundw
        case rel => exact ⟨k + 1, by omega, by omega, by omega, by go_num, by rw [EP.out], hq.drewN _⟩
        case measure => simp [intOf]; omega
      · have E := Lib.hid (psum_end (a := a) (b := b) (p := j) (k := k) (.inr (by omega)))
        have c3 : ¬ (k : Int) ≤ (j : Int) := by omega
        go_wp2
        go_ret
        obtain ⟨q, rfl⟩ := hq
        exact ⟨ret_int E.out, q, rfl⟩
    · have E := Lib.hid (psum_end (a := a) (b := b) (p := j) (k := k) (.inl (by omega)))
      have c3 : ¬ (k : Int) < (a.length : Int) := by omega
      go_wp2
      go_ret
      obtain ⟨q, rfl⟩ := hq
      exact ⟨ret_int E.out, q, rfl⟩

theorem mul_sums (w w1 : World) (A A' : Option Addr) (a b : List Int) (c c' m n : Nat) (ra : Row w (.slice A a.length c) a) (rb : Row w (.slice A' b.length c') b) (na : NF a) (nb : NF b)
    (ea : val a = m) (eb : val b = n) (la : a.length ≤ 1000) (lb : b.length ≤ 1000)
    (hmade : Made (a.length + b.length) (three w #[.slice A a.length c] #[.slice A' b.length c'] #[.int .i64 0] 22 22 61) w1) :
    Calls Tryd.prog 58 #[.slice (some ⟨w.heap.size + 1 + 1 + 1, 0, none⟩) (a.length + b.length) (a.length + b.length), .func (.func 66) #[] #[.pointer (some ⟨w.heap.size + 1, 0, none⟩), .pointer (some ⟨w.heap.size, 0, none⟩)],
      .func (.func 61) #[.pointer (some ⟨w.heap.size + 1 + 1, 0, none⟩)] #[]] w1 (RetN w (m * n)) := by
  refine box_sums w _ w1 _ _ w.heap.size (w.heap.size + 1) (w.heap.size + 1 + 1) _ (a.length + b.length) (m * n) _ _ (conv a b) (three_ext ..) (three_0 ..) (three_1 ..) (three_2 ..) (three_f2 ..) (by omega) (by omega) (by omega) (three_size ..) hmade (by omega)
    (fun j _ => ?_) ?_ ?_ callMul
    (fun w' j he h1 h2 hj => mul1_any w' _ _ _ _ a b j hj h1 h2 (ra.ext he) (rb.ext he) na nb la lb)
  · rw [← psum_conv a b j a.length (Nat.le_refl _)]
    have := col_bounds na nb la j a.length (Nat.le_refl _)
    omega
  · rw [S_conv a b _ (Nat.le_refl _), ea, eb]; push_cast; rfl
  · have := (Lt.mul ⟨by rw [← ea]; exact (val_bounds na.1).2⟩ ⟨by rw [← eb]; exact (val_bounds nb.1).2⟩ : Lt (a.length + b.length) (m * n))
    exact this.out

set_option maxHeartbeats 400000 in
theorem mul_any (w : World) (va vb : Value) (m n : Nat) (ha : N w va m) (hb : N w vb n) (hm : Lt 400 m) (hn : Lt 400 n) :
    Calls Tryd.prog 47 #[va, vb] w (RetN w (m * n)) := by
  obtain ⟨a, ra, na, ea⟩ := ha
  obtain ⟨b, rb, nb, eb⟩ := hb
  have la : a.length ≤ 400 := N.len hm na ea
  have lb : b.length ≤ 400 := N.len hn nb eb
  obtain ⟨A, c, rfl, h1, h2, h3⟩ := id ra
  obtain ⟨A', c', rfl, h1', h2', h3'⟩ := id rb
  clear h3 h3'
  have HA := Lib.hid ea
  have HB := Lib.hid eb
  clear ea eb
  have hmf := mkf
  go_enter Tryd.func47, Tryd.ntmps47
  go_wp2_with (at_make; refine wpList_mk_ints _ rfl _ rfl (a.length + b.length) _ rfl (by omega) (by omega) ?_; intro w1 hmade)
  refine (mul_sums w w1 A A' a b c c' m n ra rb na nb HA.out HB.out (by omega) (by omega) hmade).mono ?_
  rintro e w2 ⟨v, rfl, hN, hE⟩
  go_wp2
  go_ret
  exact ⟨v, rfl, hN, hE⟩

theorem callOf : ∀ (x : Array Value) (W : World), (callFunc 72 x).run Tryd.prog W = .ok (.enter 72 x) W := fun _ _ => by kernel_rfl
theorem of1_any (w : World) (j : Int) : Calls Tryd.prog 72 #[.int .i64 j] w fun e w' => e = .returned (.int .i64 0) ∧ ∃ q, w' = w.drewN q := by
  go_enter Tryd.func72, Tryd.ntmps72
  go_wp2
  go_ret
  exact ⟨rfl, 0, rfl⟩

theorem of_sums (w w1 : World) (n : Int) (h0 : 0 ≤ n) (h1 : n ≤ 9223372036854775807) (hmade : Made 3 (w.alloc (.cells #[.int .i64 n] 61)) w1) :
    Calls Tryd.prog 58 #[.slice (some ⟨w.heap.size + 1, 0, none⟩) 3 3, .func (.func 72) #[] #[],
      .func (.func 61) #[.pointer (some ⟨w.heap.size, 0, none⟩)] #[]] w1 (RetN w n.toNat) := by
  have key := sums_new _ w1 w.heap.size 3 72 #[] (fun _ => 0) n n.toNat (by omega) hmade (World.cell?_alloc_new ..) (World.frozen?_alloc_new ..)
    (fun j _ => by have := carry_bound_zero (c := n) (M := 9223372036854775807) ⟨h0, h1⟩ j; omega) (by rw [S_zero]; omega) (by simp [bp]; omega) callOf (fun w' j _ _ => of1_any w' j)
  rw [World.size_alloc] at key
  refine key.mono ?_
  rintro e w' ⟨v, rfl, hN, ho⟩
  exact ⟨v, rfl, hN, ((Ext.refl w).alloc _ |>.trans hmade.ext).only ho (fun i hi => by simp at hi; omega)⟩

set_option maxHeartbeats 400000 in
theorem of_any (w : World) (n : Int) (h1 : n ≤ 9223372036854775807) : Calls Tryd.prog 54 #[.int .i64 n] w (RetN w n.toNat) := by
  have hmf := mkf
  have he : (max n 0).toNat = n.toNat := by omega
  have HE := Lib.hid he
  clear he
  go_enter Tryd.func54, Tryd.ntmps54
  go_wp2_with (at_make; refine wpList_mk_ints _ rfl _ rfl 3 _ rfl rfl (by omega) ?_; intro w1 hmade)
  refine (of_sums w w1 (max n 0) (by omega) (by omega) hmade).mono ?_
  rintro e w2 ⟨v, rfl, hN, hE⟩
  rw [HE.out] at hN
  go_wp2
  go_ret
  exact ⟨v, rfl, hN, hE⟩

end Go.Proofs.YtjnnodbejnmkmaaDoor
