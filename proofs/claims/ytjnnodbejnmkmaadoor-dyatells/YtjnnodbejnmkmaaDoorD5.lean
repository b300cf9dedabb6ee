/- Walks of the document's answers on dyadic numbers: Add. -/
import Derived.Test.YtjnnodbejnmkmaaDoorD4
namespace Go.Proofs.YtjnnodbejnmkmaaDoor
open Go.RowKit

theorem rshl_K (w : World) (v : Value) (m : Nat) (k : Int) (K : Nat) (hk : k = (K : Int)) (hK : K ≤ 20000) (h : N w v m) (hm : Lt 400 m) (hm0 : m ≠ 0) : Calls Tryd.prog 43 #[v, .int .i64 k] w (RetN w (m * 2 ^ K)) := by
  subst hk
  by_cases h0 : K = 0
  · subst h0; rw [Nat.pow_zero, Nat.mul_one]; exact rshl_same w v m _ h hm (.inl (by simp))
  · exact rshl_nat w v m K (by omega) hK h hm hm0
theorem sg_pow (n : Bool) (m K : Nat) : sg n m * 2 ^ K = sg n (m * 2 ^ K) := by
  cases n
  · show (m : Int) * 2 ^ K = ((m * 2 ^ K : Nat) : Int); push_cast; rfl
  · show -(m : Int) * 2 ^ K = -((m * 2 ^ K : Nat) : Int); push_cast; rw [Int.neg_mul]
theorem sg_add (n : Bool) (a b : Nat) : sg n a + sg n b = sg n (a + b) := by cases n <;> simp [sg] <;> omega
theorem sg_sub {n n' : Bool} {a b : Nat} (hn : n ≠ n') (h : b ≤ a) : sg n a + sg n' b = sg n (a - b) := by
  cases n <;> cases n' <;> simp [sg] at hn ⊢ <;> omega
theorem sg_sub' {n n' : Bool} {a b : Nat} (hn : n ≠ n') (h : a ≤ b) : sg n a + sg n' b = sg n' (b - a) := by
  cases n <;> cases n' <;> simp [sg] at hn ⊢ <;> omega
theorem Lt.shl {P Q p K : Nat} (h : p < 2 ^ (P + Q)) (hK : K ≤ P + Q) (hb : P + Q ≤ 2400) : Lt 200 (p * 2 ^ K) := by
  refine Lt.of_bits (Nat.le_trans (bl_of_lt (n := (P + Q) + (P + Q)) ?_) (by omega))
  rw [Nat.pow_add]
  have h1 : 2 ^ K ≤ 2 ^ (P + Q) := Nat.pow_le_pow_right (by omega) hK
  have h2 := Nat.two_pow_pos K
  exact Nat.lt_of_lt_of_le (Nat.mul_lt_mul_of_pos_right h h2) (Nat.mul_le_mul_left _ h1)

set_option maxHeartbeats 1000000 in
/-- Two numbers of one power of two, summed: the walk behind both tests. -/
theorem raddD_main (w : World) (A A' : Option Addr) (l c l' c' K K' p q : Nat) (e e' mn : Int) (n1 n2 : Bool) (hl0 : ((l : Int) == 0) = false) (hl0' : ((l' : Int) == 0) = false) (hN : N w (.slice A l c) p) (hN' : N w (.slice A' l' c') q) (hpz : p ≠ 0) (hpz' : q ≠ 0)
    (lz : Lt 200 p) (lz' : Lt 200 q) (la : Lt 200 (p * 2 ^ K)) (lb : Lt 200 (q * 2 ^ K')) (hbe : -10000 ≤ e ∧ e ≤ 10000) (hbe' : -10000 ≤ e' ∧ e' ≤ 10000) (HK : K ≤ 20000) (HK2 : K' ≤ 20000) (hK : e - mn = (K : Int)) (hK' : e' - mn = (K' : Int)) (hcase : (e' < e ∧ e' = mn) ∨ (e ≤ e' ∧ e = mn)) (d : Dyadic) (hd : d = dy (sg n1 (p * 2 ^ K) + sg n2 (q * 2 ^ K')) mn) :
    Calls Tryd.prog 15 #[.agg #[.bool n1, .slice A l c, .int .i64 e], .agg #[.bool n2, .slice A' l' c', .int .i64 e']] w (RetD w d) := by
  have HKK := Lib.hid hK
  have HKK' := Lib.hid hK'
  have hsh1 : ∀ (w' : World) (v : Value) (k : Int), k = (K : Int) → N w' v p → Calls Tryd.prog 43 #[v, .int .i64 k] w' (RetN w' (p * 2 ^ K)) := fun w' v k hk h => rshl_K w' v p k K hk HK h (lz.mono (by omega)) hpz
  have hsh2 : ∀ (w' : World) (v : Value) (k : Int), k = (K' : Int) → N w' v q → Calls Tryd.prog 43 #[v, .int .i64 k] w' (RetN w' (q * 2 ^ K')) := fun w' v k hk h => rshl_K w' v q k K' hk HK2 h (lz'.mono (by omega)) hpz'
  have hne1 : w.heap.size ≠ w.heap.size + 1 + 1 := by omega
  generalize p * 2 ^ K = a at *
  generalize q * 2 ^ K' = b at *
  have HD := Lib.hid hd
  clear hK hK' hd lz lz' HK HK2 hpz hpz'
  rcases hcase with ⟨hlt, rfl⟩ | ⟨hlt, rfl⟩
  · go_enter Tryd.func15, Tryd.ntmps15
    go_wp2_with fail
    refine (hsh1 _ _ _ (by have := HKK.out; omega) (hN.ext ((((Ext.refl w).alloc _).alloc _).alloc _))).mono ?_
    rintro _ w1 ⟨v1, rfl, m1, e1⟩
    have B2 : Box w1 (w.heap.size + 1) (.bool n2) (.slice A' l' c') (.int .i64 e') := Box.at (((Ext.refl _).alloc _).trans e1) (by simp)
    have q1 := B2.c1
    have q2 := B2.c2
    have F1 := ((((Ext.refl w).alloc _).alloc _).alloc _).trans e1
    go_wp2_with fail
    refine (hsh2 _ _ _ (by have := HKK'.out; omega) (hN'.ext F1)).mono ?_
    rintro _ w2 ⟨v2, rfl, m2, e2⟩
    have B1 : Box w2 w.heap.size (.bool n1) (.slice A l c) (.int .i64 e) := Box.at ((((Ext.refl _).alloc _).alloc _).trans (e1.trans e2)) rfl
    replace B2 := B2.ext e2
    replace m1 := m1.ext e2
    have p0 := B1.c0
    have q0 := B2.c0
    have Z2 : Zd w2 (w.heap.size + 1 + 1) := Zd.at (e1.trans e2) (by simp)
    have E2 : Ext w w2 := F1.trans e2
    clear q1 q2 F1 e1 e2 hN hN' hsh1 hsh2
    by_cases hn : n1 = n2
    · subst hn
      have HM := Lib.hid (fun (w' : World) (v : Value) (hv : N w' v (a + b)) => rmake_any w' n1 v (a + b) e' hv (((la.add lb)).mono (by omega)) (by omega))
      rw [← sg_add, ← HD.out] at HM
      go_wp2
      go_region_held3 (fun w' => w'.cell? ⟨w.heap.size, 0, none⟩ = some (.bool n1)) (first | (exact ((B1.ext F4).set3 hne1).c0) | (exact (B1.ext F4).c0) | (exact (B1.ext F3).c0) | go_keep) (first | ((go_at_call 44); (refine (radd_any _ _ _ a b (m1.ext (Ext.refl w2).drew) (m2.ext (Ext.refl w2).drew) (la.mono (by omega)) (lb.mono (by omega))).mono ?_); (rintro _ w3 ⟨v3, rfl, m3, e3⟩); (have F3 : Ext w2 w3 := (Ext.refl w2).drew.trans e3)) | ((go_at_call 31); (refine (HM.out _ _ m3).mono ?_); (rintro _ w4 ⟨v4, rfl, m4, e4⟩); (obtain ⟨bb, A2, l2, c2, ee2, rfl⟩ := m4.form); (have F4 : Ext w2 w4 := F3.trans e4); (have Z4 := Z2.ext F4); (have g0 := Z4.c0); (have g1 := Z4.c1); (have g2 := Z4.c2); (have f0 := Z4.f 0); (have f1 := Z4.f 1); (have f2 := Z4.f 2)))
      go_wp2
      obtain ⟨k0, k1, k2, hD⟩ := Z4.done m4 (E2.trans F4) (by omega)
      exact bodyPost_ret (by simp [results, Tryd.results15, go_sem, k0, k1, k2]) rfl hD
    · have hnb : (n1 == n2) = false := beq_eq_false_iff_ne.2 hn
      obtain ⟨t, ht⟩ : ∃ t, cmpI (a : Int) (b : Int) = t := ⟨_, rfl⟩
      have hcmp := rcmp_nat w2 _ _ a b m1 m2
      rw [ht] at hcmp
      have HC := Lib.hid hcmp
      clear hcmp
      by_cases hle : b ≤ a
      · have ht0 : 0 ≤ t := by rw [← ht]; unfold cmpI; split <;> (try split) <;> omega
        have HM := Lib.hid (fun (w' : World) (v : Value) (hv : N w' v (a - b)) => rmake_any w' n1 v (a - b) e' hv ((la.of_le (Nat.sub_le a b)).mono (by omega)) (by omega))
        rw [← sg_sub hn hle, ← HD.out] at HM
        clear ht
        go_wp2_with fail
        refine HC.out.mono ?_
        rintro _ w3 ⟨rfl, q3⟩
        go_wp2_with fail
        refine (rsub_yes w3 v1 v2 a b (m1.ext q3.ext) (m2.ext q3.ext) (la.mono (by omega)) hle).mono ?_
        rintro _ w4 ⟨v4, rfl, m4, e4⟩
        have F4 := q3.ext.trans e4
        have p4 := (B1.ext F4).c0
        go_wp2_with fail
        refine (HM.out w4 v4 m4).mono ?_
        rintro _ w5 ⟨v5, rfl, m5, e5⟩
        obtain ⟨bb, A2, l2, c2, ee2, rfl⟩ := m5.form
        have F5 := F4.trans e5
        have Z5 := Z2.ext F5
        have g0 := Z5.c0
        have g1 := Z5.c1
        have g2 := Z5.c2
        have f0 := Z5.f 0
        have f1 := Z5.f 1
        have f2 := Z5.f 2
        go_wp2
        obtain ⟨k0, k1, k2, hD⟩ := Z5.done m5 (E2.trans F5) (by omega)
        exact bodyPost_ret (by simp [results, Tryd.results15, go_sem, k0, k1, k2]) rfl hD
      · have ht0 : t < 0 := by rw [← ht]; unfold cmpI; split <;> (try split) <;> omega
        have HM := Lib.hid (fun (w' : World) (v : Value) (hv : N w' v (b - a)) => rmake_any w' n2 v (b - a) e' hv ((lb.of_le (Nat.sub_le b a)).mono (by omega)) (by omega))
        rw [← sg_sub' hn (by omega), ← HD.out] at HM
        clear ht
        go_wp2_with fail
        refine HC.out.mono ?_
        rintro _ w3 ⟨rfl, q3⟩
        go_wp2_with fail
        refine (rsub_yes w3 v2 v1 b a (m2.ext q3.ext) (m1.ext q3.ext) (lb.mono (by omega)) (by omega)).mono ?_
        rintro _ w4 ⟨v4, rfl, m4, e4⟩
        have F4 := q3.ext.trans e4
        have p4 := (B2.ext F4).c0
        go_wp2_with fail
        refine (HM.out w4 v4 m4).mono ?_
        rintro _ w5 ⟨v5, rfl, m5, e5⟩
        obtain ⟨bb, A2, l2, c2, ee2, rfl⟩ := m5.form
        have F5 := F4.trans e5
        have Z5 := Z2.ext F5
        have g0 := Z5.c0
        have g1 := Z5.c1
        have g2 := Z5.c2
        have f0 := Z5.f 0
        have f1 := Z5.f 1
        have f2 := Z5.f 2
        go_wp2
        obtain ⟨k0, k1, k2, hD⟩ := Z5.done m5 (E2.trans F5) (by omega)
        exact bodyPost_ret (by simp [results, Tryd.results15, go_sem, k0, k1, k2]) rfl hD
  · go_enter Tryd.func15, Tryd.ntmps15
    go_wp2_with fail
    refine (hsh1 _ _ _ (by have := HKK.out; omega) (hN.ext ((((Ext.refl w).alloc _).alloc _).alloc _))).mono ?_
    rintro _ w1 ⟨v1, rfl, m1, e1⟩
    have B2 : Box w1 (w.heap.size + 1) (.bool n2) (.slice A' l' c') (.int .i64 e') := Box.at (((Ext.refl _).alloc _).trans e1) (by simp)
    have q1 := B2.c1
    have q2 := B2.c2
    have F1 := ((((Ext.refl w).alloc _).alloc _).alloc _).trans e1
    go_wp2_with fail
    refine (hsh2 _ _ _ (by have := HKK'.out; omega) (hN'.ext F1)).mono ?_
    rintro _ w2 ⟨v2, rfl, m2, e2⟩
    have B1 : Box w2 w.heap.size (.bool n1) (.slice A l c) (.int .i64 e) := Box.at ((((Ext.refl _).alloc _).alloc _).trans (e1.trans e2)) rfl
    replace B2 := B2.ext e2
    replace m1 := m1.ext e2
    have p0 := B1.c0
    have q0 := B2.c0
    have Z2 : Zd w2 (w.heap.size + 1 + 1) := Zd.at (e1.trans e2) (by simp)
    have E2 : Ext w w2 := F1.trans e2
    clear q1 q2 F1 e1 e2 hN hN' hsh1 hsh2
    by_cases hn : n1 = n2
    · subst hn
      have HM := Lib.hid (fun (w' : World) (v : Value) (hv : N w' v (a + b)) => rmake_any w' n1 v (a + b) e hv (((la.add lb)).mono (by omega)) (by omega))
      rw [← sg_add, ← HD.out] at HM
      go_wp2
      go_region_held3 (fun w' => w'.cell? ⟨w.heap.size, 0, none⟩ = some (.bool n1)) (first | (exact ((B1.ext F4).set3 hne1).c0) | (exact (B1.ext F4).c0) | (exact (B1.ext F3).c0) | go_keep) (first | ((go_at_call 44); (refine (radd_any _ _ _ a b (m1.ext (Ext.refl w2).drew) (m2.ext (Ext.refl w2).drew) (la.mono (by omega)) (lb.mono (by omega))).mono ?_); (rintro _ w3 ⟨v3, rfl, m3, e3⟩); (have F3 : Ext w2 w3 := (Ext.refl w2).drew.trans e3)) | ((go_at_call 31); (refine (HM.out _ _ m3).mono ?_); (rintro _ w4 ⟨v4, rfl, m4, e4⟩); (obtain ⟨bb, A2, l2, c2, ee2, rfl⟩ := m4.form); (have F4 : Ext w2 w4 := F3.trans e4); (have Z4 := Z2.ext F4); (have g0 := Z4.c0); (have g1 := Z4.c1); (have g2 := Z4.c2); (have f0 := Z4.f 0); (have f1 := Z4.f 1); (have f2 := Z4.f 2)))
      go_wp2
      obtain ⟨k0, k1, k2, hD⟩ := Z4.done m4 (E2.trans F4) (by omega)
      exact bodyPost_ret (by simp [results, Tryd.results15, go_sem, k0, k1, k2]) rfl hD
    · have hnb : (n1 == n2) = false := beq_eq_false_iff_ne.2 hn
      obtain ⟨t, ht⟩ : ∃ t, cmpI (a : Int) (b : Int) = t := ⟨_, rfl⟩
      have hcmp := rcmp_nat w2 _ _ a b m1 m2
      rw [ht] at hcmp
      have HC := Lib.hid hcmp
      clear hcmp
      by_cases hle : b ≤ a
      · have ht0 : 0 ≤ t := by rw [← ht]; unfold cmpI; split <;> (try split) <;> omega
        have HM := Lib.hid (fun (w' : World) (v : Value) (hv : N w' v (a - b)) => rmake_any w' n1 v (a - b) e hv ((la.of_le (Nat.sub_le a b)).mono (by omega)) (by omega))
        rw [← sg_sub hn hle, ← HD.out] at HM
        clear ht
        go_wp2_with fail
        refine HC.out.mono ?_
        rintro _ w3 ⟨rfl, q3⟩
        go_wp2_with fail
        refine (rsub_yes w3 v1 v2 a b (m1.ext q3.ext) (m2.ext q3.ext) (la.mono (by omega)) hle).mono ?_
        rintro _ w4 ⟨v4, rfl, m4, e4⟩
        have F4 := q3.ext.trans e4
        have p4 := (B1.ext F4).c0
        go_wp2_with fail
        refine (HM.out w4 v4 m4).mono ?_
        rintro _ w5 ⟨v5, rfl, m5, e5⟩
        obtain ⟨bb, A2, l2, c2, ee2, rfl⟩ := m5.form
        have F5 := F4.trans e5
        have Z5 := Z2.ext F5
        have g0 := Z5.c0
        have g1 := Z5.c1
        have g2 := Z5.c2
        have f0 := Z5.f 0
        have f1 := Z5.f 1
        have f2 := Z5.f 2
        go_wp2
        obtain ⟨k0, k1, k2, hD⟩ := Z5.done m5 (E2.trans F5) (by omega)
        exact bodyPost_ret (by simp [results, Tryd.results15, go_sem, k0, k1, k2]) rfl hD
      · have ht0 : t < 0 := by rw [← ht]; unfold cmpI; split <;> (try split) <;> omega
        have HM := Lib.hid (fun (w' : World) (v : Value) (hv : N w' v (b - a)) => rmake_any w' n2 v (b - a) e hv ((lb.of_le (Nat.sub_le b a)).mono (by omega)) (by omega))
        rw [← sg_sub' hn (by omega), ← HD.out] at HM
        clear ht
        go_wp2_with fail
        refine HC.out.mono ?_
        rintro _ w3 ⟨rfl, q3⟩
        go_wp2_with fail
        refine (rsub_yes w3 v2 v1 b a (m2.ext q3.ext) (m1.ext q3.ext) (lb.mono (by omega)) (by omega)).mono ?_
        rintro _ w4 ⟨v4, rfl, m4, e4⟩
        have F4 := q3.ext.trans e4
        have p4 := (B2.ext F4).c0
        go_wp2_with fail
        refine (HM.out w4 v4 m4).mono ?_
        rintro _ w5 ⟨v5, rfl, m5, e5⟩
        obtain ⟨bb, A2, l2, c2, ee2, rfl⟩ := m5.form
        have F5 := F4.trans e5
        have Z5 := Z2.ext F5
        have g0 := Z5.c0
        have g1 := Z5.c1
        have g2 := Z5.c2
        have f0 := Z5.f 0
        have f1 := Z5.f 1
        have f2 := Z5.f 2
        go_wp2
        obtain ⟨k0, k1, k2, hD⟩ := Z5.done m5 (E2.trans F5) (by omega)
        exact bodyPost_ret (by simp [results, Tryd.results15, go_sem, k0, k1, k2]) rfl hD

set_option maxHeartbeats 1000000 in
theorem raddD_any (w : World) (va vb : Value) (x y : Dyadic) (P Q : Nat) (ha : Dn w va x) (hb : Dn w vb y) (hx : Rg P Q x) (hy : Rg P Q y) (h1 : P + Q ≤ 2400) : Calls Tryd.prog 15 #[va, vb] w (RetD w (x + y)) := by
  obtain ⟨A, l, c, z, e, rfl, hN, hc, rfl, hl, _⟩ := ha.parts
  obtain ⟨A', l', c', z', e', rfl, hN', hc', rfl, hl', _⟩ := hb.parts
  by_cases hz : z = 0
  · obtain rfl : l = 0 := hl.2 hz
    have hD := hb.ext ((((Ext.refl w).alloc (.cells #[.bool (decide (z < 0)), .slice A 0 c, .int .i64 e] 24)).alloc (.cells #[.bool (decide (z' < 0)), .slice A' l' c', .int .i64 e'] 24)).alloc (.cells #[.bool (decide (z' < 0)), .slice A' l' c', .int .i64 e'] 24))
    have hs : dy z e + dy z' e' = dy z' e' := by rw [hz, dy_zero]; exact Dyadic.zero_add _
    rw [hs]
    generalize decide (z < 0) = n1 at *
    generalize decide (z' < 0) = n2 at *
    clear ha hb hN hN' hc hc' hl hl' hs hz
    go_enter Tryd.func15, Tryd.ntmps15
    go_wp2
    exact bodyPost_ret (by simp [results, Tryd.results15, go_sem]) rfl ⟨_, rfl, hD, (((Ext.refl w).alloc _).alloc _).alloc _⟩
  by_cases hz' : z' = 0
  · obtain rfl : l' = 0 := hl'.2 hz'
    have hl0 : ((l : Int) == 0) = false := beq_eq_false_iff_ne.2 (by omega)
    have hD := ha.ext ((((Ext.refl w).alloc (.cells #[.bool (decide (z < 0)), .slice A l c, .int .i64 e] 24)).alloc (.cells #[.bool (decide (z' < 0)), .slice A' 0 c', .int .i64 e'] 24)).alloc (.cells #[.bool (decide (z < 0)), .slice A l c, .int .i64 e] 24))
    have hs : dy z e + dy z' e' = dy z e := by rw [hz', dy_zero]; exact Dyadic.add_zero _
    rw [hs]
    generalize decide (z < 0) = n1 at *
    generalize decide (z' < 0) = n2 at *
    clear ha hb hN hN' hc hc' hl hl' hs hz
    go_enter Tryd.func15, Tryd.ntmps15
    go_wp2
    exact bodyPost_ret (by simp [results, Tryd.results15, go_sem]) rfl ⟨_, rfl, hD, (((Ext.refl w).alloc _).alloc _).alloc _⟩
  have hl0 : ((l : Int) == 0) = false := beq_eq_false_iff_ne.2 (by omega)
  have hl0' : ((l' : Int) == 0) = false := beq_eq_false_iff_ne.2 (by omega)
  obtain ⟨b1, b2, b3⟩ := hx.canon hc
  obtain ⟨b1', b2', b3'⟩ := hy.canon hc'
  obtain ⟨mn, hmn⟩ : ∃ mn, mn = min e e' := ⟨_, rfl⟩
  obtain ⟨K, hK⟩ : ∃ K : Nat, e - mn = (K : Int) := Int.eq_ofNat_of_zero_le (by omega)
  obtain ⟨K', hK'⟩ : ∃ K' : Nat, e' - mn = (K' : Int) := Int.eq_ofNat_of_zero_le (by omega)
  have hpz : z.natAbs ≠ 0 := by omega
  have hpz' : z'.natAbs ≠ 0 := by omega
  have ez : dy z e = dy (sg (decide (z < 0)) (z.natAbs * 2 ^ K)) mn := by
    rw [← sg_pow, sg_of, dy_up]; congr 1; omega
  have ez' : dy z' e' = dy (sg (decide (z' < 0)) (z'.natAbs * 2 ^ K')) mn := by
    rw [← sg_pow, sg_of, dy_up]; congr 1; omega
  have lz := Lt.shl (K := 0) b3 (by omega) h1
  have lz' := Lt.shl (K := 0) b3' (by omega) h1
  have la := Lt.shl (K := K) b3 (by omega) h1
  have lb := Lt.shl (K := K') b3' (by omega) h1
  rw [Nat.pow_zero, Nat.mul_one] at lz lz'
  rw [ez, ez', dy_add]
  generalize decide (z < 0) = n1 at *
  generalize decide (z' < 0) = n2 at *
  have hbm : -10000 ≤ mn ∧ mn ≤ 10000 := by omega
  have hbe : -10000 ≤ e ∧ e ≤ 10000 := by omega
  have hbe' : -10000 ≤ e' ∧ e' ≤ 10000 := by omega
  have HK : K ≤ 20000 := by omega
  have HK2 : K' ≤ 20000 := by omega
  generalize z.natAbs = p at *
  generalize z'.natAbs = q at *
  exact raddD_main w A A' l c l' c' K K' p q e e' mn n1 n2 hl0 hl0' hN hN' hpz hpz' lz lz' la lb hbe hbe' HK HK2 hK hK' (by omega) _ rfl

end Go.Proofs.YtjnnodbejnmkmaaDoor
