/- Walks of package dya: Cut, Right. -/
import Derived.Test.YtjnnodbejnmkmaaDoorE8
namespace Go.Proofs.YtjnnodbejnmkmaaDoor
open Go.RowKit

set_option maxHeartbeats 1000000 in
theorem without_true (w : World) (A : Option Addr) (l c p k : Nat) (e : Int) (nb : Bool) (hN : N w (.slice A l c) p) (lp : Lt 200 p) (he : -100000 ≤ e ∧ e ≤ 100000) (hk : k ≤ 100000) (T : Tb w) :
    Calls Tryd.prog 52 #[.agg #[.bool nb, .slice A l c, .int .i64 e], .int .i64 k, .bool true] w (RetD w (dy (sg nb (p / 2 ^ k + 1)) (e + k))) := by
  have lq : Lt 200 (p / 2 ^ k) := lp.of_le (Nat.div_le_self _ _)
  have HM : Hid (∀ (w' : World) (v : Value) (j : Int), j = e + k → Ext w w' → N w' v (p / 2 ^ k + 1) → Calls Tryd.prog 30 #[.bool nb, v, .int .i64 j] w' (RetD w' (dy (sg nb (p / 2 ^ k + 1)) (e + k)))) := Lib.hid (fun w' v j hj hE h => by subst hj; exact make_any w' nb v _ _ h ((lq.add (Lt.of_bits (by decide) : Lt 200 1)).mono (by omega)) (by omega) (T.ext hE))
  clear T
  go_enter Tryd.func52, Tryd.ntmps52
  go_wp2_with fail
  refine (shr_nat _ _ p k (by omega) (hN.ext (((Ext.refl w).alloc _).alloc _)) (lp.mono (by omega))).mono ?_
  rintro _ w1 ⟨v1, rfl, m1, e1⟩
  have B1 : Box w1 w.heap.size (.bool nb) (.slice A l c) (.int .i64 e) := Box.at (((Ext.refl _).alloc _).trans e1) rfl
  have Z1 : Zd w1 (w.heap.size + 1) := Zd.at e1 (by simp)
  have E1 : Ext w w1 := (((Ext.refl w).alloc _).alloc _).trans e1
  clear e1 hN
  go_wp2_with fail
  refine (of_any _ _ (by omega)).mono ?_
  rintro _ w2 ⟨v2, rfl, m2, e2⟩
  go_wp2_with fail
  refine (add_any _ _ _ (p / 2 ^ k) 1 (m1.ext e2) m2 (lq.mono (by omega)) (Lt.of_bits (by decide))).mono ?_
  rintro _ w3 ⟨v3, rfl, m3, e3⟩
  have F3 := e2.trans e3
  obtain ⟨p0, p1, p2⟩ := B1.ext F3
  go_wp2_with fail
  refine (HM.out _ _ _ (by omega) (E1.trans F3) m3).mono ?_
  rintro _ w4 ⟨v4, rfl, m4, e4⟩
  obtain ⟨bb, A2, l2, c2, ee2, rfl⟩ := m4.form
  have Z2 := Z1.ext (F3.trans e4)
  have g0 := Z2.c0; have g1 := Z2.c1; have g2 := Z2.c2; have f0 := Z2.f 0; have f1 := Z2.f 1; have f2 := Z2.f 2
  go_wp2
  obtain ⟨k0, k1, k2, hD⟩ := Z2.done m4 (E1.trans (F3.trans e4)) (by omega)
  exact bodyPost_ret (by simp [results, Tryd.results52, go_sem, k0, k1, k2]) rfl hD

set_option maxHeartbeats 1000000 in
theorem without_false (w : World) (A : Option Addr) (l c p k : Nat) (e : Int) (nb : Bool) (hN : N w (.slice A l c) p) (lp : Lt 200 p) (he : -100000 ≤ e ∧ e ≤ 100000) (hk : k ≤ 100000) (T : Tb w) :
    Calls Tryd.prog 52 #[.agg #[.bool nb, .slice A l c, .int .i64 e], .int .i64 k, .bool false] w (RetD w (dy (sg nb (p / 2 ^ k + 0)) (e + k))) := by
  have lq : Lt 200 (p / 2 ^ k) := lp.of_le (Nat.div_le_self _ _)
  have HM : Hid (∀ (w' : World) (v : Value) (j : Int), j = e + k → Ext w w' → N w' v (p / 2 ^ k + 0) → Calls Tryd.prog 30 #[.bool nb, v, .int .i64 j] w' (RetD w' (dy (sg nb (p / 2 ^ k + 0)) (e + k)))) := Lib.hid (fun w' v j hj hE h => by subst hj; exact make_any w' nb v _ _ h (lq.mono (by omega)) (by omega) (T.ext hE))
  clear T
  go_enter Tryd.func52, Tryd.ntmps52
  go_wp2_with fail
  refine (shr_nat _ _ p k (by omega) (hN.ext (((Ext.refl w).alloc _).alloc _)) (lp.mono (by omega))).mono ?_
  rintro _ w1 ⟨v1, rfl, m1, e1⟩
  have B1 : Box w1 w.heap.size (.bool nb) (.slice A l c) (.int .i64 e) := Box.at (((Ext.refl _).alloc _).trans e1) rfl
  have Z1 : Zd w1 (w.heap.size + 1) := Zd.at e1 (by simp)
  have E1 : Ext w w1 := (((Ext.refl w).alloc _).alloc _).trans e1
  clear e1 hN
  obtain ⟨w3, hw3⟩ : ∃ w3, w3 = w1 := ⟨_, rfl⟩
  have F3 : Ext w1 w3 := by rw [hw3]; exact Ext.refl _
  have m3 : N w3 v1 (p / 2 ^ k + 0) := by rw [hw3]; exact m1
  subst hw3
  obtain ⟨p0, p1, p2⟩ := B1.ext F3
  go_wp2_with fail
  refine (HM.out _ _ _ (by omega) (E1.trans F3) m3).mono ?_
  rintro _ w4 ⟨v4, rfl, m4, e4⟩
  obtain ⟨bb, A2, l2, c2, ee2, rfl⟩ := m4.form
  have Z2 := Z1.ext (F3.trans e4)
  have g0 := Z2.c0; have g1 := Z2.c1; have g2 := Z2.c2; have f0 := Z2.f 0; have f1 := Z2.f 1; have f2 := Z2.f 2
  go_wp2
  obtain ⟨k0, k1, k2, hD⟩ := Z2.done m4 (E1.trans (F3.trans e4)) (by omega)
  exact bodyPost_ret (by simp [results, Tryd.results52, go_sem, k0, k1, k2]) rfl hD

theorem without_any (w : World) (A : Option Addr) (l c p k : Nat) (e : Int) (nb up : Bool) (hN : N w (.slice A l c) p) (lp : Lt 200 p) (he : -100000 ≤ e ∧ e ≤ 100000) (hk : k ≤ 100000) (T : Tb w) :
    Calls Tryd.prog 52 #[.agg #[.bool nb, .slice A l c, .int .i64 e], .int .i64 k, .bool (up != nb)] w (RetD w (dy (sg nb (p / 2 ^ k + if up = nb then 0 else 1)) (e + k))) := by
  by_cases h : up = nb
  · subst h
    rw [if_pos rfl, bne_self_eq_false]
    exact without_false w A l c p k e up hN lp he hk T
  · have hb : (up != nb) = true := by simpa using h
    rw [if_neg h, hb]
    exact without_true w A l c p k e nb hN lp he hk T

set_option maxHeartbeats 1000000 in
theorem cutD_any (w : World) (v : Value) (z e : Int) (n P Q : Nat) (up : Bool) (h : Dn w v (dy z e)) (hc : Canon z e) (hr : Rg P Q (dy z e)) (hb : P + Q ≤ 4800) (hn : n ≤ 100000) (T : Tb w) : Calls Tryd.prog 26 #[v, .int .i64 n, .bool up] w (RetD w (cutD z e n up)) := by
  have hD := h
  obtain ⟨A, l, c, z', e', rfl, hN, hc', hd, hl, _⟩ := h.parts
  obtain ⟨rfl, rfl⟩ := hc.uniq hc' hd
  have lp := hr.lt hc hb
  obtain ⟨b1, b2, _⟩ := hr.canon hc
  have hbl := lp.bits
  have HO := Lib.hid (fun (w' : World) (hE : Ext w w') => ownD_any w' _ _ P Q (hD.ext hE) hr (by omega) (T.ext hE))
  have HL := Lib.hid (fun (w' : World) (hE : Ext w w') => nlength_any w' A l c z.natAbs (decide (z < 0)) e (hN.ext hE) (lp.mono (by omega)))
  have HU : Hid (∀ (w' : World) (k : Nat) (j : Int), Ext w w' → k ≤ 100000 → j = (k : Int) → Calls Tryd.prog 52 #[.agg #[.bool (decide (z < 0)), .slice A l c, .int .i64 e], .int .i64 j, .bool (up != decide (z < 0))] w' (RetD w' (dy (sg (decide (z < 0)) (z.natAbs / 2 ^ k + if up = decide (z < 0) then 0 else 1)) (e + k)))) :=
    Lib.hid (fun w' k j hE hk hj => by subst hj; exact without_any w' A l c z.natAbs k e _ up (hN.ext hE) lp (by omega) hk (T.ext hE))
  clear T hD h hd hc hc' hN hl hr
  unfold cutD
  by_cases hk : bl z.natAbs ≤ n
  · rw [if_pos hk]
    clear HU
    generalize hdd : dy z e = dd at *
    clear hdd
    generalize decide (z < 0) = nb at *
    generalize z.natAbs = p at *
    have hle : (bl p : Int) - (n : Int) ≤ 0 := by omega
    go_enter Tryd.func26, Tryd.ntmps26
    go_wp2_with fail
    refine (HL.out _ ((((Ext.refl w).alloc _).alloc _).alloc _)).mono ?_
    rintro _ w1 ⟨rfl, e1⟩
    have E1 : Ext w w1 := ((((Ext.refl w).alloc _).alloc _).alloc _).trans e1
    have C1 : Box w1 (w.heap.size + 1 + 1) (.bool nb) (.slice A l c) (.int .i64 e) := Box.at e1 (by simp)
    have Z1 : Zd w1 (w.heap.size + 1) := Zd.at (((Ext.refl _).alloc _).trans e1) (by simp)
    obtain ⟨a0, a1, a2⟩ := id C1
    go_wp2_with fail
    refine (HO.out _ E1).mono ?_
    rintro _ w2 ⟨v2, rfl, m2, e2⟩
    obtain ⟨bb, A2, l2, c2, ee2, rfl⟩ := m2.form
    have Z2 := Z1.ext e2
    have g0 := Z2.c0; have g1 := Z2.c1; have g2 := Z2.c2; have f0 := Z2.f 0; have f1 := Z2.f 1; have f2 := Z2.f 2
    go_wp2
    obtain ⟨k0, k1, k2, hD⟩ := Z2.done m2 (E1.trans e2) (by omega)
    exact bodyPost_ret (by simp [results, Tryd.results26, go_sem, k0, k1, k2]) rfl hD
  · rw [if_neg hk]
    replace HU := Lib.hid (fun (w' : World) (j : Int) (hE : Ext w w') => HU.out w' (bl z.natAbs - n) j hE (by omega))
    clear HO
    generalize hdd : dy (sg (decide (z < 0)) (z.natAbs / 2 ^ (bl z.natAbs - n) + if up = decide (z < 0) then 0 else 1)) (e + (bl z.natAbs - n : Nat)) = dd at *
    clear hdd
    generalize decide (z < 0) = nb at *
    generalize z.natAbs = p at *
    have hle : ¬ (bl p : Int) - (n : Int) ≤ 0 := by omega
    go_enter Tryd.func26, Tryd.ntmps26
    go_wp2_with fail
    refine (HL.out _ ((((Ext.refl w).alloc _).alloc _).alloc _)).mono ?_
    rintro _ w1 ⟨rfl, e1⟩
    have E1 : Ext w w1 := ((((Ext.refl w).alloc _).alloc _).alloc _).trans e1
    have C1 : Box w1 (w.heap.size + 1 + 1) (.bool nb) (.slice A l c) (.int .i64 e) := Box.at e1 (by simp)
    have B1 : Box w1 w.heap.size (.bool nb) (.slice A l c) (.int .i64 e) := Box.at ((((Ext.refl _).alloc _).alloc _).trans e1) rfl
    have Z1 : Zd w1 (w.heap.size + 1) := Zd.at (((Ext.refl _).alloc _).trans e1) (by simp)
    obtain ⟨a0, a1, a2⟩ := id C1
    have b0 := B1.c0
    go_wp2_with fail
    refine (HU.out _ _ E1 (by omega)).mono ?_
    rintro _ w2 ⟨v2, rfl, m2, e2⟩
    obtain ⟨bb, A2, l2, c2, ee2, rfl⟩ := m2.form
    have Z2 := Z1.ext e2
    have g0 := Z2.c0; have g1 := Z2.c1; have g2 := Z2.c2; have f0 := Z2.f 0; have f1 := Z2.f 1; have f2 := Z2.f 2
    go_wp2
    obtain ⟨k0, k1, k2, hD⟩ := Z2.done m2 (E1.trans e2) (by omega)
    exact bodyPost_ret (by simp [results, Tryd.results26, go_sem, k0, k1, k2]) rfl hD

theorem i64_and1 (x : Int) : bits .and .i64 x 1 = x % 2 := by
  show IntKind.i64.wrap ((BitVec.ofInt 64 x &&& BitVec.ofInt 64 (1 : Int)).toNat : Int) = _
  have e : (BitVec.ofInt 64 (1 : Int)).toNat = 2 ^ 1 - 1 := by decide
  rw [BitVec.toNat_and, e, Nat.and_two_pow_sub_one_eq_mod, BitVec.toNat_ofInt, IntKind.wrap_i64]
  omega
set_option maxHeartbeats 1000000 in
theorem rightD_any (w : World) (nb : Bool) (v : Value) (xs : List Int) (e : Int) (h : Row w v xs) (he : -9223372036854775808 ≤ e ∧ e ≤ 9223372036854775807) :
    Calls Tryd.prog 10 #[.agg #[.bool nb, v, .int .i64 e]] w (RetE w (.bool (rightD nb xs e))) := by
  have hr := right_any (w.alloc (.cells #[.bool nb, v, .int .i64 e] 24)) v xs (h.ext ((Ext.refl w).alloc _))
  have hlen := h.len_le
  obtain ⟨A, c, rfl, h1, h2, h3⟩ := id h
  by_cases h60 : xs.length ≤ 60
  · have hl2 : ¬ ((60 : Int) < (xs.length : Int)) := by omega
    cases hb : rightB xs
    · have hD : rightD nb xs e = false := by unfold rightD; rw [hb]; rfl
      rw [hD]
      rw [hb] at hr
      have HR := Lib.hid hr
      clear hr hb hD h h3
      go_enter Tryd.func10, Tryd.ntmps10
      go_wp2_with fail
      refine HR.out.mono ?_
      rintro _ _ ⟨rfl, rfl⟩
      go_wp2
      go_ret
      exact ⟨rfl, (Ext.refl w).alloc _⟩
    · have hlim := (right_iff.1 hb).1.1
      rw [hb] at hr
      have HR := Lib.hid hr
      by_cases h0 : xs.length = 0
      · have hD : rightD nb xs e = (!nb && decide (e = 0)) := by unfold rightD; rw [hb, decide_eq_true h60, if_pos h0]; rfl
        rw [hD]
        rw [h0] at HR ⊢
        clear hr hb hD h h3 hlim
        cases nb
        · by_cases he0 : e = 0
          · subst he0
            rw [decide_eq_true rfl]
            go_enter Tryd.func10, Tryd.ntmps10
            go_wp2_with fail
            refine HR.out.mono ?_
            rintro _ _ ⟨rfl, rfl⟩
            go_wp2
            go_ret
            exact ⟨rfl, (Ext.refl w).alloc _⟩
          · rw [decide_eq_false he0]
            have he1 : (e == 0) = false := beq_eq_false_iff_ne.2 he0
            go_enter Tryd.func10, Tryd.ntmps10
            go_wp2_with fail
            refine HR.out.mono ?_
            rintro _ _ ⟨rfl, rfl⟩
            go_wp2
            go_ret
            exact ⟨rfl, (Ext.refl w).alloc _⟩
        · skip
          go_enter Tryd.func10, Tryd.ntmps10
          go_wp2_with fail
          refine HR.out.mono ?_
          rintro _ _ ⟨rfl, rfl⟩
          go_wp2
          go_ret
          exact ⟨rfl, (Ext.refl w).alloc _⟩
      · have hD : rightD nb xs e = (decide (nth xs 0 % 2 = 1) && decide (-6000 ≤ e) && decide (e ≤ 6000)) := by unfold rightD; rw [hb, decide_eq_true h60, if_neg h0]; rfl
        rw [hD]
        obtain ⟨b, off, rfl, hbk, hcells⟩ := h3 (by omega)
        have hc0 : (w.alloc (.cells #[.bool nb, .slice (some ⟨b, off, none⟩) xs.length c, .int .i64 e] 24)).cell? ⟨b, off, none⟩ = some (.int .i64 (nth xs 0)) := by
          rw [((Ext.refl w).alloc _).cell hbk]; exact hcells 0 (by omega)
        have hl0 : ((xs.length : Int) == 0) = false := beq_eq_false_iff_ne.2 (by omega)
        have hl1 : (0 : Int) < (xs.length : Int) := by omega
        have hand := i64_and1 (nth xs 0)
        generalize nth xs 0 = x at *
        clear hr hb hD h h3 hlim hcells
        by_cases hp : x % 2 = 1
        · rw [decide_eq_true hp]
          rw [hp] at hand
          by_cases hq : -6000 ≤ e
          · rw [decide_eq_true hq]
            go_enter Tryd.func10, Tryd.ntmps10
            go_wp2_with fail
            refine HR.out.mono ?_
            rintro _ _ ⟨rfl, rfl⟩
            go_wp2
            go_ret
            exact ⟨rfl, (Ext.refl w).alloc _⟩
          · rw [decide_eq_false hq]
            go_enter Tryd.func10, Tryd.ntmps10
            go_wp2_with fail
            refine HR.out.mono ?_
            rintro _ _ ⟨rfl, rfl⟩
            go_wp2
            go_ret
            exact ⟨rfl, (Ext.refl w).alloc _⟩
        · rw [decide_eq_false hp]
          rw [show x % 2 = 0 by omega] at hand
          go_enter Tryd.func10, Tryd.ntmps10
          go_wp2_with fail
          refine HR.out.mono ?_
          rintro _ _ ⟨rfl, rfl⟩
          go_wp2
          go_ret
          exact ⟨rfl, (Ext.refl w).alloc _⟩
  · have hD : rightD nb xs e = false := by unfold rightD; rw [decide_eq_false h60]; simp
    rw [hD]
    have hl2 : ((60 : Int) < (xs.length : Int)) := by omega
    clear hr hD h h3
    go_enter Tryd.func10, Tryd.ntmps10
    go_wp2
    go_ret
    exact ⟨rfl, (Ext.refl w).alloc _⟩

end Go.Proofs.YtjnnodbejnmkmaaDoor
