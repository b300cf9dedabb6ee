/- Walks of package dya: Add. -/
import Derived.Test.YtjnnodbejnmkmaaDoorE4
import Derived.Deep.Cut
namespace Go.Proofs.YtjnnodbejnmkmaaDoor
open Go.RowKit

set_option maxHeartbeats 1000000 in
theorem addD_main (w : World) (A A' : Option Addr) (l c l' c' : Nat) (e e' : Int) (n1 n2 : Bool) (s1 s2 : Int) (x y r : Dyadic)
    (hs1 : ∀ w', Ext w w' → Calls Tryd.prog 37 #[.agg #[.bool n1, .slice A l c, .int .i64 e]] w' (RetE w' (.int .i64 s1)))
    (hs2 : ∀ w', Ext w w' → Calls Tryd.prog 37 #[.agg #[.bool n2, .slice A' l' c', .int .i64 e']] w' (RetE w' (.int .i64 s2)))
    (ho1 : ∀ w', Ext w w' → Calls Tryd.prog 38 #[.agg #[.bool n1, .slice A l c, .int .i64 e]] w' (RetD w' x))
    (ho2 : ∀ w', Ext w w' → Calls Tryd.prog 38 #[.agg #[.bool n2, .slice A' l' c', .int .i64 e']] w' (RetD w' y))
    (hc : s1 ≠ 0 → s2 ≠ 0 → ∀ w' pa pb, Ext w w' → w'.cell? ⟨pa, 0, none⟩ = some (.bool n1) → w'.cell? ⟨pb, 0, none⟩ = some (.bool n2) → Calls Tryd.prog 39 #[.agg #[.bool n1, .slice A l c, .int .i64 e], .agg #[.bool n2, .slice A' l' c', .int .i64 e'], .func (.func 40) #[] #[.pointer (some ⟨pa, 0, none⟩), .pointer (some ⟨pb, 0, none⟩)]] w' (RetD w' r))
    (d : Dyadic) (h1 : s1 = 0 → d = y) (h2 : s1 ≠ 0 → s2 = 0 → d = x) (h3 : s1 ≠ 0 → s2 ≠ 0 → d = r) :
    Calls Tryd.prog 14 #[.agg #[.bool n1, .slice A l c, .int .i64 e], .agg #[.bool n2, .slice A' l' c', .int .i64 e']] w (RetD w d) := by
  have hmf := mkf
  have HS1 := Lib.hid hs1
  have HS2 := Lib.hid hs2
  have HO1 := Lib.hid ho1
  have HO2 := Lib.hid ho2
  have HC := Lib.hid hc
  have H1 := Lib.hid h1
  have H2 := Lib.hid h2
  have H3 := Lib.hid h3
  clear hs1 hs2 ho1 ho2 hc h1 h2 h3
  go_enter Tryd.func14, Tryd.ntmps14
  go_upto_region 1 with fail
  obtain ⟨W0, hW0⟩ : ∃ W0, (((w.alloc (.cells #[.bool n1, .slice A l c, .int .i64 e] 24)).alloc (.cells #[.bool n2, .slice A' l' c', .int .i64 e'] 24)).alloc (.cells #[.bool false, .slice none 0 0, .int .i64 0] 24)) = W0 := ⟨_, rfl⟩
  have B1 : Box W0 w.heap.size (.bool n1) (.slice A l c) (.int .i64 e) := by rw [← hW0]; exact Box.at (((Ext.refl _).alloc _).alloc _) rfl
  have B2 : Box W0 (w.heap.size + 1) (.bool n2) (.slice A' l' c') (.int .i64 e') := by rw [← hW0]; exact Box.at ((Ext.refl _).alloc _) (by simp)
  have Z0 : Zd W0 (w.heap.size + 1 + 1) := by rw [← hW0]; exact Zd.at (Ext.refl _) (by simp)
  have E0 : Ext w W0 := by rw [← hW0]; exact (((Ext.refl w).alloc _).alloc _).alloc _
  have HW := Lib.hid hW0
  clear hW0
  go_cut [5, 6] from 7 (fun p5 p6 wx => ∃ g h : Nat, p5 = .pointer (some ⟨g, 0, none⟩) ∧ p6 = .pointer (some ⟨h, 0, none⟩) ∧ Box wx g (.bool n1) (.slice A l c) (.int .i64 e) ∧ Box wx h (.bool n2) (.slice A' l' c') (.int .i64 e') ∧ Ext W0 wx)
  case first =>
    clear B1 B2 Z0 E0
    go_region
    all_goals (
      go_wp2_with fail
      go_meet
      case rel => exact ⟨_, _, rfl, rfl, by first | exact Box.at (Ext.refl _).drew (by simp) | exact Box.at ((Ext.refl _).alloc _).drew (by simp), by first | exact Box.at (Ext.refl _).drew (by simp) | exact Box.at ((Ext.refl _).alloc _).drew (by simp), by rw [← HW.out]; exact (((Ext.refl _).alloc _).alloc _).drew⟩)
  case rest =>
    obtain ⟨g, h, rfl, rfl, C1, C2, F0⟩ := hcut
    replace B1 := B1.ext F0
    replace B2 := B2.ext F0
    replace Z0 := Z0.ext F0
    replace E0 := E0.trans F0
    clear HW F0
    obtain ⟨a0, a1, a2⟩ := id C1
    obtain ⟨b0, b1, b2⟩ := id C2
    go_wp2_with fail
    refine (HS1.out _ E0).mono ?_
    rintro _ w1 ⟨rfl, e1⟩
    replace C1 := C1.ext e1
    replace C2 := C2.ext e1
    replace B1 := B1.ext e1
    replace B2 := B2.ext e1
    replace Z0 := Z0.ext e1
    replace E0 := E0.trans e1
    clear a0 a1 a2 b0 b1 b2 e1 HS1
    obtain ⟨a0, a1, a2⟩ := id C1
    obtain ⟨b0, b1, b2⟩ := id C2
    by_cases hz1 : s1 = 0
    · obtain rfl := H1.out hz1
      subst hz1
      go_wp2_with fail
      refine (HO2.out _ E0).mono ?_
      rintro _ w2 ⟨v2, rfl, n2', e2⟩
      obtain ⟨bb, A2, l2, c2, ee2, rfl⟩ := n2'.form
      have Z2 := Z0.ext e2
      have g0 := Z2.c0; have g1 := Z2.c1; have g2 := Z2.c2; have f0 := Z2.f 0; have f1 := Z2.f 1; have f2 := Z2.f 2
      go_wp2
      obtain ⟨k0, k1, k2, hD⟩ := Z2.done n2' (E0.trans e2) (by omega)
      exact bodyPost_ret (by simp [results, Tryd.results14, go_sem, k0, k1, k2]) rfl hD
    · have hz1' : (s1 == 0) = false := beq_eq_false_iff_ne.2 hz1
      go_wp2_with fail
      refine (HS2.out _ E0).mono ?_
      rintro _ w2 ⟨rfl, e2⟩
      replace C1 := C1.ext e2
      replace C2 := C2.ext e2
      replace B1 := B1.ext e2
      replace B2 := B2.ext e2
      replace Z0 := Z0.ext e2
      replace E0 := E0.trans e2
      clear a0 a1 a2 b0 b1 b2 e2 HS2
      obtain ⟨a0, a1, a2⟩ := id C1
      obtain ⟨b0, b1, b2⟩ := id C2
      by_cases hz2 : s2 = 0
      · obtain rfl := H2.out hz1 hz2
        subst hz2
        go_wp2_with fail
        refine (HO1.out _ E0).mono ?_
        rintro _ w2 ⟨v2, rfl, n2', e2⟩
        obtain ⟨bb, A2, l2, c2, ee2, rfl⟩ := n2'.form
        have Z2 := Z0.ext e2
        have g0 := Z2.c0; have g1 := Z2.c1; have g2 := Z2.c2; have f0 := Z2.f 0; have f1 := Z2.f 1; have f2 := Z2.f 2
        go_wp2
        obtain ⟨k0, k1, k2, hD⟩ := Z2.done n2' (E0.trans e2) (by omega)
        exact bodyPost_ret (by simp [results, Tryd.results14, go_sem, k0, k1, k2]) rfl hD
      · obtain rfl := H3.out hz1 hz2
        have hz2' : (s2 == 0) = false := beq_eq_false_iff_ne.2 hz2
        go_wp2_with fail
        refine (HC.out hz1 hz2 _ _ _ E0 B1.c0 B2.c0).mono ?_
        rintro _ w2 ⟨v2, rfl, n2', e2⟩
        obtain ⟨bb, A2, l2, c2, ee2, rfl⟩ := n2'.form
        have Z2 := Z0.ext e2
        have g0 := Z2.c0; have g1 := Z2.c1; have g2 := Z2.c2; have f0 := Z2.f 0; have f1 := Z2.f 1; have f2 := Z2.f 2
        go_wp2
        obtain ⟨k0, k1, k2, hD⟩ := Z2.done n2' (E0.trans e2) (by omega)
        exact bodyPost_ret (by simp [results, Tryd.results14, go_sem, k0, k1, k2]) rfl hD

theorem cmpD_ne {z e : Int} : cmpD (dy z e) 0 ≠ 0 ↔ z ≠ 0 := by
  rw [cmpD_zero]; unfold cmpI; split <;> (try split) <;> omega
theorem addD_any (w : World) (va vb : Value) (x y : Dyadic) (P Q : Nat) (ha : Dn w va x) (hb : Dn w vb y) (hx : Rg P Q x) (hy : Rg P Q y) (h1 : P + Q ≤ 2400) (T : Tb w) : Calls Tryd.prog 14 #[va, vb] w (RetD w (x + y)) := by
  have Sa := fun w' (hE : Ext w w') => nsign_any w' va x (ha.ext hE)
  have Sb := fun w' (hE : Ext w w') => nsign_any w' vb y (hb.ext hE)
  have Oa := fun w' (hE : Ext w w') => ownD_any w' va x P Q (ha.ext hE) hx (by omega) (T.ext hE)
  have Ob := fun w' (hE : Ext w w') => ownD_any w' vb y P Q (hb.ext hE) hy (by omega) (T.ext hE)
  obtain ⟨A, l, c, z, e, rfl, hN, hc, rfl, hl, _⟩ := ha.parts
  obtain ⟨A', l', c', z', e', rfl, hN', hc', rfl, hl', _⟩ := hb.parts
  obtain ⟨b1, b2, b3⟩ := hx.canon hc
  obtain ⟨b1', b2', b3'⟩ := hy.canon hc'
  have lz := hx.lt hc (by omega)
  have lz' := hy.lt hc' (by omega)
  obtain ⟨K, hK⟩ : ∃ K : Nat, e - min e e' = (K : Int) := ⟨(e - min e e').toNat, by omega⟩
  obtain ⟨K', hK'⟩ : ∃ K' : Nat, e' - min e e' = (K' : Int) := ⟨(e' - min e e').toNat, by omega⟩
  have la : Lt 200 (z.natAbs * 2 ^ K) := Lt.shl b3 (by omega) h1
  have lb : Lt 200 (z'.natAbs * 2 ^ K') := Lt.shl b3' (by omega) h1
  refine addD_main w A A' l c l' c' e e' _ _ _ _ _ _ _ Sa Sb Oa Ob
    (fun _ _ w' pa pb hE hp hq => commonD_any w' A A' l c l' c' K K' z.natAbs z'.natAbs pa pb e e' (min e e') _ _ (hN.ext hE) (hN'.ext hE) hp hq lz lz' la lb (by omega) (by omega) (by omega) (by omega) hK hK' rfl (T.ext hE)) (dy z e + dy z' e') (fun h => ?_) (fun h k => ?_) (fun h k => ?_)
  · have h0 : z = 0 := by
      rcases Decidable.em (z = 0) with h0 | h0
      · exact h0
      · exact absurd h (cmpD_ne.2 h0)
    rw [h0, dy_zero]; grind
  · have h0 : z' = 0 := by
      rcases Decidable.em (z' = 0) with h0 | h0
      · exact h0
      · exact absurd k (cmpD_ne.2 h0)
    rw [h0, dy_zero]; grind
  · rw [← sg_pow, ← sg_pow, sg_of, sg_of, ← dy_add, dy_up, dy_up, ← hK, ← hK']
    congr 1 <;> congr 1 <;> omega


end Go.Proofs.YtjnnodbejnmkmaaDoor
