/- Walks of the document's answers on dyadic numbers: Same, Of. -/
import Derived.Test.YtjnnodbejnmkmaaDoorD2
namespace Go.Proofs.YtjnnodbejnmkmaaDoor
open Go.RowKit

theorem rsameD_any (w : World) (va vb : Value) (x y : Dyadic) (ha : Dn w va x) (hb : Dn w vb y) : Calls Tryd.prog 13 #[va, vb] w (RetE w (.bool (decide (x = y)))) := by
  obtain ⟨A, l, c, z, e, rfl, hN, hc, rfl, _⟩ := ha.parts
  obtain ⟨A', l', c', z', e', rfl, hN', hc', rfl, _⟩ := hb.parts
  clear ha hb
  obtain ⟨n1, hn1⟩ : ∃ n1, n1 = decide (z < 0) := ⟨_, rfl⟩
  obtain ⟨n2, hn2⟩ : ∃ n2, n2 = decide (z' < 0) := ⟨_, rfl⟩
  rw [← hn1, ← hn2]
  by_cases h1 : n1 = n2
  · by_cases h2 : e = e'
    · have hz : decide (dy z e = dy z' e') = decide (z.natAbs = z'.natAbs) := by
        apply decide_eq_decide.2
        constructor
        · intro h; rw [(hc.uniq hc' h).1]
        · intro h
          have : z < 0 ↔ z' < 0 := by rw [hn1, hn2] at h1; simpa using h1
          have : z = z' := by omega
          rw [this, h2]
      rw [hz]
      have HS := Lib.hid (fun (w' : World) (hE : Ext w w') => same_nat w' _ _ z.natAbs z'.natAbs (hN.ext hE) (hN'.ext hE))
      subst h1 h2
      clear hz hn1 hn2 hc hc' hN hN'
      go_enter Tryd.func13, Tryd.ntmps13
      go_wp2_with (go_at_call 36; refine (HS.out _ (((Ext.refl w).alloc _).alloc _)).mono ?_; rintro e w2 ⟨rfl, q2⟩)
      go_ret
      exact ⟨rfl, (((Ext.refl w).alloc _).alloc _).trans q2.ext⟩
    · have hz : decide (dy z e = dy z' e') = false := decide_eq_false (fun h => h2 (hc.uniq hc' h).2)
      rw [hz]
      have h3 : (e == e') = false := beq_eq_false_iff_ne.2 h2
      subst h1
      clear hz hn1 hn2 hc hc' hN hN'
      go_enter Tryd.func13, Tryd.ntmps13
      go_wp2
      go_ret
      exact ⟨rfl, ((Ext.refl w).alloc _).alloc _⟩
  · have hz : decide (dy z e = dy z' e') = false := decide_eq_false (fun h => h1 (by rw [hn1, hn2, (hc.uniq hc' h).1]))
    rw [hz]
    have h3 : (n1 == n2) = false := beq_eq_false_iff_ne.2 h1
    clear hz hn1 hn2 hc hc' hN hN'
    go_enter Tryd.func13, Tryd.ntmps13
    go_wp2
    go_ret
    exact ⟨rfl, ((Ext.refl w).alloc _).alloc _⟩
theorem rsameD_eq (w : World) (va vb : Value) (x : Dyadic) (ha : Dn w va x) (hb : Dn w vb x) : Calls Tryd.prog 13 #[va, vb] w (RetE w (.bool true)) := by
  have h := rsameD_any w va vb x x ha hb
  rw [decide_eq_true rfl] at h
  exact h

theorem rofD_any (w : World) (n : Int) (hn : -4611686018427387904 ≤ n ∧ n ≤ 4611686018427387904) : Calls Tryd.prog 29 #[.int .i64 n] w (RetD w (dy n 0)) := by
  have hlt : ∀ k : Int, k ≤ 4611686018427387904 → Lt 400 k.toNat := fun k hk => Lt.of_bits (Nat.le_trans (bl_of_lt (n := 63) (by omega)) (by omega))
  by_cases h0 : n < 0
  · have HM := Lib.hid (fun (w' : World) (v : Value) (hN : N w' v (-n).toNat) => rmake_any w' true v (-n).toNat 0 hN (hlt _ (by omega)) (by omega))
    rw [show sg true (-n).toNat = n by simp [sg]; omega] at HM
    go_enter Tryd.func29, Tryd.ntmps29
    go_wp2_with (go_at_call 33; refine (rof_any _ _ (by omega)).mono ?_; rintro e w1 ⟨v1, rfl, n1, e1⟩)
    go_wp2_with (go_at_call 31; refine (HM.out _ _ n1).mono ?_; rintro e w2 ⟨v2, rfl, n2, e2⟩; obtain ⟨b2, A2, l2, c2, ee2, rfl⟩ := n2.form; have Z2 : Zd w2 w.heap.size := Zd.at (e1.trans e2) rfl; have g0 := Z2.c0; have g1 := Z2.c1; have g2 := Z2.c2; have f0 := Z2.f 0; have f1 := Z2.f 1; have f2 := Z2.f 2)
    obtain ⟨k0, k1, k2, hD⟩ := Z2.done n2 (((Ext.refl w).alloc _).trans (e1.trans e2)) (by omega)
    exact bodyPost_ret (by simp [results, Tryd.results29, go_sem, k0, k1, k2]) rfl hD
  · have HM := Lib.hid (fun (w' : World) (v : Value) (hN : N w' v n.toNat) => rmake_any w' false v n.toNat 0 hN (hlt _ (by omega)) (by omega))
    rw [show sg false n.toNat = n by simp [sg]; omega] at HM
    go_enter Tryd.func29, Tryd.ntmps29
    go_wp2_with (go_at_call 33; refine (rof_any _ _ (by omega)).mono ?_; rintro e w1 ⟨v1, rfl, n1, e1⟩)
    go_wp2_with (go_at_call 31; refine (HM.out _ _ n1).mono ?_; rintro e w2 ⟨v2, rfl, n2, e2⟩; obtain ⟨b2, A2, l2, c2, ee2, rfl⟩ := n2.form; have Z2 : Zd w2 w.heap.size := Zd.at (e1.trans e2) rfl; have g0 := Z2.c0; have g1 := Z2.c1; have g2 := Z2.c2; have f0 := Z2.f 0; have f1 := Z2.f 1; have f2 := Z2.f 2)
    obtain ⟨k0, k1, k2, hD⟩ := Z2.done n2 (((Ext.refl w).alloc _).trans (e1.trans e2)) (by omega)
    exact bodyPost_ret (by simp [results, Tryd.results29, go_sem, k0, k1, k2]) rfl hD

end Go.Proofs.YtjnnodbejnmkmaaDoor
