/- Walks of the document's answers on dyadic numbers: Cmp, Cut. -/
import Derived.Test.YtjnnodbejnmkmaaDoorD5
namespace Go.Proofs.YtjnnodbejnmkmaaDoor
open Go.RowKit

theorem cmpD_sub (x y : Dyadic) : cmpD (x + -y) 0 = cmpD x y := by
  have h1 : x + -y < 0 ↔ x < y := by constructor <;> intro h <;> grind
  have h2 : x + -y = 0 ↔ x = y := by constructor <;> intro h <;> grind
  unfold cmpD
  simp only [h1, h2]

set_option maxHeartbeats 1000000 in
theorem rcmpD_any (w : World) (va vb : Value) (x y : Dyadic) (P Q : Nat) (ha : Dn w va x) (hb : Dn w vb y) (hx : Rg P Q x) (hy : Rg P Q y) (h1 : P + Q ≤ 2400) : Calls Tryd.prog 19 #[va, vb] w (RetE w (.int .i64 (cmpD x y))) := by
  have hs := cmpD_sub x y
  obtain ⟨n1, A, l, c, e, rfl⟩ := ha.form
  obtain ⟨n2, A', l', c', e', rfl⟩ := hb.form
  obtain ⟨t, ht⟩ : ∃ t, cmpD x y = t := ⟨_, rfl⟩
  rw [ht] at hs ⊢
  have HS := Lib.hid (fun (w' : World) (v : Value) (h : Dn w' v (x + -y)) => hs ▸ rsign_any w' v _ h)
  have HA := Lib.hid (fun (w' : World) (v u : Value) (h : Dn w' v x) (k : Dn w' u (-y)) => raddD_any w' v u x (-y) P Q h k hx hy.neg h1)
  clear hs ht
  go_enter Tryd.func19, Tryd.ntmps19
  go_wp2
  generalize hW0 : ((w.alloc (.cells #[.bool n1, .slice A l c, .int .i64 e] 24)).alloc (.cells #[.bool n2, .slice A' l' c', .int .i64 e'] 24)) = W0
  have B1 : Box W0 w.heap.size (.bool n1) (.slice A l c) (.int .i64 e) := by rw [← hW0]; exact Box.at ((Ext.refl _).alloc _) rfl
  have B2 : Box W0 (w.heap.size + 1) (.bool n2) (.slice A' l' c') (.int .i64 e') := by rw [← hW0]; exact Box.at (Ext.refl _) (by simp)
  have E0 : Ext w W0 := by rw [← hW0]; exact ((Ext.refl w).alloc _).alloc _
  obtain ⟨p0, p1, p2⟩ := id B1
  obtain ⟨q0, q1, q2⟩ := id B2
  replace ha := ha.ext E0
  replace hb := hb.ext E0
  clear hW0
  go_region_held3 (fun w' => w'.cell? ⟨w.heap.size, 0, none⟩ = some (.bool n1) ∧ w'.cell? ⟨w.heap.size, 1, none⟩ = some (.slice A l c) ∧ w'.cell? ⟨w.heap.size, 2, none⟩ = some (.int .i64 e) ∧ w'.cell? ⟨w.heap.size + 1, 0, none⟩ = some (.bool n2) ∧ w'.cell? ⟨w.heap.size + 1, 1, none⟩ = some (.slice A' l' c') ∧ w'.cell? ⟨w.heap.size + 1, 2, none⟩ = some (.int .i64 e'))
    (first | (exact six (B1.ext F3) (B2.ext F3)) | (exact six (B1.ext F2) (B2.ext F2)) | (exact six (B1.ext F1) (B2.ext F1)) | go_keep)
    (first | ((go_at_call 23); (refine (rflip_any _ _ y (hb.ext (Ext.refl W0).drew)).mono ?_); (rintro _ w1 ⟨v1, rfl, m1, e1⟩); (have F1 : Ext W0 w1 := (Ext.refl W0).drew.trans e1)) | ((go_at_call 15); (refine (HA.out _ _ _ (ha.ext F1) m1).mono ?_); (rintro _ w2 ⟨v2, rfl, m2, e2⟩); (have F2 : Ext W0 w2 := F1.trans e2)) | ((go_at_call 21); (refine (HS.out _ _ m2).mono ?_); (rintro _ w3 ⟨rfl, e3⟩); (have F3 : Ext W0 w3 := F2.trans e3)))
  go_wp2
  go_ret
  exact ⟨rfl, E0.trans F3⟩

/-- z times two to the e, cut to n bits. -/
def cutD (z e : Int) (n : Nat) (up : Bool) : Dyadic :=
  if bl z.natAbs ≤ n then dy z e
  else dy (sg (decide (z < 0)) (z.natAbs / 2 ^ (bl z.natAbs - n) + if up = decide (z < 0) then 0 else 1)) (e + (bl z.natAbs - n : Nat))

set_option maxHeartbeats 1000000 in
theorem rcut_main (w : World) (A : Option Addr) (l c p n k : Nat) (e : Int) (nb up : Bool) (hN : N w (.slice A l c) p) (lp : Lt 200 p) (he : -100000 ≤ e ∧ e ≤ 100000) (hk : bl p = n + k) (hk0 : 0 < k) :
    Calls Tryd.prog 27 #[.agg #[.bool nb, .slice A l c, .int .i64 e], .int .i64 n, .bool up] w (RetD w (dy (sg nb (p / 2 ^ k + if up = nb then 0 else 1)) (e + k))) := by
  have hbl := lp.bits
  have lq : Lt 200 (p / 2 ^ k) := lp.of_le (Nat.div_le_self _ _)
  have hshr : ∀ (w' : World) (v : Value) (j : Int), j = (k : Int) → N w' v p → Calls Tryd.prog 53 #[v, .int .i64 j] w' (RetN w' (p / 2 ^ k)) := fun w' v j hj h => by
    subst hj; exact rshr_K w' v p k (by omega) h (lp.mono (by omega))
  by_cases hu : up = nb
  · rw [if_pos hu]
    subst hu
    have HM : Hid (∀ (w' : World) (v : Value) (j : Int), j = e + k → N w' v (p / 2 ^ k + 0) → Calls Tryd.prog 31 #[.bool up, v, .int .i64 j] w' (RetD w' (dy (sg up (p / 2 ^ k + 0)) (e + k)))) := Lib.hid (fun w' v j hj h => by subst hj; exact rmake_any w' up v (p / 2 ^ k + 0) _ h ((lq).mono (by omega)) (by omega))
    go_enter Tryd.func27, Tryd.ntmps27
    go_wp2_with fail
    refine (rlen_any _ _ p (hN.ext (((Ext.refl w).alloc _).alloc _)) (lp.mono (by omega))).mono ?_
    rintro _ _ ⟨rfl, rfl⟩
    go_wp2_with fail
    refine (hshr _ _ _ (by omega) (hN.ext (((Ext.refl w).alloc _).alloc _))).mono ?_
    rintro _ w1 ⟨v1, rfl, m1, e1⟩
    have B1 : Box w1 w.heap.size (.bool up) (.slice A l c) (.int .i64 e) := Box.at (((Ext.refl _).alloc _).trans e1) rfl
    have Z1 : Zd w1 (w.heap.size + 1) := Zd.at e1 (by simp)
    have E1 : Ext w w1 := (((Ext.refl w).alloc _).alloc _).trans e1
    obtain ⟨p0, p1, p2⟩ := id B1
    obtain ⟨w2, hw2⟩ : ∃ w2, w2 = w1 := ⟨_, rfl⟩
    have F2 : Ext w1 w2 := by rw [hw2]; exact Ext.refl _
    have m2 : N w2 v1 (p / 2 ^ k + 0) := by rw [hw2]; exact m1
    subst hw2
    go_wp2_with fail
    refine (HM.out _ _ _ (by omega) m2).mono ?_
    rintro _ w3 ⟨v3, rfl, m3, e3⟩
    obtain ⟨bb, A2, l2, c2, ee2, rfl⟩ := m3.form
    have Z3 := Z1.ext (F2.trans e3)
    have g0 := Z3.c0
    have g1 := Z3.c1
    have g2 := Z3.c2
    have f0 := Z3.f 0
    have f1 := Z3.f 1
    have f2 := Z3.f 2
    go_wp2
    obtain ⟨k0, k1, k2, hD⟩ := Z3.done m3 (E1.trans (F2.trans e3)) (by omega)
    exact bodyPost_ret (by simp [results, Tryd.results27, go_sem, k0, k1, k2]) rfl hD
  · rw [if_neg hu]
    have hud : (up == nb) = false := beq_eq_false_iff_ne.2 hu
    have HM : Hid (∀ (w' : World) (v : Value) (j : Int), j = e + k → N w' v (p / 2 ^ k + 1) → Calls Tryd.prog 31 #[.bool nb, v, .int .i64 j] w' (RetD w' (dy (sg nb (p / 2 ^ k + 1)) (e + k)))) := Lib.hid (fun w' v j hj h => by subst hj; exact rmake_any w' nb v (p / 2 ^ k + 1) _ h ((lq.add (Lt.of_bits (by decide) : Lt 200 1)).mono (by omega)) (by omega))
    go_enter Tryd.func27, Tryd.ntmps27
    go_wp2_with fail
    refine (rlen_any _ _ p (hN.ext (((Ext.refl w).alloc _).alloc _)) (lp.mono (by omega))).mono ?_
    rintro _ _ ⟨rfl, rfl⟩
    go_wp2_with fail
    refine (hshr _ _ _ (by omega) (hN.ext (((Ext.refl w).alloc _).alloc _))).mono ?_
    rintro _ w1 ⟨v1, rfl, m1, e1⟩
    have B1 : Box w1 w.heap.size (.bool nb) (.slice A l c) (.int .i64 e) := Box.at (((Ext.refl _).alloc _).trans e1) rfl
    have Z1 : Zd w1 (w.heap.size + 1) := Zd.at e1 (by simp)
    have E1 : Ext w w1 := (((Ext.refl w).alloc _).alloc _).trans e1
    obtain ⟨p0, p1, p2⟩ := id B1
    go_wp2_with fail
    refine (radd_any _ _ _ (p / 2 ^ k) 1 (m1.ext ((Ext.refl w1).alloc _)) (one_nat w1 _) (lq.mono (by omega)) (Lt.of_bits (by decide))).mono ?_
    rintro _ w2 ⟨v2, rfl, m2, e2⟩
    have F2 : Ext w1 w2 := ((Ext.refl w1).alloc _).trans e2
    obtain ⟨p0', p1', p2'⟩ := B1.ext F2
    go_wp2_with fail
    refine (HM.out _ _ _ (by omega) m2).mono ?_
    rintro _ w3 ⟨v3, rfl, m3, e3⟩
    obtain ⟨bb, A2, l2, c2, ee2, rfl⟩ := m3.form
    have Z3 := Z1.ext (F2.trans e3)
    have g0 := Z3.c0
    have g1 := Z3.c1
    have g2 := Z3.c2
    have f0 := Z3.f 0
    have f1 := Z3.f 1
    have f2 := Z3.f 2
    go_wp2
    obtain ⟨k0, k1, k2, hD⟩ := Z3.done m3 (E1.trans (F2.trans e3)) (by omega)
    exact bodyPost_ret (by simp [results, Tryd.results27, go_sem, k0, k1, k2]) rfl hD

theorem rcut_any (w : World) (v : Value) (z e : Int) (n P Q : Nat) (up : Bool) (h : Dn w v (dy z e)) (hc : Canon z e) (hr : Rg P Q (dy z e)) (hb : P + Q ≤ 4800) (hn : n ≤ 100000) : Calls Tryd.prog 27 #[v, .int .i64 n, .bool up] w (RetD w (cutD z e n up)) := by
  have hD := h
  obtain ⟨A, l, c, z', e', rfl, hN, hc', hd, hl, _⟩ := h.parts
  obtain ⟨rfl, rfl⟩ := hc.uniq hc' hd
  have lp := hr.lt hc hb
  obtain ⟨b1, b2, _⟩ := hr.canon hc
  have hbl := lp.bits
  unfold cutD
  by_cases hk : bl z.natAbs ≤ n
  · rw [if_pos hk]
    have hD1 := hD.ext (((Ext.refl w).alloc (.cells #[.bool (decide (z < 0)), .slice A l c, .int .i64 e] 24)).alloc (.cells #[.bool (decide (z < 0)), .slice A l c, .int .i64 e] 24))
    generalize decide (z < 0) = nb at *
    generalize z.natAbs = p at *
    have hle : (bl p : Int) - (n : Int) ≤ 0 := by omega
    go_enter Tryd.func27, Tryd.ntmps27
    go_wp2_with fail
    refine (rlen_any _ _ p (hN.ext (((Ext.refl w).alloc _).alloc _)) (lp.mono (by omega))).mono ?_
    rintro _ _ ⟨rfl, rfl⟩
    go_wp2
    exact bodyPost_ret (by simp [results, Tryd.results27, go_sem]) rfl ⟨_, rfl, hD1, ((Ext.refl w).alloc _).alloc _⟩
  · rw [if_neg hk]
    exact rcut_main w A l c z.natAbs n (bl z.natAbs - n) e _ up hN lp (by omega) (by omega) (by omega)

end Go.Proofs.YtjnnodbejnmkmaaDoor
