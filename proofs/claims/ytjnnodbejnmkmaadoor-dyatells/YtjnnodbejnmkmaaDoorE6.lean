/- Walks of package dya: Mul, Cmp. -/
import Derived.Test.YtjnnodbejnmkmaaDoorE5
namespace Go.Proofs.YtjnnodbejnmkmaaDoor
open Go.RowKit

set_option maxHeartbeats 1000000 in
theorem mulD_any (w : World) (va vb : Value) (x y : Dyadic) (P Q P' Q' : Nat) (ha : Dn w va x) (hb : Dn w vb y) (hx : Rg P Q x) (hy : Rg P' Q' y) (h1 : P + Q ≤ 4800) (h2 : P' + Q' ≤ 4800) (T : Tb w) : Calls Tryd.prog 16 #[va, vb] w (RetD w (x * y)) := by
  obtain ⟨A, l, c, z, e, rfl, hN, hc, rfl, _⟩ := ha.parts
  obtain ⟨A', l', c', z', e', rfl, hN', hc', rfl, _⟩ := hb.parts
  clear ha hb
  have lz := hx.lt hc h1
  have lz' := hy.lt hc' h2
  obtain ⟨b1, b2, b3⟩ := hx.canon hc
  obtain ⟨b1', b2', b3'⟩ := hy.canon hc'
  have HM := Lib.hid (fun (w' : World) (v : Value) (hE : Ext w w') (hv : N w' v (z.natAbs * z'.natAbs)) => make_any w' (decide (z < 0) != decide (z' < 0)) v (z.natAbs * z'.natAbs) (e + e') hv ((lz.mul lz').mono (by omega)) (by omega) (T.ext hE))
  rw [sg_mul, ← dy_mul] at HM
  obtain ⟨n1, hn1⟩ : ∃ n1, n1 = decide (z < 0) := ⟨_, rfl⟩
  obtain ⟨n2, hn2⟩ : ∃ n2, n2 = decide (z' < 0) := ⟨_, rfl⟩
  rw [← hn1, ← hn2] at HM ⊢
  have he : -10000 ≤ e ∧ e ≤ 10000 := by omega
  have he' : -10000 ≤ e' ∧ e' ≤ 10000 := by omega
  clear hn1 hn2 hc hc' b3 b3' T
  go_enter Tryd.func16, Tryd.ntmps16
  go_wp2
  generalize hW0 : (((w.alloc (.cells #[.bool n1, .slice A l c, .int .i64 e] 24)).alloc (.cells #[.bool n2, .slice A' l' c', .int .i64 e'] 24)).alloc (.cells #[.bool false, .slice none 0 0, .int .i64 0] 24)) = W0
  have B1 : Box W0 w.heap.size (.bool n1) (.slice A l c) (.int .i64 e) := by rw [← hW0]; exact Box.at (((Ext.refl _).alloc _).alloc _) rfl
  have B2 : Box W0 (w.heap.size + 1) (.bool n2) (.slice A' l' c') (.int .i64 e') := by rw [← hW0]; exact Box.at ((Ext.refl _).alloc _) (by simp)
  have Z0 : Zd W0 (w.heap.size + 1 + 1) := by rw [← hW0]; exact Zd.at (Ext.refl _) (by simp)
  have E0 : Ext w W0 := by rw [← hW0]; exact (((Ext.refl w).alloc _).alloc _).alloc _
  obtain ⟨p0, p1, p2⟩ := id B1
  obtain ⟨q0, q1, q2⟩ := id B2
  have M1 := hN.ext E0
  have M2 := hN'.ext E0
  clear hW0 hN hN'
  have hne1 : w.heap.size ≠ w.heap.size + 1 + 1 := by omega
  have hne2 : w.heap.size + 1 ≠ w.heap.size + 1 + 1 := by omega
  have hw1 : IntKind.i64.wrap (e + e') = e + e' := IntWalk.i64_in _ (by omega)
  go_region_held3 (fun w' => w'.cell? ⟨w.heap.size, 0, none⟩ = some (.bool n1) ∧ w'.cell? ⟨w.heap.size, 1, none⟩ = some (.slice A l c) ∧ w'.cell? ⟨w.heap.size, 2, none⟩ = some (.int .i64 e) ∧ w'.cell? ⟨w.heap.size + 1, 0, none⟩ = some (.bool n2) ∧ w'.cell? ⟨w.heap.size + 1, 1, none⟩ = some (.slice A' l' c') ∧ w'.cell? ⟨w.heap.size + 1, 2, none⟩ = some (.int .i64 e'))
    (first | (with_reducible exact six_set (B1.ext F2) (B2.ext F2) hne1 hne2) | (with_reducible exact six (B1.ext F2) (B2.ext F2)) | (with_reducible exact six (B1.ext F1) (B2.ext F1)) | go_keep)
    (first | ((go_at_call 47); (refine (mul_any _ _ _ z.natAbs z'.natAbs (M1.ext (Ext.refl W0).drew) (M2.ext (Ext.refl W0).drew) (lz.mono (by omega)) (lz'.mono (by omega))).mono ?_); (rintro _ w1 ⟨v1, rfl, m1, e1⟩); (have F1 : Ext W0 w1 := (Ext.refl W0).drew.trans e1)) | ((go_at_call 30); (refine (HM.out _ _ (E0.trans F1) m1).mono ?_); (rintro _ w2 ⟨v2, rfl, m2, e2⟩); (obtain ⟨bb, A2, l2, c2, ee2, rfl⟩ := m2.form); (have F2 : Ext W0 w2 := F1.trans e2); (have Z2 := Z0.ext F2); (have g0 := Z2.c0); (have g1 := Z2.c1); (have g2 := Z2.c2); (have f0 := Z2.f 0); (have f1 := Z2.f 1); (have f2 := Z2.f 2)))
  go_wp2
  obtain ⟨k0, k1, k2, hD⟩ := Z2.done m2 (E0.trans F2) (by omega)
  exact bodyPost_ret (by simp [results, Tryd.results16, go_sem, k0, k1, k2]) rfl hD


theorem cmp_natD (w : World) (va vb : Value) (m n : Nat) (ha : N w va m) (hb : N w vb n) : Calls Tryd.prog 62 #[va, vb] w (RetQ w (.int .i64 (cmpI m n))) := by
  obtain ⟨a, ra, na, ea⟩ := ha
  obtain ⟨b, rb, nb, eb⟩ := hb
  rw [← ea, ← eb]
  exact cmp_rows w va vb a b ra rb na nb
theorem callSizes : ∀ (x : Array Value) (W : World), (callFunc 70 x).run Tryd.prog W = .ok (.enter 70 x) W := fun _ _ => by kernel_rfl
theorem sizes1_any (w : World) (va vb : Value) (m n : Nat) (e : Int) (ha : N w va m) (hb : N w vb n) : Calls Tryd.prog 70 #[va, vb, .int .i64 e] w (RetQ w (.int .i64 (cmpI (m : Int) (n : Int)))) := by
  have HC := Lib.hid (cmp_natD w va vb m n ha hb)
  clear ha hb
  go_enter Tryd.func70, Tryd.ntmps70
  go_wp2_with fail
  refine HC.out.mono ?_
  rintro _ w1 ⟨rfl, q1⟩
  go_wp2
  go_ret
  exact ⟨rfl, q1⟩

set_option maxHeartbeats 1000000 in
theorem commonI_any (w : World) (A A' : Option Addr) (l c l' c' K K' p q : Nat) (e e' mn : Int) (n1 n2 : Bool) (hN : N w (.slice A l c) p) (hN' : N w (.slice A' l' c') q)
    (lz : Lt 400 p) (lz' : Lt 400 q) (HK : K ≤ 20000) (HK2 : K' ≤ 20000) (hK : e - mn = (K : Int)) (hK' : e' - mn = (K' : Int)) (hmn : min e e' = mn) :
    Calls Tryd.prog 69 #[.agg #[.bool n1, .slice A l c, .int .i64 e], .agg #[.bool n2, .slice A' l' c', .int .i64 e'], .func (.func 70) #[] #[]] w (RetE w (.int .i64 (cmpI ((p * 2 ^ K : Nat) : Int) ((q * 2 ^ K' : Nat) : Int)))) := by
  have hcall := callSizes
  have HO1 := Lib.hid (fun (w' : World) (hE : Ext w w') => nover_any w' A l c p K n1 e mn (hN.ext hE) lz hK HK)
  have HO2 := Lib.hid (fun (w' : World) (hE : Ext w w') => nover_any w' A' l' c' q K' n2 e' mn (hN'.ext hE) lz' hK' HK2)
  clear hN hN' hK hK' HK HK2 lz lz'
  generalize p * 2 ^ K = a at *
  generalize q * 2 ^ K' = b at *
  have HA := Lib.hid (fun (w' : World) (v u : Value) (h : N w' v a) (k : N w' u b) => sizes1_any w' v u a b mn h k)
  generalize cmpI (a : Int) (b : Int) = t at *
  go_enter Tryd.func69, Tryd.ntmps69
  go_wp2
  generalize hW0 : ((w.alloc (.cells #[.bool n1, .slice A l c, .int .i64 e] 48)).alloc (.cells #[.bool n2, .slice A' l' c', .int .i64 e'] 48)) = W0
  have B1 : Box W0 w.heap.size (.bool n1) (.slice A l c) (.int .i64 e) := by rw [← hW0]; exact Box.at ((Ext.refl _).alloc _) rfl
  have B2 : Box W0 (w.heap.size + 1) (.bool n2) (.slice A' l' c') (.int .i64 e') := by rw [← hW0]; exact Box.at (Ext.refl _) (by simp)
  have E0 : Ext w W0 := by rw [← hW0]; exact ((Ext.refl w).alloc _).alloc _
  obtain ⟨p0, p1, p2⟩ := id B1
  obtain ⟨q0, q1, q2⟩ := id B2
  clear hW0 hmn
  go_region_held3 (fun w' => w'.cell? ⟨w.heap.size, 0, none⟩ = some (.bool n1) ∧ w'.cell? ⟨w.heap.size, 1, none⟩ = some (.slice A l c) ∧ w'.cell? ⟨w.heap.size, 2, none⟩ = some (.int .i64 e) ∧ w'.cell? ⟨w.heap.size + 1, 0, none⟩ = some (.bool n2) ∧ w'.cell? ⟨w.heap.size + 1, 1, none⟩ = some (.slice A' l' c') ∧ w'.cell? ⟨w.heap.size + 1, 2, none⟩ = some (.int .i64 e'))
    (first | (with_reducible exact six (B1.ext F3) (B2.ext F3)) | (with_reducible exact six (B1.ext F2) (B2.ext F2)) | (with_reducible exact six (B1.ext F1) (B2.ext F1)) | go_keep)
    (first | ((have hF := F2); (go_at_call 70); (refine (HA.out _ _ _ (m1.ext e2) m2).mono ?_); (rintro _ w3 ⟨rfl, e3⟩); (have F3 : Ext W0 w3 := F2.trans e3.ext); (clear hcall HA HO1 HO2 m1 m2 e1 e2)) | ((have hF := F1); (go_at_call 57); (refine (HO2.out _ (E0.trans F1)).mono ?_); (rintro _ w2 ⟨v2, rfl, m2, e2⟩); (have F2 : Ext W0 w2 := F1.trans e2)) | ((go_at_call 57); (refine (HO1.out _ (E0.trans (Ext.refl W0).drew)).mono ?_); (rintro _ w1 ⟨v1, rfl, m1, e1⟩); (have F1 : Ext W0 w1 := (Ext.refl W0).drew.trans e1)))
  go_wp2
  go_ret
  exact ⟨rfl, E0.trans F3⟩

end Go.Proofs.YtjnnodbejnmkmaaDoor
