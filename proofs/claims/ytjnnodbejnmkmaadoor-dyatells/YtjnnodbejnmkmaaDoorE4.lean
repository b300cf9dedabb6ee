/- Walks of package dya: Add. -/
import Derived.Test.YtjnnodbejnmkmaaDoorE3
namespace Go.Proofs.YtjnnodbejnmkmaaDoor
open Go.RowKit


set_option maxHeartbeats 2000000 in
theorem commonD_any (w : World) (A A' : Option Addr) (l c l' c' K K' p q pa pb : Nat) (e e' mn : Int) (n1 n2 : Bool) (hN : N w (.slice A l c) p) (hN' : N w (.slice A' l' c') q)
    (p0 : w.cell? ⟨pa, 0, none⟩ = some (.bool n1)) (q0 : w.cell? ⟨pb, 0, none⟩ = some (.bool n2))
    (lz : Lt 200 p) (lz' : Lt 200 q) (la : Lt 200 (p * 2 ^ K)) (lb : Lt 200 (q * 2 ^ K')) (hbe : -10000 ≤ e ∧ e ≤ 10000) (hbe' : -10000 ≤ e' ∧ e' ≤ 10000) (HK : K ≤ 20000) (HK2 : K' ≤ 20000) (hK : e - mn = (K : Int)) (hK' : e' - mn = (K' : Int)) (hmn : min e e' = mn) (T : Tb w) :
    Calls Tryd.prog 39 #[.agg #[.bool n1, .slice A l c, .int .i64 e], .agg #[.bool n2, .slice A' l' c', .int .i64 e'], .func (.func 40) #[] #[.pointer (some ⟨pa, 0, none⟩), .pointer (some ⟨pb, 0, none⟩)]] w (RetD w (dy (sg n1 (p * 2 ^ K) + sg n2 (q * 2 ^ K')) mn)) := by
  have hcall := callAddD
  have hm1 : -10000 ≤ mn ∧ mn ≤ 10000 := by omega
  have la0 := World.block_lt_of_cell? w _ p0
  have lb0 := World.block_lt_of_cell? w _ q0
  simp only at la0 lb0
  have HA := Lib.hid (fun (w' : World) (v u : Value) (hE : Ext w w') (h : N w' v (p * 2 ^ K)) (k : N w' u (q * 2 ^ K')) => add1D_any w' v u (p * 2 ^ K) (q * 2 ^ K') pa pb mn n1 n2 h k ((hE.cell (p := ⟨pa, 0, none⟩) la0).trans p0) ((hE.cell (p := ⟨pb, 0, none⟩) lb0).trans q0) la lb (by omega) (T.ext hE))
  have HO1 := Lib.hid (fun (w' : World) (hE : Ext w w') => nover_any w' A l c p K n1 e mn (hN.ext hE) (lz.mono (by omega)) hK HK)
  have HO2 := Lib.hid (fun (w' : World) (hE : Ext w w') => nover_any w' A' l' c' q K' n2 e' mn (hN'.ext hE) (lz'.mono (by omega)) hK' HK2)
  clear T hN hN' p0 q0 la0 lb0 hK hK' la lb
  generalize p * 2 ^ K = a at *
  generalize q * 2 ^ K' = b at *
  go_enter Tryd.func39, Tryd.ntmps39
  go_wp2
  generalize hW0 : (((w.alloc (.cells #[.bool n1, .slice A l c, .int .i64 e] 48)).alloc (.cells #[.bool n2, .slice A' l' c', .int .i64 e'] 48)).alloc (.cells #[.bool false, .slice none 0 0, .int .i64 0] 24)) = W0
  have B1 : Box W0 w.heap.size (.bool n1) (.slice A l c) (.int .i64 e) := by rw [← hW0]; exact Box.at (((Ext.refl _).alloc _).alloc _) rfl
  have B2 : Box W0 (w.heap.size + 1) (.bool n2) (.slice A' l' c') (.int .i64 e') := by rw [← hW0]; exact Box.at ((Ext.refl _).alloc _) (by simp)
  have Z0 : Zd W0 (w.heap.size + 1 + 1) := by rw [← hW0]; exact Zd.at (Ext.refl _) (by simp)
  have E0 : Ext w W0 := by rw [← hW0]; exact (((Ext.refl w).alloc _).alloc _).alloc _
  obtain ⟨p0, p1, p2⟩ := id B1
  obtain ⟨q0, q1, q2⟩ := id B2
  clear hW0 hmn HK HK2 lz lz' hbe hbe'
  have hne1 : w.heap.size ≠ w.heap.size + 1 + 1 := by omega
  have hne2 : w.heap.size + 1 ≠ w.heap.size + 1 + 1 := by omega
  go_region_held3 (fun w' => w'.cell? ⟨w.heap.size, 0, none⟩ = some (.bool n1) ∧ w'.cell? ⟨w.heap.size, 1, none⟩ = some (.slice A l c) ∧ w'.cell? ⟨w.heap.size, 2, none⟩ = some (.int .i64 e) ∧ w'.cell? ⟨w.heap.size + 1, 0, none⟩ = some (.bool n2) ∧ w'.cell? ⟨w.heap.size + 1, 1, none⟩ = some (.slice A' l' c') ∧ w'.cell? ⟨w.heap.size + 1, 2, none⟩ = some (.int .i64 e'))
    (first | (with_reducible exact six_set (B1.ext F3) (B2.ext F3) hne1 hne2) | (with_reducible exact six (B1.ext F3) (B2.ext F3)) | (with_reducible exact six (B1.ext F2) (B2.ext F2)) | (with_reducible exact six (B1.ext F1) (B2.ext F1)) | go_keep)
    (first | ((have hF := F2); (go_at_call 40); (refine (HA.out _ _ _ (E0.trans F2) (m1.ext e2) m2).mono ?_); (rintro _ w3 ⟨v3, rfl, m3, e3⟩); (obtain ⟨bb, A2, l2, c2, ee2, rfl⟩ := m3.form); (have F3 : Ext W0 w3 := F2.trans e3); (clear hcall HA HO1 HO2 m1 m2 e1 e2); (have Z3 := Z0.ext F3); (have g0 := Z3.c0); (have g1 := Z3.c1); (have g2 := Z3.c2); (have f0 := Z3.f 0); (have f1 := Z3.f 1); (have f2 := Z3.f 2)) | ((have hF := F1); (go_at_call 57); (refine (HO2.out _ (E0.trans F1)).mono ?_); (rintro _ w2 ⟨v2, rfl, m2, e2⟩); (have F2 : Ext W0 w2 := F1.trans e2)) | ((go_at_call 57); (refine (HO1.out _ (E0.trans (Ext.refl W0).drew)).mono ?_); (rintro _ w1 ⟨v1, rfl, m1, e1⟩); (have F1 : Ext W0 w1 := (Ext.refl W0).drew.trans e1)))
  go_wp2
  obtain ⟨k0, k1, k2, hD⟩ := Z3.done m3 (E0.trans F3) (by omega)
  exact bodyPost_ret (by simp [results, Tryd.results39, go_sem, k0, k1, k2]) rfl hD

end Go.Proofs.YtjnnodbejnmkmaaDoor
