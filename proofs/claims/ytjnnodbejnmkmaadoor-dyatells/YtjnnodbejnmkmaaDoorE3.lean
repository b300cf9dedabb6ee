/- Walks of package dya: Add, Mul. -/
import Derived.Test.YtjnnodbejnmkmaaDoorE2
namespace Go.Proofs.YtjnnodbejnmkmaaDoor
open Go.RowKit

theorem callAddD : ∀ (x : Array Value) (W : World), (callFunc 40 x).run Tryd.prog W = .ok (.enter 40 x) W := fun _ _ => by kernel_rfl

set_option maxHeartbeats 1000000 in
theorem add1D_any (w : World) (vm vn : Value) (m n pa pb : Nat) (e : Int) (n1 n2 : Bool) (m1 : N w vm m) (m2 : N w vn n) (p0 : w.cell? ⟨pa, 0, none⟩ = some (.bool n1)) (q0 : w.cell? ⟨pb, 0, none⟩ = some (.bool n2))
    (la : Lt 200 m) (lb : Lt 200 n) (he : -100000 ≤ e ∧ e ≤ 100000) (T : Tb w) :
    Calls Tryd.prog 40 #[vm, vn, .int .i64 e, .pointer (some ⟨pa, 0, none⟩), .pointer (some ⟨pb, 0, none⟩)] w (RetD w (dy (sg n1 m + sg n2 n) e)) := by
  have E0 : Ext w (w.alloc (Obj.cells #[Value.bool false, Value.slice none 0 0, Value.int IntKind.i64 0] 24)) := (Ext.refl w).alloc _
  have Z0 := Zd.new w 24
  have la0 := World.block_lt_of_cell? w _ p0
  have lb0 := World.block_lt_of_cell? w _ q0
  simp only at la0 lb0
  have m1' := m1.ext E0
  have m2' := m2.ext E0
  have hpa : pa ≠ w.heap.size := by omega
  have hpb : pb ≠ w.heap.size := by omega
  have p0' := (E0.cell (p := ⟨pa, 0, none⟩) la0).trans p0
  have q0' := (E0.cell (p := ⟨pb, 0, none⟩) lb0).trans q0
  generalize hW0 : w.alloc (Obj.cells #[Value.bool false, Value.slice none 0 0, Value.int IntKind.i64 0] 24) = W0 at *
  have lW : w.heap.size ≤ W0.heap.size := E0.size
  have la1 : pa < W0.heap.size := by omega
  have lb1 : pb < W0.heap.size := by omega
  by_cases hn : n1 = n2
  · subst hn
    have HM := Lib.hid (fun (w' : World) (v : Value) (hE : Ext w w') (hv : N w' v (m + n)) => make_any w' n1 v (m + n) e hv (((la.add lb)).mono (by omega)) (by omega) (T.ext hE))
    rw [← sg_add] at HM
    clear T m1 m2 p0 q0 la0 lb0
    go_enter Tryd.func40, Tryd.ntmps40
    go_wp2
    go_region_held3 (fun w' => w'.cell? ⟨pa, 0, none⟩ = some (.bool n1)) (first | (exact (set3_other hpa).trans ((F4.cell (p := ⟨pa, 0, none⟩) la1).trans p0')) | (exact (F4.cell (p := ⟨pa, 0, none⟩) la1).trans p0') | (exact (F3.cell (p := ⟨pa, 0, none⟩) la1).trans p0') | go_keep) (first | ((go_at_call 41); (refine (add_any _ _ _ m n (m1'.ext (Ext.refl W0).drew) (m2'.ext (Ext.refl W0).drew) (la.mono (by omega)) (lb.mono (by omega))).mono ?_); (rintro _ w3 ⟨v3, rfl, m3, e3⟩); (have F3 : Ext W0 w3 := (Ext.refl W0).drew.trans e3)) | ((go_at_call 30); (refine (HM.out _ _ (E0.trans F3) m3).mono ?_); (rintro _ w4 ⟨v4, rfl, m4, e4⟩); (obtain ⟨bb, A2, l2, c2, ee2, rfl⟩ := m4.form); (have F4 : Ext W0 w4 := F3.trans e4); (have Z4 := Z0.ext F4); (have g0 := Z4.c0); (have g1 := Z4.c1); (have g2 := Z4.c2); (have f0 := Z4.f 0); (have f1 := Z4.f 1); (have f2 := Z4.f 2)))
    go_wp2
    obtain ⟨k0, k1, k2, hD⟩ := Z4.done m4 (E0.trans F4) (by omega)
    exact bodyPost_ret (by simp [results, Tryd.results40, go_sem, k0, k1, k2]) rfl hD
  · have hnb : (n1 == n2) = false := beq_eq_false_iff_ne.2 hn
    by_cases hle : n ≤ m
    · have HM := Lib.hid (fun (w' : World) (v : Value) (hE : Ext w w') (hv : N w' v (m - n)) => make_any w' n1 v (m - n) e hv ((la.of_le (Nat.sub_le m n)).mono (by omega)) (by omega) (T.ext hE))
      rw [← sg_sub hn hle] at HM
      clear T m1 m2 p0 q0 la0 lb0
      go_enter Tryd.func40, Tryd.ntmps40
      go_wp2_with fail
      refine (sub_yes W0 vm vn m n m1' m2' (la.mono (by omega)) hle).mono ?_
      rintro _ w4 ⟨v4, rfl, m4, e4⟩
      have p4 := (e4.cell (p := ⟨pa, 0, none⟩) la1).trans p0'
      go_wp2_with fail
      refine (HM.out w4 v4 (E0.trans e4) m4).mono ?_
      rintro _ w5 ⟨v5, rfl, m5, e5⟩
      obtain ⟨bb, A2, l2, c2, ee2, rfl⟩ := m5.form
      have F5 := e4.trans e5
      have Z5 := Z0.ext F5
      have g0 := Z5.c0; have g1 := Z5.c1; have g2 := Z5.c2; have f0 := Z5.f 0; have f1 := Z5.f 1; have f2 := Z5.f 2
      go_wp2
      obtain ⟨k0, k1, k2, hD⟩ := Z5.done m5 (E0.trans F5) (by omega)
      exact bodyPost_ret (by simp [results, Tryd.results40, go_sem, k0, k1, k2]) rfl hD
    · have HM := Lib.hid (fun (w' : World) (v : Value) (hE : Ext w w') (hv : N w' v (n - m)) => make_any w' n2 v (n - m) e hv ((lb.of_le (Nat.sub_le n m)).mono (by omega)) (by omega) (T.ext hE))
      rw [← sg_sub' hn (by omega)] at HM
      clear T m1 m2 p0 q0 la0 lb0
      go_enter Tryd.func40, Tryd.ntmps40
      go_wp2_with fail
      refine (sub_no W0 vm vn m n m1' m2' (by omega)).mono ?_
      rintro _ w3 ⟨v3, rfl, _, e3⟩
      go_wp2_with fail
      refine (sub_yes w3 vn vm n m (m2'.ext e3) (m1'.ext e3) (lb.mono (by omega)) (by omega)).mono ?_
      rintro _ w4 ⟨v4, rfl, m4, e4⟩
      have F4 := e3.trans e4
      have q4 := (F4.cell (p := ⟨pb, 0, none⟩) lb1).trans q0'
      go_wp2_with fail
      refine (HM.out w4 v4 (E0.trans F4) m4).mono ?_
      rintro _ w5 ⟨v5, rfl, m5, e5⟩
      obtain ⟨bb, A2, l2, c2, ee2, rfl⟩ := m5.form
      have F5 := F4.trans e5
      have Z5 := Z0.ext F5
      have g0 := Z5.c0; have g1 := Z5.c1; have g2 := Z5.c2; have f0 := Z5.f 0; have f1 := Z5.f 1; have f2 := Z5.f 2
      go_wp2
      obtain ⟨k0, k1, k2, hD⟩ := Z5.done m5 (E0.trans F5) (by omega)
      exact bodyPost_ret (by simp [results, Tryd.results40, go_sem, k0, k1, k2]) rfl hD

end Go.Proofs.YtjnnodbejnmkmaaDoor
