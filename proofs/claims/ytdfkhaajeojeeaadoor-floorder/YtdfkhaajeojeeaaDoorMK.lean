/- Walks of package flo. -/
import Derived.Test.YtdfkhaajeojeeaaDoorMH
import Derived.Test.YtdfkhaajeojeeaaDoorME
import Derived.Laws.StructEq
/- Walks of package flo: a float's parts. -/
namespace Go.Proofs.YtdfkhaajeojeeaaDoor
open Go.RowKit
set_option linter.unusedVariables false

/-- What the program's variables hold: the table of math/bits, flo.notNumber, flo.infinity. -/
structure Tg (w : World) : Prop where
  tb : Tb w
  n0 : w.cell? ⟨0, 0, none⟩ = some (.int .i64 0)
  n1 : w.cell? ⟨0, 1, none⟩ = some (.int .i64 2047)
  n2 : w.cell? ⟨0, 2, none⟩ = some (.int .i64 1)
  i0 : w.cell? ⟨1, 0, none⟩ = some (.int .i64 0)
  i1 : w.cell? ⟨1, 1, none⟩ = some (.int .i64 2047)
  i2 : w.cell? ⟨1, 2, none⟩ = some (.int .i64 0)
theorem Tg.ext {w w' : World} (h : Tg w) (E : Ext w w') : Tg w' :=
  ⟨h.tb.ext E, (E.cell (World.block_lt_of_cell? w _ h.n0)).trans h.n0, (E.cell (World.block_lt_of_cell? w _ h.n1)).trans h.n1, (E.cell (World.block_lt_of_cell? w _ h.n2)).trans h.n2,
   (E.cell (World.block_lt_of_cell? w _ h.i0)).trans h.i0, (E.cell (World.block_lt_of_cell? w _ h.i1)).trans h.i1, (E.cell (World.block_lt_of_cell? w _ h.i2)).trans h.i2⟩

/-- Three ints as an array's value. -/
def tri (s q m : Nat) : Value := .agg #[.int .i64 s, .int .i64 q, .int .i64 m]
/-- It returned such an array. -/
def RetP (w : World) (s q m : Nat) (e : Ending) (w' : World) : Prop := e = .returned (tri s q m) ∧ Ext w w'

set_option maxRecDepth 10000 in
set_option maxHeartbeats 1000000 in
theorem apart_zero (w : World) (b s q : Nat) (h1 : (b : Int) / 9223372036854775808 = (s : Int)) (h2 : (b : Int) / 4503599627370496 = (q : Int)) (h3 : bits .and .u64 (q : Int) 2047 = 0) (h4 : bits .and .u64 (b : Int) 4503599627370495 = 0) (hs : s ≤ 1) :
    Calls Tryd.prog 29 #[.float .f64 b] w (RetP w 0 0 0) := by
  have hfb := fbits_run
  go_enter Tryd.func29, Tryd.ntmps29
  go_wp2
  exact bodyPost_ret (v := tri 0 0 0) (by simp [results, Tryd.results29, go_sem, tri]) rfl ⟨rfl, ((Ext.refl w).alloc _).alloc _⟩

set_option maxRecDepth 10000 in
set_option maxHeartbeats 1000000 in
theorem apart_nan (w : World) (b s q m : Nat) (h1 : (b : Int) / 9223372036854775808 = (s : Int)) (h2 : (b : Int) / 4503599627370496 = (q : Int)) (h3 : bits .and .u64 (q : Int) 2047 = 2047) (h4 : bits .and .u64 (b : Int) 4503599627370495 = (m : Int)) (hs : s ≤ 1) (hm : m < 4503599627370496) (hm0 : ((m : Int) == 0) = false) (T : Tg w) :
    Calls Tryd.prog 29 #[.float .f64 b] w (RetP w 0 2047 1) := by
  have hfb := fbits_run
  have hm1 : ((m : Int) != 0) = true := by simpa using hm0
  have n0 := T.n0; have n1 := T.n1; have n2 := T.n2
  have hb0 := World.block_lt_of_cell? w _ T.n0
  go_enter Tryd.func29, Tryd.ntmps29
  go_wp2
  exact bodyPost_ret (v := tri 0 2047 1) (by simp [results, Tryd.results29, go_sem, tri]) rfl ⟨rfl, ((Ext.refl w).alloc _).alloc _⟩

set_option maxRecDepth 10000 in
set_option maxHeartbeats 1000000 in
theorem apart_num (w : World) (b s q e m : Nat) (h1 : (b : Int) / 9223372036854775808 = (s : Int)) (h2 : (b : Int) / 4503599627370496 = (q : Int)) (h3 : bits .and .u64 (q : Int) 2047 = (e : Int)) (h4 : bits .and .u64 (b : Int) 4503599627370495 = (m : Int)) (hs : s ≤ 1) (he : e ≤ 2047) (hm : m < 4503599627370496) (h0 : (((e : Int) == 0) && ((m : Int) == 0)) = false) (h0' : (((e : Int) == 2047) && ((m : Int) != 0)) = false) :
    Calls Tryd.prog 29 #[.float .f64 b] w (RetP w s e m) := by
  have hfb := fbits_run
  cases he0 : ((e : Int) == 0)
  · cases hE : ((e : Int) == 2047)
    · clear h0 h0'
      go_enter Tryd.func29, Tryd.ntmps29
      go_wp2
      exact bodyPost_ret (v := tri s e m) (by simp [results, Tryd.results29, go_sem, tri]) rfl ⟨rfl, ((Ext.refl w).alloc _).alloc _⟩
    · rw [hE, Bool.true_and] at h0'
      clear h0
      go_enter Tryd.func29, Tryd.ntmps29
      go_wp2
      exact bodyPost_ret (v := tri s e m) (by simp [results, Tryd.results29, go_sem, tri]) rfl ⟨rfl, ((Ext.refl w).alloc _).alloc _⟩
  · rw [he0, Bool.true_and] at h0
    have hE : ((e : Int) == 2047) = false := by
      have := eq_of_beq he0
      rw [this]; rfl
    clear h0'
    go_enter Tryd.func29, Tryd.ntmps29
    go_wp2
    exact bodyPost_ret (v := tri s e m) (by simp [results, Tryd.results29, go_sem, tri]) rfl ⟨rfl, ((Ext.refl w).alloc _).alloc _⟩

/-- The parts of a double, noughts and NaNs made one. -/
def apS (b : Nat) : Nat := if frung b = 0 ∨ 9218868437227405312 < frung b then 0 else if fneg b then 1 else 0
def apQ (b : Nat) : Nat := if 9218868437227405312 < frung b then 2047 else frung b / 4503599627370496
def apM (b : Nat) : Nat := if 9218868437227405312 < frung b then 1 else frung b % 4503599627370496
theorem apart_any (w : World) (b : Nat) (hb : b < 18446744073709551616) (T : Tg w) : Calls Tryd.prog 29 #[.float .f64 b] w (RetP w (apS b) (apQ b) (apM b)) := by
  obtain ⟨s, q, e, m, h1, h2, h3, h4, hP, hs⟩ := parts_int b hb
  have hr := hP.rung
  have hl := hP.low
  have hx := hP.exp
  have hn := hP.sign
  unfold apS apQ apM
  by_cases hN : 9218868437227405312 < frung b
  · obtain rfl : e = 2047 := by omega
    rw [if_pos (.inr hN), if_pos hN, if_pos hN]
    exact apart_nan w b s q m h1 h2 h3 h4 hs hl (beq_eq_false_iff_ne.2 (by omega)) T
  · rw [if_neg hN, if_neg hN]
    by_cases h0 : frung b = 0
    · obtain rfl : e = 0 := by omega
      obtain rfl : m = 0 := by omega
      rw [if_pos (.inl h0), h0]
      exact apart_zero w b s q h1 h2 h3 h4 hs
    · rw [if_neg (fun k => k.elim h0 hN), hn]
      have e1 : frung b / 4503599627370496 = e := by omega
      have e2 : frung b % 4503599627370496 = m := by omega
      have e3 : (if decide (s = 1) = true then 1 else 0) = s := by
        by_cases h : s = 1
        · rw [if_pos (by simpa using h)]; omega
        · rw [if_neg (by simpa using h)]; omega
      rw [e1, e2, e3]
      refine apart_num w b s q e m h1 h2 h3 h4 hs (by omega) hl ?_ ?_
      · by_cases he : e = 0
        · have : ((m : Int) == 0) = false := beq_eq_false_iff_ne.2 (by omega)
          rw [this, Bool.and_false]
        · have : ((e : Int) == 0) = false := beq_eq_false_iff_ne.2 (by omega)
          rw [this, Bool.false_and]
      · by_cases he : e = 2047
        · have hm0 : m = 0 := by omega
          subst hm0
          rw [show (((0 : Nat) : Int) != 0) = false from rfl, Bool.and_false]
        · have : ((e : Int) == 2047) = false := beq_eq_false_iff_ne.2 (by omega)
          rw [this, Bool.false_and]
theorem ap_lt (b : Nat) : apS b ≤ 1 ∧ apQ b ≤ 2047 ∧ apM b < 4503599627370496 := by
  have h : frung b < 9223372036854775808 := by unfold frung; omega
  unfold apS apQ apM
  refine ⟨?_, ?_, ?_⟩
  · split
    · omega
    · split <;> omega
  · split <;> omega
  · split <;> omega
/-- The place of a double. -/
theorem ap_key {b : Nat} (h : Num64 b) : (if apS b = 1 then -((apQ b * 4503599627370496 + apM b : Nat) : Int) else ((apQ b * 4503599627370496 + apM b : Nat) : Int)) = fkey b := by
  have hk := h.out
  have e : apQ b * 4503599627370496 + apM b = frung b := by unfold apQ apM; rw [if_neg (by omega), if_neg (by omega)]; omega
  rw [e]
  by_cases h0 : frung b = 0
  · have e1 : apS b = 0 := by unfold apS; rw [if_pos (.inl h0)]
    rw [e1, if_neg (by omega)]; unfold fkey; rw [h0]; split <;> rfl
  · have e1 : apS b = if fneg b then 1 else 0 := by unfold apS; rw [if_neg (fun k => k.elim h0 (by omega))]
    rw [e1]; unfold fkey
    cases fneg b <;> simp
theorem ap_fin {b : Nat} (h : Fin64 b) : apQ b < 2047 := by
  have := h.out
  unfold apQ; rw [if_neg (by omega)]; omega
theorem ap_not {b : Nat} (h : 9218868437227405312 ≤ frung b) : apQ b = 2047 := by
  have : frung b < 9223372036854775808 := by unfold frung; omega
  unfold apQ; split <;> omega

end Go.Proofs.YtdfkhaajeojeeaaDoor

/- Walks of package flo: parts as a natural and a power of two, as a place; the float at a place. -/
namespace Go.Proofs.YtdfkhaajeojeeaaDoor
open Go.RowKit
set_option linter.unusedVariables false

theorem scaled_zero (w : World) (s m : Nat) (hm : m < 4503599627370496) :
    Calls Tryd.prog 30 #[tri s 0 m] w fun e w' => e = .returned (.tuple #[.int .i64 m, .int .i64 (-1074)]) ∧ Ext w w' := by
  unfold tri
  go_enter Tryd.func30, Tryd.ntmps30
  go_wp2
  exact bodyPost_ret (by simp [results, Tryd.results30, go_sem]) rfl ⟨rfl, (Ext.refl w).alloc _⟩
theorem scaled_big (w : World) (s q m : Nat) (hq0 : ((q : Int) == 0) = false) (hq : q ≤ 2047) (hm : m < 4503599627370496) :
    Calls Tryd.prog 30 #[tri s q m] w fun e w' => e = .returned (.tuple #[.int .i64 (4503599627370496 + (m : Int)), .int .i64 ((q : Int) - 1 + -1074)]) ∧ Ext w w' := by
  unfold tri
  go_enter Tryd.func30, Tryd.ntmps30
  go_wp2
  go_region
  go_wp2
  exact bodyPost_ret (by simp [results, Tryd.results30, go_sem]) rfl ⟨rfl, ((Ext.refl w).alloc _).drew⟩
theorem place_pos (w : World) (s q m : Nat) (hs : ((s : Int) == 1) = false) (hq : q ≤ 2047) (hm : m < 4503599627370496) :
    Calls Tryd.prog 38 #[tri s q m] w fun e w' => e = .returned (.int .i64 ((q * 4503599627370496 + m : Nat) : Int)) ∧ Ext w w' := by
  unfold tri
  have hc : ((q * 4503599627370496 + m : Nat) : Int) = (q : Int) * 4503599627370496 + m := by rw [Int.natCast_add, Int.natCast_mul]; rfl
  rw [hc]
  clear hc
  go_enter Tryd.func38, Tryd.ntmps38
  go_wp2
  go_ret
  exact ⟨rfl, (Ext.refl w).alloc _⟩
theorem place_neg (w : World) (s q m : Nat) (hs : ((s : Int) == 1) = true) (hq : q ≤ 2047) (hm : m < 4503599627370496) :
    Calls Tryd.prog 38 #[tri s q m] w fun e w' => e = .returned (.int .i64 (-((q * 4503599627370496 + m : Nat) : Int))) ∧ Ext w w' := by
  unfold tri
  have hc : ((q * 4503599627370496 + m : Nat) : Int) = (q : Int) * 4503599627370496 + m := by rw [Int.natCast_add, Int.natCast_mul]; rfl
  rw [hc]
  clear hc
  go_enter Tryd.func38, Tryd.ntmps38
  go_wp2
  go_ret
  exact ⟨rfl, (Ext.refl w).alloc _⟩
/-- The place of a double's parts. -/
theorem place_num (w : World) (b : Nat) (h : Num64 b) : Calls Tryd.prog 38 #[tri (apS b) (apQ b) (apM b)] w fun e w' => e = .returned (.int .i64 (fkey b)) ∧ Ext w w' := by
  obtain ⟨h1, h2, h3⟩ := ap_lt b
  rw [← ap_key h]
  by_cases hs : apS b = 1
  · rw [if_pos hs]; exact place_neg w _ _ _ (by rw [hs]; rfl) h2 h3
  · rw [if_neg hs]; exact place_pos w _ _ _ (beq_eq_false_iff_ne.2 (by omega)) h2 h3

theorem at_pos (w : World) (k : Nat) (hk : k ≤ 9218868437227405312) : Calls Tryd.prog 37 #[.int .i64 (k : Int)] w fun e w' => e = .returned (.float .f64 k) ∧ w = w' := by
  have hff := ffrom_run
  have hmx : max (k : Int) (-(k : Int)) = (k : Int) := by omega
  have hlt : ¬ ((k : Int) < 0) := by omega
  go_enter Tryd.func37, Tryd.ntmps37
  go_wp2
  go_ret
  exact ⟨rfl, rfl⟩
theorem at_neg (w : World) (k : Nat) (h0 : 0 < k) (hk : k ≤ 9218868437227405312) : Calls Tryd.prog 37 #[.int .i64 (-(k : Int))] w fun e w' => e = .returned (.float .f64 (9223372036854775808 + k)) ∧ w = w' := by
  have hff := ffrom_run
  have hneg : - -(k : Int) = (k : Int) := by omega
  have hmx : max (-(k : Int)) (k : Int) = (k : Int) := by omega
  have hlt : -(k : Int) < 0 := by omega
  have hun : Op.unary .neg (.float .f64 k) = pure (.float .f64 (9223372036854775808 + k)) := by rw [← neg_word k (by omega)]; rfl
  obtain ⟨j, hj⟩ : ∃ j, -(k : Int) = j := ⟨_, rfl⟩
  rw [hj] at hneg hmx hlt ⊢
  have hjb : -9218868437227405312 ≤ j := by omega
  go_enter Tryd.func37, Tryd.ntmps37
  go_wp2
  go_ret
  exact ⟨rfl, rfl⟩
/-- The double at a place. -/
def atw (k : Int) : Nat := Ieee.double.word (decide (k < 0)) k.natAbs
theorem flat_any (w : World) (k : Int) (h1 : -9218868437227405312 ≤ k) (h2 : k ≤ 9218868437227405312) : Calls Tryd.prog 37 #[.int .i64 k] w fun e w' => e = .returned (.float .f64 (atw k)) ∧ w = w' := by
  unfold atw
  rw [word_eq]
  by_cases h : k < 0
  · obtain ⟨j, rfl⟩ : ∃ j : Nat, k = -(j : Int) := ⟨k.natAbs, by omega⟩
    rw [decide_eq_true h, if_pos rfl, Int.natAbs_neg, Int.natAbs_natCast]
    exact at_neg w j (by omega) (by omega)
  · obtain ⟨j, rfl⟩ : ∃ j : Nat, k = (j : Int) := ⟨k.natAbs, by omega⟩
    rw [decide_eq_false h, if_neg (by simp), Int.natAbs_natCast]
    exact at_pos w j (by omega)
theorem atw_spec {k : Int} (h1 : -9218868437227405312 ≤ k) (h2 : k ≤ 9218868437227405312) : fkey (atw k) = k ∧ frung (atw k) = k.natAbs ∧ fneg (atw k) = decide (k < 0) ∧ atw k < 18446744073709551616 ∧ Num64 (atw k) := by
  have hr : k.natAbs < 9223372036854775808 := by omega
  have e1 := frung_word (decide (k < 0)) hr
  have e2 := fneg_word (decide (k < 0)) hr
  have e3 := word_lt64 (decide (k < 0)) hr
  refine ⟨?_, e1, e2, e3, ⟨by unfold atw; rw [e1]; omega⟩⟩
  unfold fkey atw
  rw [e1, e2]
  by_cases h : k < 0
  · rw [decide_eq_true h, if_pos rfl]; omega
  · rw [decide_eq_false h, if_neg (by simp)]; omega

end Go.Proofs.YtdfkhaajeojeeaaDoor

/- Walks of package flo: Of. -/
namespace Go.Proofs.YtdfkhaajeojeeaaDoor
open Go.RowKit
set_option linter.unusedVariables false

/-- At g lies an array of three ints. -/
structure Bp (w : World) (g : Nat) (s q m : Nat) : Prop where
  c0 : w.cell? ⟨g, 0, none⟩ = some (.int .i64 s)
  c1 : w.cell? ⟨g, 1, none⟩ = some (.int .i64 q)
  c2 : w.cell? ⟨g, 2, none⟩ = some (.int .i64 m)
theorem Bp.new (w : World) (s q m : Nat) (t : TypeId) : Bp (w.alloc (.cells #[.int .i64 s, .int .i64 q, .int .i64 m] t)) w.heap.size s q m :=
  ⟨by rw [World.cell?_alloc_new]; rfl, by rw [World.cell?_alloc_new]; rfl, by rw [World.cell?_alloc_new]; rfl⟩
theorem Bp.ext {w w' : World} {g s q m : Nat} (h : Bp w g s q m) (E : Ext w w') : Bp w' g s q m := by
  have hg : g < w.heap.size := World.block_lt_of_cell? w _ h.c0
  exact ⟨(E.cell hg).trans h.c0, (E.cell hg).trans h.c1, (E.cell hg).trans h.c2⟩

set_option maxHeartbeats 1000000 in
theorem of_main (w : World) (b s q m K : Nat) (X E : Int) (hap : ∀ w', Tg w' → Calls Tryd.prog 29 #[.float .f64 b] w' (RetP w' s q m))
    (hsc : ∀ w', Calls Tryd.prog 30 #[tri s q m] w' fun e w'' => e = .returned (.tuple #[.int .i64 X, .int .i64 E]) ∧ Ext w' w'') (hq : ((q : Int) == 2047) = false)
    (hX : X = (K : Int)) (hK : K < 9223372036854775808) (hE : -2000 ≤ E ∧ E ≤ 2000) (hsb : ((s : Int) == 1) = decide (s = 1)) (T : Tg w) :
    Calls Tryd.prog 10 #[.float .f64 b] w (RetDB w (dy (sg (decide (s = 1)) K) E) true) := by
  have HA := Lib.hid (hap _ (T.ext ((Ext.refl w).alloc (.cells #[.bool false, .slice none 0 0, .int .i64 0] 25))))
  have HS := Lib.hid hsc
  have HM := Lib.hid (fun (w' : World) (v : Value) (hE' : Ext w w') (hv : N w' v K) => make_any w' (decide (s = 1)) v K E hv (lt_natof _ hK) (by omega) (T.tb.ext hE'))
  clear hap hsc T
  generalize decide (s = 1) = neg at *
  go_enter Tryd.func10, Tryd.ntmps10
  go_wp2_with fail
  refine HA.out.mono ?_
  rintro _ w1 ⟨rfl, e1⟩
  simp only [tri]
  go_wp2_with fail
  refine (HS.out _).mono ?_
  rintro _ w2 ⟨rfl, e2⟩
  have Bq : Bp w2 w1.heap.size s q m := (Bp.new w1 s q m _).ext e2
  have E2 : Ext (w.alloc (.cells #[.bool false, .slice none 0 0, .int .i64 0] 25)) w2 := (e1.alloc _).trans e2
  have Z2 : Zd w2 w.heap.size := Zd.at E2 rfl
  have E0 : Ext w w2 := ((Ext.refl w).alloc _).trans E2
  have hne : w1.heap.size ≠ w.heap.size := by have h1 := e1.size; rw [World.size_alloc] at h1; omega
  have hg1 : w1.heap.size < w2.heap.size := World.block_lt_of_cell? w2 _ Bq.c0
  have hg0 := E0.size
  clear HA HS e1 e2 E2
  generalize w1.heap.size = g at *
  obtain ⟨a0, a1, a2⟩ := id Bq
  go_wp2_with fail
  go_region_held3 (fun w' => w'.cell? ⟨g, 0, none⟩ = some (.int .i64 s)) (first | (exact (set3_other hne).trans ((F4.cell (p := ⟨g, 0, none⟩) hg1).trans a0)) | (with_reducible exact (F4.cell (p := ⟨g, 0, none⟩) hg1).trans a0) | (with_reducible exact (F3.cell (p := ⟨g, 0, none⟩) hg1).trans a0) | go_keep) (first | ((have hF3 := F3); (go_at_call 31); (refine (HM.out _ _ (E0.trans F3) m3).mono ?_); (rintro _ w4 ⟨v4, rfl, m4, e4⟩); (obtain ⟨bb, A2, l2, c2, ee2, rfl⟩ := m4.form); (have F4 : Ext w2 w4 := F3.trans e4); (have Z4 := Z2.ext F4); (have g0 := Z4.c0); (have g1 := Z4.c1); (have g2 := Z4.c2); (have f0 := Z4.f 0); (have f1 := Z4.f 1); (have f2 := Z4.f 2)) | ((go_at_call 32); (refine (of_any _ _ (by omega)).mono ?_); (rintro _ w3 ⟨v3, rfl, m3, e3⟩); (rw [Int.toNat_natCast] at m3); (have F3 : Ext w2 w3 := (Ext.refl w2).drew.trans e3)))
  go_wp2
  obtain ⟨k0, k1, k2, hD⟩ := Z4.done m4 (E0.trans F4) (by omega)
  exact bodyPost_ret (by simp [results, Tryd.results10, go_sem, k0, k1, k2]) rfl (RetDB.of hD)

set_option maxHeartbeats 1000000 in
theorem of_not (w : World) (b s m : Nat) (hap : ∀ w', Tg w' → Calls Tryd.prog 29 #[.float .f64 b] w' (RetP w' s 2047 m)) (T : Tg w) :
    Calls Tryd.prog 10 #[.float .f64 b] w (RetDB w 0 false) := by
  have HA := Lib.hid (hap _ (T.ext ((Ext.refl w).alloc (.cells #[.bool false, .slice none 0 0, .int .i64 0] 25))))
  clear hap T
  go_enter Tryd.func10, Tryd.ntmps10
  go_wp2_with fail
  refine HA.out.mono ?_
  rintro _ w1 ⟨rfl, e1⟩
  simp only [tri]
  have Z1 : Zd w1 w.heap.size := Zd.at e1 rfl
  have E0 : Ext w w1 := ((Ext.refl w).alloc _).trans e1
  have Z2 := Z1.ext ((Ext.refl w1).alloc (.cells #[.int .i64 s, .int .i64 2047, .int .i64 m] 50))
  have g0 := Z2.c0; have g1 := Z2.c1; have g2 := Z2.c2; have f0 := Z2.f 0; have f1 := Z2.f 1; have f2 := Z2.f 2
  go_wp2
  obtain ⟨k0, k1, k2, hD⟩ := Z2.done (Dn.zero _) (E0.alloc _) (by omega)
  exact bodyPost_ret (by simp [results, Tryd.results10, go_sem, k0, k1, k2]) rfl (RetDB.of hD)

/-- What number a double is. -/
theorem of_fin (w : World) (b : Nat) (hb : b < 18446744073709551616) (h : Fin64 b) (T : Tg w) : Calls Tryd.prog 10 #[.float .f64 b] w (RetDB w (fval b) true) := by
  have hk := h.out
  obtain ⟨h1, h2, h3⟩ := ap_lt b
  have hq := ap_fin h
  have hsb : ((apS b : Int) == 1) = decide (apS b = 1) := by by_cases h : apS b = 1 <;> simp [h] <;> omega
  have hn := fun (h0 : frung b ≠ 0) => show fneg b = decide (apS b = 1) by
    unfold apS; rw [if_neg (fun k => k.elim h0 (by omega))]; cases fneg b <;> rfl
  have hr : frung b = apQ b * 4503599627370496 + apM b := by unfold apQ apM; rw [if_neg (by omega), if_neg (by omega)]; omega
  have hP : frung b ≠ 0 → Parts b (apQ b) (apM b) (decide (apS b = 1)) := fun h0 => ⟨hr, h3, by omega, hn h0⟩
  have hap := fun w' (T' : Tg w') => apart_any w' b hb T'
  have hne : ((apQ b : Int) == 2047) = false := beq_eq_false_iff_ne.2 (by omega)
  by_cases h0 : frung b = 0
  · have eQ : apQ b = 0 := by omega
    have eM : apM b = 0 := by omega
    have e : fval b = dy (sg (decide (apS b = 1)) 0) (-1074) := by
      rw [sg_zero, dy_zero]; unfold fval; rw [h0, rval_zero]; split <;> decide +kernel
    rw [e]
    rw [eQ, eM] at hap
    exact of_main w b (apS b) 0 0 0 _ _ hap (fun w' => scaled_zero w' _ _ (by omega)) rfl rfl (by omega) (by omega) hsb T
  · have hP := hP h0
    rcases Nat.eq_zero_or_pos (apQ b) with e | e
    · rw [e] at hap hP
      rw [hP.small]
      exact of_main w b (apS b) 0 (apM b) (apM b) _ _ hap (fun w' => scaled_zero w' _ _ h3) rfl rfl (by omega) (by omega) hsb T
    · obtain ⟨j, hj⟩ : ∃ j, apQ b = j + 1 := ⟨apQ b - 1, by omega⟩
      rw [hj] at hP hap hne
      rw [hP.big]
      have hs := fun w' => scaled_big w' (apS b) (j + 1) (apM b) (beq_eq_false_iff_ne.2 (by omega)) (by omega) h3
      have e1 : ((j + 1 : Nat) : Int) - 1 + -1074 = (j : Int) - 1074 := by omega
      rw [e1] at hs
      exact of_main w b (apS b) (j + 1) (apM b) (4503599627370496 + apM b) _ _ hap hs hne (by rw [Int.natCast_add]; rfl) (by omega) (by omega) hsb T
theorem of_no (w : World) (b : Nat) (hb : b < 18446744073709551616) (h : 9218868437227405312 ≤ frung b) (T : Tg w) : Calls Tryd.prog 10 #[.float .f64 b] w (RetDB w 0 false) := by
  have hap := fun w' (T' : Tg w') => apart_any w' b hb T'
  rw [ap_not h] at hap
  exact of_not w b _ _ hap T

end Go.Proofs.YtdfkhaajeojeeaaDoor

/- Walks of package flo: Same, Next. -/
namespace Go.Proofs.YtdfkhaajeojeeaaDoor
open Go.RowKit
set_option linter.unusedVariables false

/-- How '==' holds two arrays of three ints against one another. -/
theorem eq_parts (a b c a' b' c' : Int) (w : World) : (Op.equalIn 10000 50 (.agg #[.int .i64 a, .int .i64 b, .int .i64 c]) (.agg #[.int .i64 a', .int .i64 b', .int .i64 c'])).run Tryd.prog w = .ok (a == a' && (b == b' && c == c')) w := by
  have u3 := Tryd.underlying3
  have a3 := Tryd.isAgg3
  have z3 := Tryd.sizeOf3
  rw [show (10000 : Nat) = 9999 + 1 from rfl, Op.equalIn]
  simp only [Sem.run_bind, run_underlying Tryd.underlying50, Result.andThen_ok]
  simp only [Std.Legacy.Range.forIn_eq_forIn_range', Std.Legacy.Range.size, Nat.sub_zero, Nat.add_sub_cancel, Nat.div_one, List.range'_succ, List.range'_zero, List.forIn_cons, List.forIn_nil]
  go_simp
  by_cases h1 : a = a' <;> by_cases h2 : b = b' <;> by_cases h3 : c = c' <;> simp [h1, h2, h3]

set_option maxHeartbeats 1000000 in
theorem same_main (w : World) (a b s q m s' q' m' : Nat) (r : Bool) (hap : ∀ w', Tg w' → Calls Tryd.prog 29 #[.float .f64 a] w' (RetP w' s q m)) (hap' : ∀ w', Tg w' → Calls Tryd.prog 29 #[.float .f64 b] w' (RetP w' s' q' m'))
    (hr : ((s : Int) == s' && ((q : Int) == q' && (m : Int) == m')) = r) (T : Tg w) :
    Calls Tryd.prog 13 #[.float .f64 a, .float .f64 b] w (RetE w (.bool r)) := by
  have HA := Lib.hid hap
  have HB := Lib.hid hap'
  have heq := eq_parts s q m s' q' m'
  rw [hr] at heq
  clear hap hap' hr
  go_enter Tryd.func13, Tryd.ntmps13
  go_wp2_with fail
  refine (HA.out _ T).mono ?_
  rintro _ w1 ⟨rfl, e1⟩
  go_wp2_with fail
  refine (HB.out _ (T.ext e1)).mono ?_
  rintro _ w2 ⟨rfl, e2⟩
  simp only [tri]
  go_wp2
  go_ret
  exact ⟨rfl, e1.trans e2⟩
set_option maxHeartbeats 1000000 in
theorem next_main (w : World) (b s q m : Nat) (k : Int) (hap : ∀ w', Tg w' → Calls Tryd.prog 29 #[.float .f64 b] w' (RetP w' s q m))
    (hpl : ∀ w', Calls Tryd.prog 38 #[tri s q m] w' fun e w'' => e = .returned (.int .i64 k) ∧ Ext w' w'') (hk : -9218868437227405312 ≤ k) (hk2 : k < 9218868437227405312)
    (hn : ((s : Int) == 0 && ((q : Int) == 2047 && (m : Int) == 1)) = false) (hi : ((s : Int) == 0 && ((q : Int) == 2047 && (m : Int) == 0)) = false) (T : Tg w) :
    Calls Tryd.prog 15 #[.float .f64 b] w (RetE w (.float .f64 (atw (k + 1)))) := by
  have HA := Lib.hid hap
  have HP := Lib.hid hpl
  have HT := fun w' => flat_any w' (k + 1) (by omega) (by omega)
  generalize atw (k + 1) = R at *
  replace HT := Lib.hid HT
  have heq := eq_parts s q m 0 2047 1
  have heq' := eq_parts s q m 0 2047 0
  rw [hn] at heq
  rw [hi] at heq'
  clear hap hpl hn hi
  go_enter Tryd.func15, Tryd.ntmps15
  go_wp2_with fail
  refine (HA.out _ T).mono ?_
  rintro _ w1 ⟨rfl, e1⟩
  simp only [tri] at *
  have T1 := T.ext e1
  have n0 := T1.n0; have n1 := T1.n1; have n2 := T1.n2
  have i0 := T1.i0; have i1 := T1.i1; have i2 := T1.i2
  have hb0 := World.block_lt_of_cell? w1 _ n0
  have hb1 := World.block_lt_of_cell? w1 _ i0
  go_wp2_with fail
  refine (HP.out _).mono ?_
  rintro _ w2 ⟨rfl, e2⟩
  go_wp2_with fail
  refine (HT.out _).mono ?_
  rintro _ _ ⟨rfl, rfl⟩
  go_wp2
  go_ret
  exact ⟨rfl, (e1.alloc _).trans e2⟩
set_option maxHeartbeats 1000000 in
theorem next_stay (w : World) (b m : Nat) (hap : ∀ w', Tg w' → Calls Tryd.prog 29 #[.float .f64 b] w' (RetP w' 0 2047 m)) (hm : m = 0 ∨ m = 1) (T : Tg w) :
    Calls Tryd.prog 15 #[.float .f64 b] w (RetE w (.float .f64 b)) := by
  have HA := Lib.hid hap
  clear hap
  rcases hm with rfl | rfl
  · have heq := eq_parts 0 2047 0 0 2047 1
    have heq' := eq_parts 0 2047 0 0 2047 0
    rw [show ((0 : Int) == 0 && ((2047 : Int) == 2047 && (0 : Int) == 1)) = false from rfl] at heq
    rw [show ((0 : Int) == 0 && ((2047 : Int) == 2047 && (0 : Int) == 0)) = true from rfl] at heq'
    go_enter Tryd.func15, Tryd.ntmps15
    go_wp2_with fail
    refine (HA.out _ T).mono ?_
    rintro _ w1 ⟨rfl, e1⟩
    simp only [tri] at *
    have T1 := T.ext e1
    have n0 := T1.n0; have n1 := T1.n1; have n2 := T1.n2
    have i0 := T1.i0; have i1 := T1.i1; have i2 := T1.i2
    have hb0 := World.block_lt_of_cell? w1 _ n0
    have hb1 := World.block_lt_of_cell? w1 _ i0
    go_wp2
    go_ret
    exact ⟨rfl, e1.alloc _⟩
  · have heq := eq_parts 0 2047 1 0 2047 1
    rw [show ((0 : Int) == 0 && ((2047 : Int) == 2047 && (1 : Int) == 1)) = true from rfl] at heq
    go_enter Tryd.func15, Tryd.ntmps15
    go_wp2_with fail
    refine (HA.out _ T).mono ?_
    rintro _ w1 ⟨rfl, e1⟩
    simp only [tri] at *
    have T1 := T.ext e1
    have n0 := T1.n0; have n1 := T1.n1; have n2 := T1.n2
    have hb0 := World.block_lt_of_cell? w1 _ n0
    go_wp2
    go_ret
    exact ⟨rfl, e1.alloc _⟩

theorem frung_key {a b : Nat} (h : fkey a = fkey b) : frung a = frung b := by
  unfold fkey at h
  split at h <;> split at h <;> omega
theorem ap_eq_of_key {a b : Nat} (ha : Num64 a) (hb : Num64 b) (h : fkey a = fkey b) : apS a = apS b ∧ apQ a = apQ b ∧ apM a = apM b := by
  have ka := ha.out
  have kb := hb.out
  have e := frung_key h
  unfold apS apQ apM
  rw [← e]
  rw [if_neg (show ¬ 9218868437227405312 < frung a by omega), if_neg (show ¬ 9218868437227405312 < frung a by omega)]
  refine ⟨?_, rfl, rfl⟩
  by_cases h0 : frung a = 0
  · rw [if_pos (.inl h0), if_pos (.inl h0)]
  · have hx : ¬ (frung a = 0 ∨ 9218868437227405312 < frung a) := fun k => k.elim h0 (by omega)
    rw [if_neg hx, if_neg hx]
    unfold fkey at h
    rw [← e] at h
    cases hA : fneg a <;> cases hB : fneg b <;> rw [hA, hB] at h <;> simp at h ⊢ <;> omega
theorem and3 (a b c a' b' c' : Nat) : ((a : Int) == a' && ((b : Int) == b' && (c : Int) == c')) = decide (a = a' ∧ b = b' ∧ c = c') := by
  by_cases h1 : a = a' <;> by_cases h2 : b = b' <;> by_cases h3 : c = c' <;> simp [h1, h2, h3] <;> omega
theorem ap_same (a b : Nat) : ((apS a : Int) == apS b && ((apQ a : Int) == apQ b && (apM a : Int) == apM b)) = sameF a b := by
  rw [and3]
  unfold sameF
  have hn : ∀ x, 9218868437227405312 < frung x → apS x = 0 ∧ apQ x = 2047 ∧ apM x = 1 := fun x h => by
    unfold apS apQ apM; rw [if_pos (.inr h), if_pos h, if_pos h]; exact ⟨rfl, rfl, rfl⟩
  have hm : ∀ x y, 9218868437227405312 < frung x → ¬ 9218868437227405312 < frung y → ¬ (apQ y = 2047 ∧ apM y = 1) := fun x y _ h => by
    unfold apQ apM; rw [if_neg h, if_neg h]; omega
  have ho : ∀ x, ¬ 9218868437227405312 < frung x → (Ieee.double.order x x != some .eq) = false := fun x h => by rw [order_self ⟨by omega⟩]; rfl
  have hnn : ∀ x, 9218868437227405312 < frung x → (Ieee.double.order x x != some .eq) = true := fun x h => by rw [order_nan (.inl h)]; rfl
  by_cases ha : 9218868437227405312 < frung a
  · obtain ⟨a1, a2, a3⟩ := hn a ha
    rw [hnn a ha, order_nan (.inl ha), a1, a2, a3]
    by_cases hb : 9218868437227405312 < frung b
    · obtain ⟨b1, b2, b3⟩ := hn b hb
      rw [hnn b hb, b1, b2, b3]; rfl
    · rw [ho b hb, decide_eq_false (fun ⟨_, k2, k3⟩ => hm a b ha hb ⟨k2.symm, k3.symm⟩)]; rfl
  · rw [ho a ha]
    by_cases hb : 9218868437227405312 < frung b
    · obtain ⟨b1, b2, b3⟩ := hn b hb
      rw [order_nan (.inr hb), b1, b2, b3, decide_eq_false (fun ⟨_, k2, k3⟩ => hm b a hb ha ⟨k2, k3⟩)]; rfl
    · have na : Num64 a := ⟨by omega⟩
      have nb : Num64 b := ⟨by omega⟩
      rw [order_num na nb, Bool.false_and, Bool.or_false]
      by_cases he : fkey a = fkey b
      · rw [decide_eq_true (ap_eq_of_key na nb he), Int.compare_eq_eq.2 he]; rfl
      · rw [decide_eq_false (fun ⟨k1, k2, k3⟩ => he (by rw [← ap_key na, ← ap_key nb, k1, k2, k3]))]
        have : compare (fkey a) (fkey b) ≠ .eq := fun k => he (Int.compare_eq_eq.1 k)
        generalize compare (fkey a) (fkey b) = o at *
        cases o <;> first | rfl | exact absurd rfl this
/-- Are two doubles alike? -/
theorem sameP_any (w : World) (a b : Nat) (ha : a < 18446744073709551616) (hb : b < 18446744073709551616) (T : Tg w) : Calls Tryd.prog 13 #[.float .f64 a, .float .f64 b] w (RetE w (.bool (sameF a b))) :=
  same_main w a b _ _ _ _ _ _ _ (fun w' T' => apart_any w' a ha T') (fun w' T' => apart_any w' b hb T') (ap_same a b) T
/-- The next double, if there is one. -/
theorem next_num (w : World) (b : Nat) (hb : b < 18446744073709551616) (h : Num64 b) (hk : fkey b < 9218868437227405312) (T : Tg w) : Calls Tryd.prog 15 #[.float .f64 b] w (RetE w (.float .f64 (atw (fkey b + 1)))) := by
  have hr := h.out
  have hlo : -9218868437227405312 ≤ fkey b := by unfold fkey; split <;> omega
  have e0 := and3 (apS b) (apQ b) (apM b) 0 2047
  have hq : ¬ (apS b = 0 ∧ apQ b = 2047) := fun ⟨k1, k2⟩ => by
    have := ap_key h
    rw [k1, k2, if_neg (by omega)] at this
    omega
  refine next_main w b _ _ _ _ (fun w' T' => apart_any w' b hb T') (fun w' => place_num w' b h) hlo hk ?_ ?_ T
  · exact (e0 1).trans (decide_eq_false (fun k => hq ⟨k.1, k.2.1⟩))
  · exact (e0 0).trans (decide_eq_false (fun k => hq ⟨k.1, k.2.1⟩))
theorem next_not (w : World) (b : Nat) (hb : b < 18446744073709551616) (h : 9218868437227405312 < frung b ∨ (frung b = 9218868437227405312 ∧ fneg b = false)) (T : Tg w) : Calls Tryd.prog 15 #[.float .f64 b] w (RetE w (.float .f64 b)) := by
  have hap := fun w' (T' : Tg w') => apart_any w' b hb T'
  rcases h with h | ⟨h, hn⟩
  · have e1 : apS b = 0 := by unfold apS; rw [if_pos (.inr h)]
    have e2 : apQ b = 2047 := ap_not (by omega)
    have e3 : apM b = 1 := by unfold apM; rw [if_pos h]
    rw [e1, e2, e3] at hap
    exact next_stay w b 1 hap (.inr rfl) T
  · have e1 : apS b = 0 := by unfold apS; rw [hn]; split <;> rfl
    have e2 : apQ b = 2047 := ap_not (by omega)
    have e3 : apM b = 0 := by unfold apM; rw [if_neg (by omega), h]
    rw [e1, e2, e3] at hap
    exact next_stay w b 0 hap (.inl rfl) T

end Go.Proofs.YtdfkhaajeojeeaaDoor

/- Walks of package flo: rounded. -/
namespace Go.Proofs.YtdfkhaajeojeeaaDoor
open Go.RowKit
set_option linter.unusedVariables false

set_option maxRecDepth 10000 in
set_option maxHeartbeats 1000000 in
theorem round_lt (w : World) (A : Option Addr) (l c m u B : Nat) (E e t : Int) (x : Dyadic) (hN : N w (.slice A l c) m) (hD : Dn w (.agg #[.bool false, .slice A l c, .int .i64 E]) x)
    (hL : ∀ w' v, N w' v m → Calls Tryd.prog 68 #[v, .int .i64 (E - e)] w' (RetN w' u))
    (hR : ∀ w' v, N w' v u → Calls Tryd.prog 49 #[v, .int .i64 (e - E)] w' (RetN w' B))
    (hB : B ≤ 9007199254740992) (hbE : -10000 ≤ E ∧ E ≤ 10000) (hbe : -10000 ≤ e ∧ e ≤ 10000)
    (hC : ∀ w' va vb, Dn w' va x → Dn w' vb (dy ((B * 2 + 1 : Nat) : Int) (e - 1)) → Calls Tryd.prog 71 #[va, vb] w' (RetE w' (.int .i64 t))) (T : Tg w)
    (ht : t = -1) :
    Calls Tryd.prog 56 #[.agg #[.bool false, .slice A l c, .int .i64 E], .int .i64 e] w (RetE w (.int .i64 ((B : Int)))) := by
  have lB : Lt 400 B := lt_natof _ (by omega)
  have HL := Lib.hid hL
  have HR := Lib.hid hR
  have HS : Hid (∀ (w' : World) (v : Value), N w' v B → Calls Tryd.prog 68 #[v, .int .i64 1] w' (RetN w' (B * 2))) := Lib.hid (fun w' v h => shl_nat w' v B 1 (by omega) h lB)
  have HO : Hid (∀ (w' : World), Calls Tryd.prog 32 #[.int .i64 1] w' (RetN w' 1)) := Lib.hid (fun w' => of_any w' 1 (by omega))
  have HA := Lib.hid (fun (w' : World) (va vb : Value) (ha : N w' va (B * 2)) (hb : N w' vb 1) => add_any w' va vb (B * 2) 1 ha hb (lt_natof _ (by omega)) (lt_natof _ (by omega)))
  have HM : Hid (∀ (w' : World) (v : Value), Ext w w' → N w' v (B * 2 + 1) → Calls Tryd.prog 31 #[.bool false, v, .int .i64 (e - 1)] w' (RetD w' (dy ((B * 2 + 1 : Nat) : Int) (e - 1)))) := Lib.hid (fun w' v hE hv => make_any w' false v (B * 2 + 1) (e - 1) hv (lt_natof _ (by omega)) (by omega) (T.tb.ext hE))
  have HC := Lib.hid hC
  have HI := Lib.hid (fun (w' : World) (v : Value) (h : N w' v B) => int_yes w' v B h lB (by omega))
  have HBB := Lib.hid (show (B : Int) + 1 ≤ 9223372036854775807 by omega)
  have hw1 : IntKind.i64.wrap (E - e) = E - e := IntWalk.i64_in _ (by omega)
  have hw2 : IntKind.i64.wrap (e - E) = e - E := IntWalk.i64_in _ (by omega)
  have hw3 : IntKind.i64.wrap (e - 1) = e - 1 := IntWalk.i64_in _ (by omega)
  clear hL hR hC T hB lB hbE hbe
  subst ht
  go_enter Tryd.func56, Tryd.ntmps56
  go_wp2_with fail
  generalize hW0 : (w.alloc (.cells #[.bool false, .slice A l c, .int .i64 E] 25)) = W0
  have B1 : Box W0 w.heap.size (.bool false) (.slice A l c) (.int .i64 E) := by rw [← hW0]; exact Box.at (Ext.refl _) rfl
  have E0 : Ext w W0 := by rw [← hW0]; exact (Ext.refl w).alloc _
  clear hW0
  replace hN := hN.ext E0
  replace hD := hD.ext E0
  obtain ⟨a0, a1, a2⟩ := id B1
  go_region_held3 (fun w' => w'.cell? ⟨w.heap.size, 0, none⟩ = some (.bool false) ∧ w'.cell? ⟨w.heap.size, 1, none⟩ = some (.slice A l c) ∧ w'.cell? ⟨w.heap.size, 2, none⟩ = some (.int .i64 E))
    (first | (with_reducible exact ⟨(B1.ext F2).c0, (B1.ext F2).c1, (B1.ext F2).c2⟩) | (with_reducible exact ⟨(B1.ext F1).c0, (B1.ext F1).c1, (B1.ext F1).c2⟩) | (with_reducible exact ⟨(B1.ext (Ext.refl _).drew).c0, (B1.ext (Ext.refl _).drew).c1, (B1.ext (Ext.refl _).drew).c2⟩) | go_keep)
    (first | ((have hF := F1); (go_at_call 49); (refine (HR.out _ _ m1).mono ?_); (rintro _ w2 ⟨v2, rfl, m2, e2⟩); (have F2 : Ext W0 w2 := F1.trans e2)) | ((go_at_call 68); (refine (HL.out _ _ (hN.ext (Ext.refl W0).drew)).mono ?_); (rintro _ w1 ⟨v1, rfl, m1, e1⟩); (have F1 : Ext W0 w1 := (Ext.refl W0).drew.trans e1)))
  replace B1 := B1.ext F2
  replace hD := hD.ext F2
  replace E0 := E0.trans F2
  clear a0 a1 a2 m1 e1 e2 F1 F2 hN HL HR
  obtain ⟨a0, a1, a2⟩ := id B1
  go_wp2_with fail
  refine (HS.out _ _ m2).mono ?_
  rintro _ w3 ⟨v3, rfl, m3, e3⟩
  go_wp2_with fail
  refine (HO.out _).mono ?_
  rintro _ w4 ⟨v4, rfl, m4, e4⟩
  go_wp2_with fail
  refine (HA.out _ _ _ (m3.ext e4) m4).mono ?_
  rintro _ w5 ⟨v5, rfl, m5, e5⟩
  have E5 : Ext w2 w5 := (e3.trans e4).trans e5
  go_wp2_with fail
  refine (HM.out _ _ (E0.trans E5) m5).mono ?_
  rintro _ w6 ⟨v6, rfl, m6, e6⟩
  obtain ⟨b6, A6, l6, c6, f6, rfl⟩ := m6.form
  have E6 := E5.trans e6
  replace B1 := B1.ext (E6.alloc (.cells #[.bool b6, .slice A6 l6 c6, .int .i64 f6] 25))
  replace m2 := m2.ext (E6.alloc (.cells #[.bool b6, .slice A6 l6 c6, .int .i64 f6] 25))
  replace hD := hD.ext (E6.alloc (.cells #[.bool b6, .slice A6 l6 c6, .int .i64 f6] 25))
  replace m6 := m6.ext ((Ext.refl w6).alloc (.cells #[.bool b6, .slice A6 l6 c6, .int .i64 f6] 25))
  replace E0 := E0.trans (E6.alloc (.cells #[.bool b6, .slice A6 l6 c6, .int .i64 f6] 25))
  have B6 : Box (w6.alloc (.cells #[.bool b6, .slice A6 l6 c6, .int .i64 f6] 25)) w6.heap.size (.bool b6) (.slice A6 l6 c6) (.int .i64 f6) := Box.new _ _ _ _ _
  clear a0 a1 a2 m3 m4 m5 e3 e4 e5 e6 E5 E6 HS HO HA HM
  go_wp2_with fail
  generalize w6.heap.size = g at *
  generalize (w6.alloc (.cells #[.bool b6, .slice A6 l6 c6, .int .i64 f6] 25)) = W6 at *
  refine (HI.out _ _ m2).mono ?_
  rintro _ _ ⟨rfl, rfl⟩
  obtain ⟨a0, a1, a2⟩ := id B1
  obtain ⟨d0, d1, d2⟩ := id B6
  go_wp2_with fail
  refine (HC.out _ _ _ hD m6).mono ?_
  rintro _ w7 ⟨rfl, e7⟩
  have hBB := HBB.out
  go_wp2
  go_ret
  exact ⟨rfl, E0.trans e7⟩

set_option maxRecDepth 10000 in
set_option maxHeartbeats 1000000 in
theorem round_even (w : World) (A : Option Addr) (l c m u B : Nat) (E e t : Int) (x : Dyadic) (hN : N w (.slice A l c) m) (hD : Dn w (.agg #[.bool false, .slice A l c, .int .i64 E]) x)
    (hL : ∀ w' v, N w' v m → Calls Tryd.prog 68 #[v, .int .i64 (E - e)] w' (RetN w' u))
    (hR : ∀ w' v, N w' v u → Calls Tryd.prog 49 #[v, .int .i64 (e - E)] w' (RetN w' B))
    (hB : B ≤ 9007199254740992) (hbE : -10000 ≤ E ∧ E ≤ 10000) (hbe : -10000 ≤ e ∧ e ≤ 10000)
    (hC : ∀ w' va vb, Dn w' va x → Dn w' vb (dy ((B * 2 + 1 : Nat) : Int) (e - 1)) → Calls Tryd.prog 71 #[va, vb] w' (RetE w' (.int .i64 t))) (T : Tg w)
    (ht : t = 0) (hp : (B : Int) % 2 = 0) :
    Calls Tryd.prog 56 #[.agg #[.bool false, .slice A l c, .int .i64 E], .int .i64 e] w (RetE w (.int .i64 ((B : Int)))) := by
  have lB : Lt 400 B := lt_natof _ (by omega)
  have HL := Lib.hid hL
  have HR := Lib.hid hR
  have HS : Hid (∀ (w' : World) (v : Value), N w' v B → Calls Tryd.prog 68 #[v, .int .i64 1] w' (RetN w' (B * 2))) := Lib.hid (fun w' v h => shl_nat w' v B 1 (by omega) h lB)
  have HO : Hid (∀ (w' : World), Calls Tryd.prog 32 #[.int .i64 1] w' (RetN w' 1)) := Lib.hid (fun w' => of_any w' 1 (by omega))
  have HA := Lib.hid (fun (w' : World) (va vb : Value) (ha : N w' va (B * 2)) (hb : N w' vb 1) => add_any w' va vb (B * 2) 1 ha hb (lt_natof _ (by omega)) (lt_natof _ (by omega)))
  have HM : Hid (∀ (w' : World) (v : Value), Ext w w' → N w' v (B * 2 + 1) → Calls Tryd.prog 31 #[.bool false, v, .int .i64 (e - 1)] w' (RetD w' (dy ((B * 2 + 1 : Nat) : Int) (e - 1)))) := Lib.hid (fun w' v hE hv => make_any w' false v (B * 2 + 1) (e - 1) hv (lt_natof _ (by omega)) (by omega) (T.tb.ext hE))
  have HC := Lib.hid hC
  have HI := Lib.hid (fun (w' : World) (v : Value) (h : N w' v B) => int_yes w' v B h lB (by omega))
  have HBB := Lib.hid (show (B : Int) + 1 ≤ 9223372036854775807 by omega)
  have hw1 : IntKind.i64.wrap (E - e) = E - e := IntWalk.i64_in _ (by omega)
  have hw2 : IntKind.i64.wrap (e - E) = e - E := IntWalk.i64_in _ (by omega)
  have hw3 : IntKind.i64.wrap (e - 1) = e - 1 := IntWalk.i64_in _ (by omega)
  clear hL hR hC T hB lB hbE hbe
  subst ht
  go_enter Tryd.func56, Tryd.ntmps56
  go_wp2_with fail
  generalize hW0 : (w.alloc (.cells #[.bool false, .slice A l c, .int .i64 E] 25)) = W0
  have B1 : Box W0 w.heap.size (.bool false) (.slice A l c) (.int .i64 E) := by rw [← hW0]; exact Box.at (Ext.refl _) rfl
  have E0 : Ext w W0 := by rw [← hW0]; exact (Ext.refl w).alloc _
  clear hW0
  replace hN := hN.ext E0
  replace hD := hD.ext E0
  obtain ⟨a0, a1, a2⟩ := id B1
  go_region_held3 (fun w' => w'.cell? ⟨w.heap.size, 0, none⟩ = some (.bool false) ∧ w'.cell? ⟨w.heap.size, 1, none⟩ = some (.slice A l c) ∧ w'.cell? ⟨w.heap.size, 2, none⟩ = some (.int .i64 E))
    (first | (with_reducible exact ⟨(B1.ext F2).c0, (B1.ext F2).c1, (B1.ext F2).c2⟩) | (with_reducible exact ⟨(B1.ext F1).c0, (B1.ext F1).c1, (B1.ext F1).c2⟩) | (with_reducible exact ⟨(B1.ext (Ext.refl _).drew).c0, (B1.ext (Ext.refl _).drew).c1, (B1.ext (Ext.refl _).drew).c2⟩) | go_keep)
    (first | ((have hF := F1); (go_at_call 49); (refine (HR.out _ _ m1).mono ?_); (rintro _ w2 ⟨v2, rfl, m2, e2⟩); (have F2 : Ext W0 w2 := F1.trans e2)) | ((go_at_call 68); (refine (HL.out _ _ (hN.ext (Ext.refl W0).drew)).mono ?_); (rintro _ w1 ⟨v1, rfl, m1, e1⟩); (have F1 : Ext W0 w1 := (Ext.refl W0).drew.trans e1)))
  replace B1 := B1.ext F2
  replace hD := hD.ext F2
  replace E0 := E0.trans F2
  clear a0 a1 a2 m1 e1 e2 F1 F2 hN HL HR
  obtain ⟨a0, a1, a2⟩ := id B1
  go_wp2_with fail
  refine (HS.out _ _ m2).mono ?_
  rintro _ w3 ⟨v3, rfl, m3, e3⟩
  go_wp2_with fail
  refine (HO.out _).mono ?_
  rintro _ w4 ⟨v4, rfl, m4, e4⟩
  go_wp2_with fail
  refine (HA.out _ _ _ (m3.ext e4) m4).mono ?_
  rintro _ w5 ⟨v5, rfl, m5, e5⟩
  have E5 : Ext w2 w5 := (e3.trans e4).trans e5
  go_wp2_with fail
  refine (HM.out _ _ (E0.trans E5) m5).mono ?_
  rintro _ w6 ⟨v6, rfl, m6, e6⟩
  obtain ⟨b6, A6, l6, c6, f6, rfl⟩ := m6.form
  have E6 := E5.trans e6
  replace B1 := B1.ext (E6.alloc (.cells #[.bool b6, .slice A6 l6 c6, .int .i64 f6] 25))
  replace m2 := m2.ext (E6.alloc (.cells #[.bool b6, .slice A6 l6 c6, .int .i64 f6] 25))
  replace hD := hD.ext (E6.alloc (.cells #[.bool b6, .slice A6 l6 c6, .int .i64 f6] 25))
  replace m6 := m6.ext ((Ext.refl w6).alloc (.cells #[.bool b6, .slice A6 l6 c6, .int .i64 f6] 25))
  replace E0 := E0.trans (E6.alloc (.cells #[.bool b6, .slice A6 l6 c6, .int .i64 f6] 25))
  have B6 : Box (w6.alloc (.cells #[.bool b6, .slice A6 l6 c6, .int .i64 f6] 25)) w6.heap.size (.bool b6) (.slice A6 l6 c6) (.int .i64 f6) := Box.new _ _ _ _ _
  clear a0 a1 a2 m3 m4 m5 e3 e4 e5 e6 E5 E6 HS HO HA HM
  go_wp2_with fail
  generalize w6.heap.size = g at *
  generalize (w6.alloc (.cells #[.bool b6, .slice A6 l6 c6, .int .i64 f6] 25)) = W6 at *
  refine (HI.out _ _ m2).mono ?_
  rintro _ _ ⟨rfl, rfl⟩
  obtain ⟨a0, a1, a2⟩ := id B1
  obtain ⟨d0, d1, d2⟩ := id B6
  go_wp2_with fail
  refine (HC.out _ _ _ hD m6).mono ?_
  rintro _ w7 ⟨rfl, e7⟩
  have hBB := HBB.out
  go_wp2
  go_ret
  exact ⟨rfl, E0.trans e7⟩

set_option maxRecDepth 10000 in
set_option maxHeartbeats 1000000 in
theorem round_odd (w : World) (A : Option Addr) (l c m u B : Nat) (E e t : Int) (x : Dyadic) (hN : N w (.slice A l c) m) (hD : Dn w (.agg #[.bool false, .slice A l c, .int .i64 E]) x)
    (hL : ∀ w' v, N w' v m → Calls Tryd.prog 68 #[v, .int .i64 (E - e)] w' (RetN w' u))
    (hR : ∀ w' v, N w' v u → Calls Tryd.prog 49 #[v, .int .i64 (e - E)] w' (RetN w' B))
    (hB : B ≤ 9007199254740992) (hbE : -10000 ≤ E ∧ E ≤ 10000) (hbe : -10000 ≤ e ∧ e ≤ 10000)
    (hC : ∀ w' va vb, Dn w' va x → Dn w' vb (dy ((B * 2 + 1 : Nat) : Int) (e - 1)) → Calls Tryd.prog 71 #[va, vb] w' (RetE w' (.int .i64 t))) (T : Tg w)
    (ht : t = 0) (hp : (B : Int) % 2 = 1) :
    Calls Tryd.prog 56 #[.agg #[.bool false, .slice A l c, .int .i64 E], .int .i64 e] w (RetE w (.int .i64 ((B : Int) + 1))) := by
  have lB : Lt 400 B := lt_natof _ (by omega)
  have HL := Lib.hid hL
  have HR := Lib.hid hR
  have HS : Hid (∀ (w' : World) (v : Value), N w' v B → Calls Tryd.prog 68 #[v, .int .i64 1] w' (RetN w' (B * 2))) := Lib.hid (fun w' v h => shl_nat w' v B 1 (by omega) h lB)
  have HO : Hid (∀ (w' : World), Calls Tryd.prog 32 #[.int .i64 1] w' (RetN w' 1)) := Lib.hid (fun w' => of_any w' 1 (by omega))
  have HA := Lib.hid (fun (w' : World) (va vb : Value) (ha : N w' va (B * 2)) (hb : N w' vb 1) => add_any w' va vb (B * 2) 1 ha hb (lt_natof _ (by omega)) (lt_natof _ (by omega)))
  have HM : Hid (∀ (w' : World) (v : Value), Ext w w' → N w' v (B * 2 + 1) → Calls Tryd.prog 31 #[.bool false, v, .int .i64 (e - 1)] w' (RetD w' (dy ((B * 2 + 1 : Nat) : Int) (e - 1)))) := Lib.hid (fun w' v hE hv => make_any w' false v (B * 2 + 1) (e - 1) hv (lt_natof _ (by omega)) (by omega) (T.tb.ext hE))
  have HC := Lib.hid hC
  have HI := Lib.hid (fun (w' : World) (v : Value) (h : N w' v B) => int_yes w' v B h lB (by omega))
  have HBB := Lib.hid (show (B : Int) + 1 ≤ 9223372036854775807 by omega)
  have hw1 : IntKind.i64.wrap (E - e) = E - e := IntWalk.i64_in _ (by omega)
  have hw2 : IntKind.i64.wrap (e - E) = e - E := IntWalk.i64_in _ (by omega)
  have hw3 : IntKind.i64.wrap (e - 1) = e - 1 := IntWalk.i64_in _ (by omega)
  clear hL hR hC T hB lB hbE hbe
  subst ht
  go_enter Tryd.func56, Tryd.ntmps56
  go_wp2_with fail
  generalize hW0 : (w.alloc (.cells #[.bool false, .slice A l c, .int .i64 E] 25)) = W0
  have B1 : Box W0 w.heap.size (.bool false) (.slice A l c) (.int .i64 E) := by rw [← hW0]; exact Box.at (Ext.refl _) rfl
  have E0 : Ext w W0 := by rw [← hW0]; exact (Ext.refl w).alloc _
  clear hW0
  replace hN := hN.ext E0
  replace hD := hD.ext E0
  obtain ⟨a0, a1, a2⟩ := id B1
  go_region_held3 (fun w' => w'.cell? ⟨w.heap.size, 0, none⟩ = some (.bool false) ∧ w'.cell? ⟨w.heap.size, 1, none⟩ = some (.slice A l c) ∧ w'.cell? ⟨w.heap.size, 2, none⟩ = some (.int .i64 E))
    (first | (with_reducible exact ⟨(B1.ext F2).c0, (B1.ext F2).c1, (B1.ext F2).c2⟩) | (with_reducible exact ⟨(B1.ext F1).c0, (B1.ext F1).c1, (B1.ext F1).c2⟩) | (with_reducible exact ⟨(B1.ext (Ext.refl _).drew).c0, (B1.ext (Ext.refl _).drew).c1, (B1.ext (Ext.refl _).drew).c2⟩) | go_keep)
    (first | ((have hF := F1); (go_at_call 49); (refine (HR.out _ _ m1).mono ?_); (rintro _ w2 ⟨v2, rfl, m2, e2⟩); (have F2 : Ext W0 w2 := F1.trans e2)) | ((go_at_call 68); (refine (HL.out _ _ (hN.ext (Ext.refl W0).drew)).mono ?_); (rintro _ w1 ⟨v1, rfl, m1, e1⟩); (have F1 : Ext W0 w1 := (Ext.refl W0).drew.trans e1)))
  replace B1 := B1.ext F2
  replace hD := hD.ext F2
  replace E0 := E0.trans F2
  clear a0 a1 a2 m1 e1 e2 F1 F2 hN HL HR
  obtain ⟨a0, a1, a2⟩ := id B1
  go_wp2_with fail
  refine (HS.out _ _ m2).mono ?_
  rintro _ w3 ⟨v3, rfl, m3, e3⟩
  go_wp2_with fail
  refine (HO.out _).mono ?_
  rintro _ w4 ⟨v4, rfl, m4, e4⟩
  go_wp2_with fail
  refine (HA.out _ _ _ (m3.ext e4) m4).mono ?_
  rintro _ w5 ⟨v5, rfl, m5, e5⟩
  have E5 : Ext w2 w5 := (e3.trans e4).trans e5
  go_wp2_with fail
  refine (HM.out _ _ (E0.trans E5) m5).mono ?_
  rintro _ w6 ⟨v6, rfl, m6, e6⟩
  obtain ⟨b6, A6, l6, c6, f6, rfl⟩ := m6.form
  have E6 := E5.trans e6
  replace B1 := B1.ext (E6.alloc (.cells #[.bool b6, .slice A6 l6 c6, .int .i64 f6] 25))
  replace m2 := m2.ext (E6.alloc (.cells #[.bool b6, .slice A6 l6 c6, .int .i64 f6] 25))
  replace hD := hD.ext (E6.alloc (.cells #[.bool b6, .slice A6 l6 c6, .int .i64 f6] 25))
  replace m6 := m6.ext ((Ext.refl w6).alloc (.cells #[.bool b6, .slice A6 l6 c6, .int .i64 f6] 25))
  replace E0 := E0.trans (E6.alloc (.cells #[.bool b6, .slice A6 l6 c6, .int .i64 f6] 25))
  have B6 : Box (w6.alloc (.cells #[.bool b6, .slice A6 l6 c6, .int .i64 f6] 25)) w6.heap.size (.bool b6) (.slice A6 l6 c6) (.int .i64 f6) := Box.new _ _ _ _ _
  clear a0 a1 a2 m3 m4 m5 e3 e4 e5 e6 E5 E6 HS HO HA HM
  go_wp2_with fail
  generalize w6.heap.size = g at *
  generalize (w6.alloc (.cells #[.bool b6, .slice A6 l6 c6, .int .i64 f6] 25)) = W6 at *
  refine (HI.out _ _ m2).mono ?_
  rintro _ _ ⟨rfl, rfl⟩
  obtain ⟨a0, a1, a2⟩ := id B1
  obtain ⟨d0, d1, d2⟩ := id B6
  go_wp2_with fail
  refine (HC.out _ _ _ hD m6).mono ?_
  rintro _ w7 ⟨rfl, e7⟩
  have hBB := HBB.out
  go_wp2
  go_ret
  exact ⟨rfl, E0.trans e7⟩

set_option maxRecDepth 10000 in
set_option maxHeartbeats 1000000 in
theorem round_gt (w : World) (A : Option Addr) (l c m u B : Nat) (E e t : Int) (x : Dyadic) (hN : N w (.slice A l c) m) (hD : Dn w (.agg #[.bool false, .slice A l c, .int .i64 E]) x)
    (hL : ∀ w' v, N w' v m → Calls Tryd.prog 68 #[v, .int .i64 (E - e)] w' (RetN w' u))
    (hR : ∀ w' v, N w' v u → Calls Tryd.prog 49 #[v, .int .i64 (e - E)] w' (RetN w' B))
    (hB : B ≤ 9007199254740992) (hbE : -10000 ≤ E ∧ E ≤ 10000) (hbe : -10000 ≤ e ∧ e ≤ 10000)
    (hC : ∀ w' va vb, Dn w' va x → Dn w' vb (dy ((B * 2 + 1 : Nat) : Int) (e - 1)) → Calls Tryd.prog 71 #[va, vb] w' (RetE w' (.int .i64 t))) (T : Tg w)
    (ht : t = 1) :
    Calls Tryd.prog 56 #[.agg #[.bool false, .slice A l c, .int .i64 E], .int .i64 e] w (RetE w (.int .i64 ((B : Int) + 1))) := by
  have lB : Lt 400 B := lt_natof _ (by omega)
  have HL := Lib.hid hL
  have HR := Lib.hid hR
  have HS : Hid (∀ (w' : World) (v : Value), N w' v B → Calls Tryd.prog 68 #[v, .int .i64 1] w' (RetN w' (B * 2))) := Lib.hid (fun w' v h => shl_nat w' v B 1 (by omega) h lB)
  have HO : Hid (∀ (w' : World), Calls Tryd.prog 32 #[.int .i64 1] w' (RetN w' 1)) := Lib.hid (fun w' => of_any w' 1 (by omega))
  have HA := Lib.hid (fun (w' : World) (va vb : Value) (ha : N w' va (B * 2)) (hb : N w' vb 1) => add_any w' va vb (B * 2) 1 ha hb (lt_natof _ (by omega)) (lt_natof _ (by omega)))
  have HM : Hid (∀ (w' : World) (v : Value), Ext w w' → N w' v (B * 2 + 1) → Calls Tryd.prog 31 #[.bool false, v, .int .i64 (e - 1)] w' (RetD w' (dy ((B * 2 + 1 : Nat) : Int) (e - 1)))) := Lib.hid (fun w' v hE hv => make_any w' false v (B * 2 + 1) (e - 1) hv (lt_natof _ (by omega)) (by omega) (T.tb.ext hE))
  have HC := Lib.hid hC
  have HI := Lib.hid (fun (w' : World) (v : Value) (h : N w' v B) => int_yes w' v B h lB (by omega))
  have HBB := Lib.hid (show (B : Int) + 1 ≤ 9223372036854775807 by omega)
  have hw1 : IntKind.i64.wrap (E - e) = E - e := IntWalk.i64_in _ (by omega)
  have hw2 : IntKind.i64.wrap (e - E) = e - E := IntWalk.i64_in _ (by omega)
  have hw3 : IntKind.i64.wrap (e - 1) = e - 1 := IntWalk.i64_in _ (by omega)
  clear hL hR hC T hB lB hbE hbe
  subst ht
  go_enter Tryd.func56, Tryd.ntmps56
  go_wp2_with fail
  generalize hW0 : (w.alloc (.cells #[.bool false, .slice A l c, .int .i64 E] 25)) = W0
  have B1 : Box W0 w.heap.size (.bool false) (.slice A l c) (.int .i64 E) := by rw [← hW0]; exact Box.at (Ext.refl _) rfl
  have E0 : Ext w W0 := by rw [← hW0]; exact (Ext.refl w).alloc _
  clear hW0
  replace hN := hN.ext E0
  replace hD := hD.ext E0
  obtain ⟨a0, a1, a2⟩ := id B1
  go_region_held3 (fun w' => w'.cell? ⟨w.heap.size, 0, none⟩ = some (.bool false) ∧ w'.cell? ⟨w.heap.size, 1, none⟩ = some (.slice A l c) ∧ w'.cell? ⟨w.heap.size, 2, none⟩ = some (.int .i64 E))
    (first | (with_reducible exact ⟨(B1.ext F2).c0, (B1.ext F2).c1, (B1.ext F2).c2⟩) | (with_reducible exact ⟨(B1.ext F1).c0, (B1.ext F1).c1, (B1.ext F1).c2⟩) | (with_reducible exact ⟨(B1.ext (Ext.refl _).drew).c0, (B1.ext (Ext.refl _).drew).c1, (B1.ext (Ext.refl _).drew).c2⟩) | go_keep)
    (first | ((have hF := F1); (go_at_call 49); (refine (HR.out _ _ m1).mono ?_); (rintro _ w2 ⟨v2, rfl, m2, e2⟩); (have F2 : Ext W0 w2 := F1.trans e2)) | ((go_at_call 68); (refine (HL.out _ _ (hN.ext (Ext.refl W0).drew)).mono ?_); (rintro _ w1 ⟨v1, rfl, m1, e1⟩); (have F1 : Ext W0 w1 := (Ext.refl W0).drew.trans e1)))
  replace B1 := B1.ext F2
  replace hD := hD.ext F2
  replace E0 := E0.trans F2
  clear a0 a1 a2 m1 e1 e2 F1 F2 hN HL HR
  obtain ⟨a0, a1, a2⟩ := id B1
  go_wp2_with fail
  refine (HS.out _ _ m2).mono ?_
  rintro _ w3 ⟨v3, rfl, m3, e3⟩
  go_wp2_with fail
  refine (HO.out _).mono ?_
  rintro _ w4 ⟨v4, rfl, m4, e4⟩
  go_wp2_with fail
  refine (HA.out _ _ _ (m3.ext e4) m4).mono ?_
  rintro _ w5 ⟨v5, rfl, m5, e5⟩
  have E5 : Ext w2 w5 := (e3.trans e4).trans e5
  go_wp2_with fail
  refine (HM.out _ _ (E0.trans E5) m5).mono ?_
  rintro _ w6 ⟨v6, rfl, m6, e6⟩
  obtain ⟨b6, A6, l6, c6, f6, rfl⟩ := m6.form
  have E6 := E5.trans e6
  replace B1 := B1.ext (E6.alloc (.cells #[.bool b6, .slice A6 l6 c6, .int .i64 f6] 25))
  replace m2 := m2.ext (E6.alloc (.cells #[.bool b6, .slice A6 l6 c6, .int .i64 f6] 25))
  replace hD := hD.ext (E6.alloc (.cells #[.bool b6, .slice A6 l6 c6, .int .i64 f6] 25))
  replace m6 := m6.ext ((Ext.refl w6).alloc (.cells #[.bool b6, .slice A6 l6 c6, .int .i64 f6] 25))
  replace E0 := E0.trans (E6.alloc (.cells #[.bool b6, .slice A6 l6 c6, .int .i64 f6] 25))
  have B6 : Box (w6.alloc (.cells #[.bool b6, .slice A6 l6 c6, .int .i64 f6] 25)) w6.heap.size (.bool b6) (.slice A6 l6 c6) (.int .i64 f6) := Box.new _ _ _ _ _
  clear a0 a1 a2 m3 m4 m5 e3 e4 e5 e6 E5 E6 HS HO HA HM
  go_wp2_with fail
  generalize w6.heap.size = g at *
  generalize (w6.alloc (.cells #[.bool b6, .slice A6 l6 c6, .int .i64 f6] 25)) = W6 at *
  refine (HI.out _ _ m2).mono ?_
  rintro _ _ ⟨rfl, rfl⟩
  obtain ⟨a0, a1, a2⟩ := id B1
  obtain ⟨d0, d1, d2⟩ := id B6
  go_wp2_with fail
  refine (HC.out _ _ _ hD m6).mono ?_
  rintro _ w7 ⟨rfl, e7⟩
  have hBB := HBB.out
  go_wp2
  go_ret
  exact ⟨rfl, E0.trans e7⟩

end Go.Proofs.YtdfkhaajeojeeaaDoor

/- Walks of package flo: nearest. -/
namespace Go.Proofs.YtdfkhaajeojeeaaDoor
open Go.RowKit
set_option linter.unusedVariables false

set_option maxRecDepth 10000 in
set_option maxHeartbeats 1000000 in
theorem nearest_zero (w : World) (A : Option Addr) (l c : Nat) (E : Int) (hS : ∀ w', Ext w w' → Calls Tryd.prog 54 #[.agg #[.bool false, .slice A l c, .int .i64 E]] w' (RetE w' (.int .i64 0))) :
    Calls Tryd.prog 39 #[.agg #[.bool false, .slice A l c, .int .i64 E]] w (RetE w (.int .i64 0)) := by
  have HS := Lib.hid hS
  clear hS
  go_enter Tryd.func39, Tryd.ntmps39
  go_wp2_with fail
  refine (HS.out _ ((Ext.refl w).alloc _)).mono ?_
  rintro _ w1 ⟨rfl, e1⟩
  go_wp2
  go_ret
  exact ⟨rfl, ((Ext.refl w).alloc _).trans e1⟩

set_option maxRecDepth 10000 in
set_option maxHeartbeats 1000000 in
theorem nearest_inf (w : World) (A : Option Addr) (l c m Bl : Nat) (E H : Int) (hN : N w (.slice A l c) m) (hS : ∀ w', Ext w w' → Calls Tryd.prog 54 #[.agg #[.bool false, .slice A l c, .int .i64 E]] w' (RetE w' (.int .i64 1)))
    (hlen : ∀ w' v, N w' v m → Calls Tryd.prog 55 #[v] w' fun a w'' => a = .returned (.int .i64 (Bl : Int)) ∧ w' = w'') (hw : IntKind.i64.wrap ((Bl : Int) + E) = H) (hH : 1024 < H) (T : Tg w) :
    Calls Tryd.prog 39 #[.agg #[.bool false, .slice A l c, .int .i64 E]] w (RetE w (.int .i64 9218868437227405312)) := by
  have HS := Lib.hid hS
  have HL := Lib.hid hlen
  have HP : Hid (∀ w' : World, Calls Tryd.prog 38 #[.agg #[.int .i64 0, .int .i64 2047, .int .i64 0]] w' fun e w'' => e = .returned (.int .i64 9218868437227405312) ∧ Ext w' w'') := Lib.hid (fun w' => place_pos w' 0 2047 0 rfl (by omega) (by omega))
  clear hS hlen
  go_enter Tryd.func39, Tryd.ntmps39
  go_wp2_with fail
  refine (HS.out _ ((Ext.refl w).alloc _)).mono ?_
  rintro _ w1 ⟨rfl, e1⟩
  have B1 : Box w1 w.heap.size (.bool false) (.slice A l c) (.int .i64 E) := Box.at e1 rfl
  have E0 : Ext w w1 := ((Ext.refl w).alloc _).trans e1
  clear e1 HS
  replace hN := hN.ext E0
  replace T := T.ext E0
  obtain ⟨a0, a1, a2⟩ := id B1
  go_wp2
  go_region_held3 (fun w' => w'.cell? ⟨w.heap.size, 1, none⟩ = some (.slice A l c) ∧ w'.cell? ⟨w.heap.size, 2, none⟩ = some (.int .i64 E)) (first | (with_reducible exact ⟨(B1.ext (Ext.refl _).drew).c1, (B1.ext (Ext.refl _).drew).c2⟩) | go_keep) (first | ((go_at_call 55); (refine (HL.out _ _ (hN.ext (Ext.refl _).drew)).mono ?_); (rintro _ _ ⟨rfl, rfl⟩)))
  replace E0 := E0.drew
  replace T := T.ext (Ext.refl w1).drew
  clear a0 a1 a2 hN B1 HL hw
  have i0 := T.i0; have i1 := T.i1; have i2 := T.i2
  generalize w1.drew = W1 at *
  go_wp2_with fail
  refine (HP.out _).mono ?_
  rintro _ w2 ⟨rfl, e2⟩
  go_wp2
  go_ret
  exact ⟨rfl, E0.trans e2⟩

set_option maxRecDepth 10000 in
set_option maxHeartbeats 1000000 in
theorem nearest_main (w : World) (A : Option Addr) (l c m Bl C : Nat) (E H q r : Int) (hN : N w (.slice A l c) m) (hS : ∀ w', Ext w w' → Calls Tryd.prog 54 #[.agg #[.bool false, .slice A l c, .int .i64 E]] w' (RetE w' (.int .i64 1)))
    (hlen : ∀ w' v, N w' v m → Calls Tryd.prog 55 #[v] w' fun a w'' => a = .returned (.int .i64 (Bl : Int)) ∧ w' = w'') (hw : IntKind.i64.wrap ((Bl : Int) + E) = H) (hH : H ≤ 1024)
    (hw2 : IntKind.i64.wrap (H - 53) = H - 53) (hmx : max (H - 53) (-1074) = q)
    (hr : ∀ w', Ext w w' → Calls Tryd.prog 56 #[.agg #[.bool false, .slice A l c, .int .i64 E], .int .i64 q] w' (RetE w' (.int .i64 C)))
    (hw5 : wrap64 ((q + 1074) * 4503599627370496 + (C : Int)) = r) :
    Calls Tryd.prog 39 #[.agg #[.bool false, .slice A l c, .int .i64 E]] w (RetE w (.int .i64 r)) := by
  have HS := Lib.hid hS
  have HL := Lib.hid hlen
  have HR := Lib.hid hr
  clear hS hlen hr
  have HM := Lib.hid (And.intro hmx hw5)
  clear hmx hw5
  go_enter Tryd.func39, Tryd.ntmps39
  go_wp2_with fail
  refine (HS.out _ ((Ext.refl w).alloc _)).mono ?_
  rintro _ w1 ⟨rfl, e1⟩
  have B1 : Box w1 w.heap.size (.bool false) (.slice A l c) (.int .i64 E) := Box.at e1 rfl
  have E0 : Ext w w1 := ((Ext.refl w).alloc _).trans e1
  clear e1 HS
  replace hN := hN.ext E0
  obtain ⟨a0, a1, a2⟩ := id B1
  go_wp2
  go_region_held3 (fun w' => w'.cell? ⟨w.heap.size, 0, none⟩ = some (.bool false) ∧ w'.cell? ⟨w.heap.size, 1, none⟩ = some (.slice A l c) ∧ w'.cell? ⟨w.heap.size, 2, none⟩ = some (.int .i64 E)) (first | (with_reducible exact ⟨(B1.ext (Ext.refl _).drew).c0, (B1.ext (Ext.refl _).drew).c1, (B1.ext (Ext.refl _).drew).c2⟩) | go_keep) (first | ((go_at_call 55); (refine (HL.out _ _ (hN.ext (Ext.refl _).drew)).mono ?_); (rintro _ _ ⟨rfl, rfl⟩)))
  replace E0 := E0.drew
  replace B1 := B1.ext (Ext.refl w1).drew
  clear a0 a1 a2 hN HL hw
  generalize w1.drew = W1 at *
  obtain ⟨a0, a1, a2⟩ := id B1
  obtain ⟨hmx, hw5⟩ := HM.out
  clear HM
  go_wp2_with fail
  refine (HR.out _ E0).mono ?_
  rintro _ w2 ⟨rfl, e2⟩
  go_wp2
  go_ret
  exact ⟨by rw [← hw5]; rfl, E0.trans e2⟩

end Go.Proofs.YtdfkhaajeojeeaaDoor

/- What package flo's rounded and nearest answer. -/
namespace Go.Proofs.YtdfkhaajeojeeaaDoor
open Go.RowKit
set_option linter.unusedVariables false

/-! What is rounded, and its place. -/
theorem Rg.of_bits {z e : Int} {n P Q : Nat} (hz : z.natAbs < 2 ^ n) (h1 : -(P : Int) ≤ e) (h2 : e + n ≤ Q) : Rg P Q (dy z e) := by
  obtain ⟨j, hj⟩ : ∃ j : Nat, e = -(P : Int) + (j : Int) := ⟨(e + P).toNat, by omega⟩
  have hn : (z * 2 ^ j).natAbs < 2 ^ (P + Q) := by
    rw [Int.natAbs_mul, Int.natAbs_pow]
    have h3 : z.natAbs * 2 ^ j < 2 ^ n * 2 ^ j := Nat.mul_lt_mul_of_pos_right hz (Nat.two_pow_pos j)
    rw [← Nat.pow_add] at h3
    exact Nat.lt_of_lt_of_le h3 (Nat.pow_le_pow_right (by omega) (by omega))
  have hb : ((z * 2 ^ j).natAbs : Int) < 2 ^ (P + Q) := by
    have : ((z * 2 ^ j).natAbs : Int) < ((2 ^ (P + Q) : Nat) : Int) := by exact_mod_cast hn
    rw [Int.natCast_pow] at this; exact this
  exact ⟨z * 2 ^ j, by rw [hj, dy_up], by omega, by omega⟩
theorem place_nr {m : Nat} {E q : Int} {C : Nat} (hm : m ≠ 0) (hq : q = max (E + (m.log2 : Nat) - 52) (-1074)) (hh : E + (m.log2 : Nat) < 1024) (hC : Ieee.Toward.even.cut false (m <<< (E - q).toNat) (q - E).toNat = C) :
    Nr (dy (m : Int) E) ((q + 1074).toNat * 4503599627370496 + C) ∧ C ≤ 9007199254740992 ∧ (q + 1074).toNat * 4503599627370496 + C ≤ 9218868437227405312 := by
  obtain ⟨r, hr, hN⟩ := nearest_spec false m E
  obtain ⟨L, hL⟩ : ∃ L : Nat, q = -1074 + (L : Int) := ⟨(q + 1074).toNat, by omega⟩
  obtain ⟨_, k2⟩ := kept_bounds false hm hq.symm hL hC
  have h1 : Ieee.double.nearest false m E = Ieee.double.word false (min ((q + 1074).toNat * 4503599627370496 + Ieee.Toward.even.cut false (m <<< (E - q).toNat) (q - E).toNat) 9218868437227405312) := by
    unfold Ieee.Format.nearest
    rw [if_neg hm, d_fb, d_lp, d_bn, d_in]
    dsimp only
    have e1 : max (E + (m.log2 : Nat) - ((52 : Nat) : Int)) (-1074) = q := hq.symm
    rw [e1, show q - -1074 = q + 1074 by omega]
  rw [hC, hr] at h1
  have h2 : r = min ((q + 1074).toNat * 4503599627370496 + C) 9218868437227405312 := by
    have hlt : min ((q + 1074).toNat * 4503599627370496 + C) 9218868437227405312 < 9223372036854775808 := Nat.lt_of_le_of_lt (Nat.min_le_right _ _) (by decide)
    have := congrArg frung h1
    rwa [frung_word false hN.lt63, frung_word false hlt] at this
  have hle : (q + 1074).toNat ≤ 2045 := by clear h1 h2 hN hr hC; omega
  generalize (q + 1074).toNat = t at *
  have hb : t * 4503599627370496 + C ≤ 9218868437227405312 := by clear h1 h2 hN hr hC hq hL hh; omega
  have h3 : r = t * 4503599627370496 + C := h2.trans (Nat.min_eq_left hb)
  rw [h3] at hN
  exact ⟨hN, k2, hb⟩
theorem cmp_mid (m K : Nat) (E q : Int) (hK : q = E + ((K + 1 : Nat) : Int)) : cmpD (dy (m : Int) E) (dy ((m / 2 ^ (K + 1) * 2 + 1 : Nat) : Int) (q - 1)) = cmpI ((2 * (m % 2 ^ (K + 1)) : Nat) : Int) ((2 ^ (K + 1) : Nat) : Int) := by
  have e1 : q - 1 = E + (K : Int) := by omega
  rw [e1, ← dy_up, cmpD_dy]
  have hd := Nat.div_add_mod m (2 ^ (K + 1))
  have e2 : ((m / 2 ^ (K + 1) * 2 + 1 : Nat) : Int) * 2 ^ K = (((m / 2 ^ (K + 1) * 2 + 1) * 2 ^ K : Nat) : Int) := by rw [Int.natCast_mul, Int.natCast_pow]; rfl
  rw [e2]
  have e3 : 2 ^ (K + 1) = 2 * 2 ^ K := by rw [Nat.pow_succ, Nat.mul_comm]
  have e4 : (m / 2 ^ (K + 1) * 2 + 1) * 2 ^ K = 2 ^ (K + 1) * (m / 2 ^ (K + 1)) + 2 ^ K := by
    rw [Nat.add_mul, Nat.one_mul, e3, Nat.mul_comm (2 * 2 ^ K), Nat.mul_assoc]
  rw [e4]
  generalize 2 ^ (K + 1) * (m / 2 ^ (K + 1)) = b at *
  generalize m % 2 ^ (K + 1) = r at *
  generalize 2 ^ (K + 1) = G at *
  generalize 2 ^ K = g at *
  clear e2 e4
  rcases Int.lt_trichotomy (m : Int) ((b + g : Nat) : Int) with h | h | h
  · rw [cmpI_lt h, cmpI_lt (by omega)]
  · rw [cmpI_eq h, cmpI_eq (by omega)]
  · rw [cmpI_gt h, cmpI_gt (by omega)]

theorem rg_mid (B : Nat) (q : Int) (hB : B ≤ 9007199254740992) (h1 : -1074 ≤ q) (h2 : q ≤ 971) : Rg 1100 1100 (dy ((B * 2 + 1 : Nat) : Int) (q - 1)) := by
  refine Rg.of_bits (n := 55) ?_ (by omega) (by omega)
  have : 2 ^ 55 = 36028797018963968 := by decide
  rw [Int.natAbs_natCast, this]
  omega
theorem fround_any (w : World) (A : Option Addr) (l c m C P Q : Nat) (E q : Int) (hm : m ≠ 0) (hN : N w (.slice A l c) m) (hD : Dn w (.agg #[.bool false, .slice A l c, .int .i64 E]) (dy (m : Int) E)) (hR : Rg P Q (dy (m : Int) E)) (hPQ : P + Q ≤ 4800) (hL : Lt 200 m)
    (hE : -6000 ≤ E ∧ E ≤ 6000) (hq : q = max (E + (m.log2 : Nat) - 52) (-1074)) (hh : E + (m.log2 : Nat) < 1024) (hC : Ieee.Toward.even.cut false (m <<< (E - q).toNat) (q - E).toNat = C) (T : Tg w) :
    Calls Tryd.prog 56 #[.agg #[.bool false, .slice A l c, .int .i64 E], .int .i64 q] w (RetE w (.int .i64 C)) := by
  obtain ⟨_, hC2, _⟩ := place_nr hm hq hh hC
  have hq1 : -1074 ≤ q := by omega
  have hq2 : q ≤ 971 := by omega
  clear hq hh
  rcases Int.lt_or_le E q with hk | hk
  · obtain ⟨K, hK⟩ : ∃ K : Nat, q = E + ((K + 1 : Nat) : Int) := ⟨(q - E - 1).toNat, by omega⟩
    have e1 : (E - q).toNat = 0 := by omega
    have e2 : (q - E).toNat = K + 1 := by omega
    have e3 : q - E = ((K + 1 : Nat) : Int) := by omega
    rw [e1, Nat.shiftLeft_zero, e2, ← rne_cut] at hC
    have hB : m / 2 ^ (K + 1) ≤ 9007199254740992 := by
      have : m / 2 ^ (K + 1) ≤ rne m (K + 1) := Nat.le_add_right _ _
      omega
    have h1 : ∀ w' v, N w' v m → Calls Tryd.prog 68 #[v, .int .i64 (E - q)] w' (RetN w' m) := fun w' v hv => shl_neg w' v m _ (by omega) hv (hL.mono (by omega))
    have h2 : ∀ w' v, N w' v m → Calls Tryd.prog 49 #[v, .int .i64 (q - E)] w' (RetN w' (m / 2 ^ (K + 1))) := fun w' v hv => by rw [e3]; exact shr_nat w' v m (K + 1) (by omega) hv (hL.mono (by omega))
    have hRy : Rg 1100 1100 (dy ((m / 2 ^ (K + 1) * 2 + 1 : Nat) : Int) (q - 1)) := rg_mid _ q hB hq1 hq2
    have h3 : ∀ w' va vb, Dn w' va (dy (m : Int) E) → Dn w' vb (dy ((m / 2 ^ (K + 1) * 2 + 1 : Nat) : Int) (q - 1)) → Calls Tryd.prog 71 #[va, vb] w' (RetE w' (.int .i64 (cmpI ((2 * (m % 2 ^ (K + 1)) : Nat) : Int) ((2 ^ (K + 1) : Nat) : Int)))) := fun w' va vb ha hb => by
      rw [← cmp_mid m K E q hK]; exact cmpD_any w' va vb _ _ P Q 1100 1100 ha hb hR hRy hPQ (by omega)
    have hbE : -10000 ≤ E ∧ E ≤ 10000 := by omega
    have hbq : -10000 ≤ q ∧ q ≤ 10000 := by omega
    rw [← hC]
    unfold rne
    clear hC hC2
    generalize m / 2 ^ (K + 1) = B at *
    rcases Int.lt_trichotomy ((2 * (m % 2 ^ (K + 1)) : Nat) : Int) ((2 ^ (K + 1) : Nat) : Int) with t | t | t
    · have k : 2 * (m % 2 ^ (K + 1)) < 2 ^ (K + 1) := by exact_mod_cast t
      rw [if_neg (fun h => by omega)]
      exact round_lt w A l c m m B E q _ _ hN hD h1 h2 hB hbE hbq h3 T (cmpI_lt t)
    · have k : 2 * (m % 2 ^ (K + 1)) = 2 ^ (K + 1) := by exact_mod_cast t
      rcases Nat.mod_two_eq_zero_or_one B with p | p
      · rw [if_neg (fun h => by omega)]
        exact round_even w A l c m m B E q _ _ hN hD h1 h2 hB hbE hbq h3 T (cmpI_eq t) (by omega)
      · rw [if_pos (.inr ⟨k.symm, p⟩)]
        exact round_odd w A l c m m B E q _ _ hN hD h1 h2 hB hbE hbq h3 T (cmpI_eq t) (by omega)
    · have k : 2 ^ (K + 1) < 2 * (m % 2 ^ (K + 1)) := by exact_mod_cast t
      rw [if_pos (.inl k)]
      exact round_gt w A l c m m B E q _ _ hN hD h1 h2 hB hbE hbq h3 T (cmpI_gt t)
  · obtain ⟨K, hK⟩ : ∃ K : Nat, E = q + (K : Int) := ⟨(E - q).toNat, by omega⟩
    have e1 : (E - q).toNat = K := by omega
    have e2 : (q - E).toNat = 0 := by omega
    have e3 : E - q = (K : Int) := by omega
    rw [e1, Nat.shiftLeft_eq, e2, ← rne_cut, rne_zero] at hC
    subst hC
    have h1 : ∀ w' v, N w' v m → Calls Tryd.prog 68 #[v, .int .i64 (E - q)] w' (RetN w' (m * 2 ^ K)) := fun w' v hv => by rw [e3]; exact shl_nat w' v m K (by omega) hv (hL.mono (by omega))
    have lB : Lt 400 (m * 2 ^ K) := lt_natof _ (by omega)
    have h2 : ∀ w' v, N w' v (m * 2 ^ K) → Calls Tryd.prog 49 #[v, .int .i64 (q - E)] w' (RetN w' (m * 2 ^ K)) := fun w' v hv => by
      by_cases h0 : K = 0
      · have e4 : q - E = ((0 : Nat) : Int) := by omega
        rw [e4]
        have := shr_nat w' v (m * 2 ^ K) 0 (by omega) hv lB
        rwa [Nat.pow_zero, Nat.div_one] at this
      · exact shr_neg w' v _ _ (by omega) hv lB
    have hx : dy (m : Int) E = dy ((m * 2 ^ K * 2 : Nat) : Int) (q - 1) := by
      have h4 := dy_up (m : Int) q K
      have h5 := dy_up ((m * 2 ^ K : Nat) : Int) (q - 1) 1
      rw [show q - 1 + ((1 : Nat) : Int) = q by omega] at h5
      rw [hK, ← h4]
      rw [Int.natCast_mul (m * 2 ^ K) 2]
      refine Eq.trans ?_ h5.symm
      rw [Int.natCast_mul, Int.natCast_pow]; rfl
    have hRy : Rg 1100 1100 (dy ((m * 2 ^ K * 2 + 1 : Nat) : Int) (q - 1)) := rg_mid _ q hC2 hq1 hq2
    have hcm : cmpD (dy (m : Int) E) (dy ((m * 2 ^ K * 2 + 1 : Nat) : Int) (q - 1)) = -1 := by rw [hx, cmpD_dy]; exact cmpI_lt (by omega)
    have h3 : ∀ w' va vb, Dn w' va (dy (m : Int) E) → Dn w' vb (dy ((m * 2 ^ K * 2 + 1 : Nat) : Int) (q - 1)) → Calls Tryd.prog 71 #[va, vb] w' (RetE w' (.int .i64 (-1))) := fun w' va vb ha hb => by
      rw [← hcm]; exact cmpD_any w' va vb _ _ P Q 1100 1100 ha hb hR hRy hPQ (by omega)
    exact round_lt w A l c m _ _ E q _ _ hN hD h1 h2 hC2 (by omega) (by omega) h3 T rfl

/-- The place of the double nearest to a number that is not below 0. -/
theorem nearest_any (w : World) (A : Option Addr) (l c m : Nat) (E : Int) (hN : N w (.slice A l c) m) (hD : Dn w (.agg #[.bool false, .slice A l c, .int .i64 E]) (dy (m : Int) E)) (hL : Lt 200 m) (hE : -3700 ≤ E ∧ E ≤ 6000) (T : Tg w) :
    ∃ r : Nat, Nr (dy (m : Int) E) r ∧ ∀ w', Ext w w' → Calls Tryd.prog 39 #[.agg #[.bool false, .slice A l c, .int .i64 E]] w' (RetE w' (.int .i64 r)) := by
  have hS := fun w' (h : Ext w w') => signD_any w' _ _ (hD.ext h)
  rw [cmpD_zero] at hS
  by_cases h0 : m = 0
  · subst h0
    refine ⟨0, ?_, fun w' hw => nearest_zero w' A l c E (fun w'' h => hS w'' (hw.trans h))⟩
    have : dy ((0 : Nat) : Int) E = rval 0 := by rw [rval_zero]; exact dy_zero _
    rw [this]; exact Nr.rval (by omega)
  · rw [cmpI_gt (by omega)] at hS
    have hb := bl_log h0
    have hbits := hL.bits
    have hlen : ∀ (w' : World) (v : Value), N w' v m → Calls Tryd.prog 55 #[v] w' fun a w'' => a = .returned (.int .i64 ((bl m : Nat) : Int)) ∧ w' = w'' := fun w' v hv => len_any w' v _ hv (hL.mono (by omega))
    have hlg1 : 2 ^ m.log2 ≤ m := Nat.log2_self_le h0
    have hw1 : IntKind.i64.wrap ((bl m : Int) + E) = (bl m : Int) + E := IntWalk.i64_in _ (by omega)
    rcases Int.lt_or_le 1024 ((bl m : Int) + E) with hh | hh
    · have hbig : rval 9218868437227405312 ≤ dy (m : Int) E := by
        have hi : rval 9218868437227405312 = dy 1 1024 := by decide +kernel
        have h1 : dy 1 (E + (m.log2 : Int)) ≤ dy (m : Int) E := by
          rw [← dy_up]
          apply dy_le.2
          have : ((2 ^ m.log2 : Nat) : Int) ≤ m := by exact_mod_cast hlg1
          push_cast at this
          omega
        have h2 : dy 1 1024 ≤ dy 1 (E + (m.log2 : Int)) := by
          obtain ⟨t, ht⟩ : ∃ t : Nat, E + (m.log2 : Int) = 1024 + (t : Int) := ⟨(E + (m.log2 : Int) - 1024).toNat, by omega⟩
          rw [ht, ← dy_up]
          apply dy_le.2
          have := pow2_pos t
          omega
        rw [hi]
        grind
      exact ⟨9218868437227405312, nr_inf hbig, fun w' hw => nearest_inf w' A l c m (bl m) E _ (hN.ext hw) (fun w'' h => hS w'' (hw.trans h)) hlen hw1 hh (T.ext hw)⟩
    · obtain ⟨q, hq⟩ : ∃ q, q = max (E + (m.log2 : Nat) - 52) (-1074) := ⟨_, rfl⟩
      obtain ⟨C, hC⟩ : ∃ C, Ieee.Toward.even.cut false (m <<< (E - q).toNat) (q - E).toNat = C := ⟨_, rfl⟩
      have hlt : E + (m.log2 : Nat) < 1024 := by omega
      obtain ⟨hn, hC2, hP⟩ := place_nr h0 hq hlt hC
      have hR : Rg 3700 1024 (dy (m : Int) E) := Rg.of_bits (n := bl m) (by rw [Int.natAbs_natCast]; exact bl_lt m) (by omega) (by omega)
      refine ⟨_, hn, fun w' hw => ?_⟩
      have hmx : max ((bl m : Int) + E - 53) (-1074) = q := by omega
      have hq1 : -1074 ≤ q := by omega
      have e5 : (((q + 1074).toNat * 4503599627370496 + C : Nat) : Int) = (q + 1074) * 4503599627370496 + (C : Int) := by
        rw [Int.natCast_add, Int.natCast_mul, Int.toNat_of_nonneg (by omega)]; rfl
      have hw5 : wrap64 ((q + 1074) * 4503599627370496 + (C : Int)) = (((q + 1074).toNat * 4503599627370496 + C : Nat) : Int) := by
        rw [← e5]
        generalize (q + 1074).toNat * 4503599627370496 + C = R at hP
        exact IntWalk.wrap64_in _ (by omega)
      exact nearest_main w' A l c m (bl m) C E _ q _ (hN.ext hw) (fun w'' h => hS w'' (hw.trans h)) hlen hw1 hh (IntWalk.i64_in _ (by omega)) hmx
        (fun w'' h => fround_any w'' A l c m C 3700 1024 E q h0 (hN.ext (hw.trans h)) (hD.ext (hw.trans h)) hR (by omega) hL (by omega) hq hlt hC (T.ext (hw.trans h))) hw5

end Go.Proofs.YtdfkhaajeojeeaaDoor

/- Walks of package flo: Near. -/
namespace Go.Proofs.YtdfkhaajeojeeaaDoor
open Go.RowKit
set_option linter.unusedVariables false

set_option maxRecDepth 10000 in
set_option maxHeartbeats 1000000 in
theorem nearF_pos (w : World) (A : Option Addr) (l c : Nat) (E r : Int) (b : Nat) (hn : ∀ w', Ext w w' → Calls Tryd.prog 39 #[.agg #[.bool false, .slice A l c, .int .i64 E]] w' (RetE w' (.int .i64 r)))
    (ha : ∀ w', Calls Tryd.prog 37 #[.int .i64 r] w' fun e w'' => e = .returned (.float .f64 b) ∧ w' = w'') :
    Calls Tryd.prog 18 #[.agg #[.bool false, .slice A l c, .int .i64 E]] w (RetE w (.float .f64 b)) := by
  have HN := Lib.hid hn
  have HA := Lib.hid ha
  clear hn ha
  go_enter Tryd.func18, Tryd.ntmps18
  go_wp2_with fail
  refine (HN.out _ ((Ext.refl w).alloc _)).mono ?_
  rintro _ w1 ⟨rfl, e1⟩
  have B1 : Box w1 w.heap.size (.bool false) (.slice A l c) (.int .i64 E) := Box.at e1 rfl
  obtain ⟨a0, a1, a2⟩ := id B1
  go_wp2_with fail
  refine (HA.out _).mono ?_
  rintro _ _ ⟨rfl, rfl⟩
  go_wp2
  go_ret
  exact ⟨rfl, ((Ext.refl w).alloc _).trans e1⟩
set_option maxRecDepth 10000 in
set_option maxHeartbeats 1000000 in
theorem nearF_neg (w : World) (A : Option Addr) (l c : Nat) (E r : Int) (b : Nat) (hn : ∀ w', Ext w w' → Calls Tryd.prog 39 #[.agg #[.bool false, .slice A l c, .int .i64 E]] w' (RetE w' (.int .i64 r)))
    (ha : ∀ w', Calls Tryd.prog 37 #[.int .i64 (-r)] w' fun e w'' => e = .returned (.float .f64 b) ∧ w' = w'') (hw : IntKind.i64.wrap (-r) = -r) :
    Calls Tryd.prog 18 #[.agg #[.bool true, .slice A l c, .int .i64 E]] w (RetE w (.float .f64 b)) := by
  have HN := Lib.hid hn
  have HA := Lib.hid ha
  clear hn ha
  go_enter Tryd.func18, Tryd.ntmps18
  go_wp2_with fail
  refine (HN.out _ ((Ext.refl w).alloc _)).mono ?_
  rintro _ w1 ⟨rfl, e1⟩
  have B1 : Box w1 w.heap.size (.bool true) (.slice A l c) (.int .i64 E) := Box.at e1 rfl
  obtain ⟨a0, a1, a2⟩ := id B1
  go_wp2_with fail
  refine (HA.out _).mono ?_
  rintro _ _ ⟨rfl, rfl⟩
  go_wp2
  go_ret
  exact ⟨rfl, ((Ext.refl w).alloc _).trans e1⟩
theorem at_rn {d : Dyadic} {r : Nat} {k : Int} (h : Nr (absD d) r) (hk : k.natAbs = r) (h1 : d < 0 → k ≤ 0) (h2 : 0 < d → 0 ≤ k) : Rn d (atw k) := by
  have hc := h.cap
  obtain ⟨_, s2, s3, s4, _⟩ := atw_spec (k := k) (by omega) (by omega)
  refine ⟨s4, by rw [s2, hk]; exact h, fun hd hr => ?_, fun hd hr => ?_⟩
  · rw [s3]; rw [s2] at hr; have := h1 hd; exact decide_eq_true (by omega)
  · rw [s3]; have := h2 hd; exact decide_eq_false (by omega)
/-- The float nearest to a number. -/
theorem near_any (w : World) (v : Value) (z e : Int) (h : Dn w v (dy z e)) (hc : Canon z e) (hL : Lt 200 z.natAbs) (he : -3700 ≤ e ∧ e ≤ 6000) (T : Tg w) : Calls Tryd.prog 18 #[v] w (RetFE w (dy z e)) := by
  obtain ⟨A, l, c, z', e', rfl, hN, hc', hd, hl, _⟩ := h.parts
  obtain ⟨rfl, rfl⟩ := hc.uniq hc' hd
  clear hd hc'
  have hD : Dn w (.agg #[.bool false, .slice A l c, .int .i64 e]) (dy (z.natAbs : Int) e) := by
    refine ⟨_, (z.natAbs : Int), e, by rw [decide_eq_false (by omega)], by rw [Int.natAbs_natCast]; exact hN, ⟨?_⟩, rfl⟩
    rcases hc.out with ⟨k1, k2⟩ | k
    · left; omega
    · right; omega
  obtain ⟨r, hr, hn⟩ := nearest_any w A l c z.natAbs e hN hD hL he T
  have hcap := hr.cap
  rw [← absD_dy] at hr
  by_cases hz : z < 0
  · rw [decide_eq_true hz]
    have h0 : dy z e < 0 := by rw [← dy_zero e]; exact dy_lt.2 hz
    refine (nearF_neg w A l c e r (atw (-(r : Int))) hn (fun w' => flat_any w' _ (by omega) (by omega)) (IntWalk.i64_in _ (by omega))).mono ?_
    rintro _ w' ⟨rfl, hE⟩
    exact ⟨_, rfl, at_rn hr (by omega) (fun _ => by omega) (fun k => by grind), hE⟩
  · rw [decide_eq_false hz]
    have h0 : 0 ≤ dy z e := by rw [← dy_zero e]; exact dy_le.2 (by omega)
    refine (nearF_pos w A l c e r (atw (r : Int)) hn (fun w' => flat_any w' _ (by omega) (by omega))).mono ?_
    rintro _ w' ⟨rfl, hE⟩
    exact ⟨_, rfl, at_rn hr (by omega) (fun k => by grind) (fun _ => by omega), hE⟩

end Go.Proofs.YtdfkhaajeojeeaaDoor

