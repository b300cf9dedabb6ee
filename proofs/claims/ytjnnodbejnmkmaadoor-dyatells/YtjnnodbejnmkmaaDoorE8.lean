/- Walks of package dya: Cmp. -/
import Derived.Test.YtjnnodbejnmkmaaDoorE7
namespace Go.Proofs.YtjnnodbejnmkmaaDoor
open Go.RowKit

set_option maxHeartbeats 1000000 in
theorem cmpD_main (w : World) (A A' : Option Addr) (l c l' c' : Nat) (e e' : Int) (n1 n2 : Bool) (s1 s2 t s r : Int)
    (hs1 : ∀ w', Ext w w' → Calls Tryd.prog 37 #[.agg #[.bool n1, .slice A l c, .int .i64 e]] w' (RetE w' (.int .i64 s1)))
    (hs2 : ∀ w', Ext w w' → Calls Tryd.prog 37 #[.agg #[.bool n2, .slice A' l' c', .int .i64 e']] w' (RetE w' (.int .i64 s2)))
    (ht : t = cmpI s1 s2) (h1 : t ≠ 0 → r = t)
    (hc : t = 0 → ∀ w', Ext w w' → Calls Tryd.prog 50 #[.agg #[.bool n1, .slice A l c, .int .i64 e], .agg #[.bool n2, .slice A' l' c', .int .i64 e']] w' (RetE w' (.int .i64 s)))
    (h2 : t = 0 → r = s1 * s) (hw : IntKind.i64.wrap (s1 * s) = s1 * s) :
    Calls Tryd.prog 18 #[.agg #[.bool n1, .slice A l c, .int .i64 e], .agg #[.bool n2, .slice A' l' c', .int .i64 e']] w (RetE w (.int .i64 r)) := by
  have HS1 := Lib.hid hs1
  have HS2 := Lib.hid hs2
  have HC := Lib.hid hc
  have H1 := Lib.hid h1
  have H2 := Lib.hid h2
  have HWR := Lib.hid hw
  have HT : Hid (∀ w' : World, Calls Tryd.prog 49 #[.int .i64 s1, .int .i64 s2] w' fun x w'' => x = .returned (.int .i64 t) ∧ w' = w'') := Lib.hid (fun w' => by rw [ht]; exact compare_any _ _ w')
  clear hs1 hs2 hc h1 h2 ht hw
  go_enter Tryd.func18, Tryd.ntmps18
  go_upto_region 1 with fail
  obtain ⟨W0, hW0⟩ : ∃ W0, ((w.alloc (.cells #[.bool n1, .slice A l c, .int .i64 e] 24)).alloc (.cells #[.bool n2, .slice A' l' c', .int .i64 e'] 24)) = W0 := ⟨_, rfl⟩
  have E0 : Ext w W0 := by rw [← hW0]; exact ((Ext.refl w).alloc _).alloc _
  have HW := Lib.hid hW0
  clear hW0
  go_cut [5, 6] from 8 (fun p5 p6 wx => ∃ g h : Nat, p5 = .pointer (some ⟨g, 0, none⟩) ∧ p6 = .pointer (some ⟨h, 0, none⟩) ∧ Box wx g (.bool n1) (.slice A l c) (.int .i64 e) ∧ Box wx h (.bool n2) (.slice A' l' c') (.int .i64 e') ∧ Ext W0 wx)
  case first =>
    clear E0
    go_region
    all_goals (
      go_wp2_with fail
      go_meet
      case rel => exact ⟨_, _, rfl, rfl, by first | exact Box.at (Ext.refl _).drew (by simp) | exact Box.at ((Ext.refl _).alloc _).drew (by simp), by first | exact Box.at (Ext.refl _).drew (by simp) | exact Box.at ((Ext.refl _).alloc _).drew (by simp), by rw [← HW.out]; exact (((Ext.refl _).alloc _).alloc _).drew⟩)
  case rest =>
    obtain ⟨g, h, rfl, rfl, B1, B2, F0⟩ := hcut
    replace E0 := E0.trans F0
    clear HW F0
    obtain ⟨a0, a1, a2⟩ := id B1
    obtain ⟨b0, b1, b2⟩ := id B2
    go_wp2
    go_region_held3 (fun w' => w'.cell? ⟨g, 0, none⟩ = some (.bool n1) ∧ w'.cell? ⟨g, 1, none⟩ = some (.slice A l c) ∧ w'.cell? ⟨g, 2, none⟩ = some (.int .i64 e) ∧ w'.cell? ⟨h, 0, none⟩ = some (.bool n2) ∧ w'.cell? ⟨h, 1, none⟩ = some (.slice A' l' c') ∧ w'.cell? ⟨h, 2, none⟩ = some (.int .i64 e'))
      (first | (with_reducible exact six (B1.ext F3) (B2.ext F3)) | (with_reducible exact six (B1.ext F2) (B2.ext F2)) | (with_reducible exact six (B1.ext F1) (B2.ext F1)) | go_keep)
      (first | ((have hF := F2); (go_at_call 49); (refine (HT.out _).mono ?_); (rintro _ w3 ⟨rfl, e3⟩); (have F3 : Ext wc w3 := by rw [← e3]; exact F2); (clear HS2 HT e3)) | ((have hF := F1); (go_at_call 37); (refine (HS2.out _ (E0.trans F1)).mono ?_); (rintro _ w2 ⟨rfl, e2⟩); (have F2 : Ext wc w2 := F1.trans e2)) | ((go_at_call 37); (refine (HS1.out _ (E0.trans (Ext.refl wc).drew)).mono ?_); (rintro _ w1 ⟨rfl, e1⟩); (have F1 : Ext wc w1 := (Ext.refl wc).drew.trans e1)))
    by_cases h0 : t = 0
    · subst h0
      replace B1 := B1.ext F3
      replace B2 := B2.ext F3
      replace E0 := E0.trans F3
      clear a0 a1 a2 b0 b1 b2 F3 F2 F1 e1 e2
      obtain ⟨a0, a1, a2⟩ := id B1
      obtain ⟨b0, b1, b2⟩ := id B2
      generalize hW1 : w3 = W1 at *
      have hwr := HWR.out
      go_wp2
      go_region_held3 (fun w' => w'.cell? ⟨g, 0, none⟩ = some (.bool n1) ∧ w'.cell? ⟨g, 1, none⟩ = some (.slice A l c) ∧ w'.cell? ⟨g, 2, none⟩ = some (.int .i64 e) ∧ w'.cell? ⟨h, 0, none⟩ = some (.bool n2) ∧ w'.cell? ⟨h, 1, none⟩ = some (.slice A' l' c') ∧ w'.cell? ⟨h, 2, none⟩ = some (.int .i64 e'))
        (first | (with_reducible exact six (B1.ext G2) (B2.ext G2)) | (with_reducible exact six (B1.ext G1) (B2.ext G1)) | go_keep)
        (first | ((have hG := G1); (go_at_call 50); (refine (HC.out trivial _ (E0.trans G1)).mono ?_); (rintro _ w5 ⟨rfl, e5⟩); (have G2 : Ext W1 w5 := G1.trans e5)) | ((go_at_call 37); (refine (HS1.out _ (E0.trans (Ext.refl W1).drew)).mono ?_); (rintro _ w4 ⟨rfl, e4⟩); (have G1 : Ext W1 w4 := (Ext.refl W1).drew.trans e4)))
      go_wp2
      go_ret
      exact ⟨by rw [H2.out trivial]; rfl, E0.trans G2⟩
    · have h0' : (t == 0) = false := beq_eq_false_iff_ne.2 h0
      go_wp2
      go_ret
      exact ⟨by rw [H1.out h0]; rfl, E0.trans F3⟩

theorem cmpI_range (x y : Int) : -1 ≤ cmpI x y ∧ cmpI x y ≤ 1 := by unfold cmpI; split <;> (try split) <;> omega
theorem cmpD_range (x y : Dyadic) : -1 ≤ cmpD x y ∧ cmpD x y ≤ 1 := by unfold cmpD; split <;> (try split) <;> omega
theorem small_mul {x y : Int} (h : -1 ≤ x ∧ x ≤ 1) (k : -1 ≤ y ∧ y ≤ 1) : -1 ≤ x * y ∧ x * y ≤ 1 := by
  obtain rfl | rfl | rfl : x = -1 ∨ x = 0 ∨ x = 1 := by omega
  all_goals omega
theorem cmpD_any (w : World) (va vb : Value) (x y : Dyadic) (P Q P' Q' : Nat) (ha : Dn w va x) (hb : Dn w vb y) (hx : Rg P Q x) (hy : Rg P' Q' y) (h1 : P + Q ≤ 4800) (h2 : P' + Q' ≤ 4800) : Calls Tryd.prog 18 #[va, vb] w (RetE w (.int .i64 (cmpD x y))) := by
  have Sa := fun w' (hE : Ext w w') => nsign_any w' va x (ha.ext hE)
  have Sb := fun w' (hE : Ext w w') => nsign_any w' vb y (hb.ext hE)
  obtain ⟨A, l, c, z, e, rfl, hN, hc, rfl, hl, _⟩ := ha.parts
  obtain ⟨A', l', c', z', e', rfl, hN', hc', rfl, hl', _⟩ := hb.parts
  obtain ⟨b1, b2, b3⟩ := hx.canon hc
  obtain ⟨b1', b2', b3'⟩ := hy.canon hc'
  have lz := (hx.lt hc (by omega)).mono (show 200 ≤ 400 by omega)
  have lz' := (hy.lt hc' (by omega)).mono (show 200 ≤ 400 by omega)
  rw [cmpD_zero] at Sa Sb
  obtain ⟨k1, k2⟩ := signs_cmp (z := z) (z' := z') (e := e) (e' := e')
  refine cmpD_main w A A' l c l' c' e e' _ _ _ _ _ (szD z e z' e') _ Sa Sb rfl k1 (fun h w' hE => sizes_any w' A A' l c l' c' z z' e e' _ _ (hN.ext hE) (hN'.ext hE) lz lz' (by omega) (by omega) hc hc' (k2 h).2) (fun h => (k2 h).1) ?_
  have := small_mul (cmpI_range z 0) (cmpD_range (dy (z.natAbs : Int) e) (dy (z'.natAbs : Int) e'))
  exact IntWalk.i64_in _ (by unfold szD; omega)

end Go.Proofs.YtjnnodbejnmkmaaDoor
