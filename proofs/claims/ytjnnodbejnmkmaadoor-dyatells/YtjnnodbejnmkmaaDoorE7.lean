/- Walks of package dya: Cmp. -/
import Derived.Test.YtjnnodbejnmkmaaDoorE6
namespace Go.Proofs.YtjnnodbejnmkmaaDoor
open Go.RowKit

/-- Two numbers over one power of two. -/
theorem cmpD_over {z z' e e' mn : Int} {K K' : Nat} (hK : e - mn = (K : Int)) (hK' : e' - mn = (K' : Int)) : cmpD (dy z e) (dy z' e') = cmpI (z * 2 ^ K) (z' * 2 ^ K') := by
  have h1 : dy z e = dy (z * 2 ^ K) mn := by rw [dy_up]; congr 1; omega
  have h2 : dy z' e' = dy (z' * 2 ^ K') mn := by rw [dy_up]; congr 1; omega
  rw [h1, h2, cmpD_dy]
theorem cmpI_heights {p q K K' : Nat} (h : bl p + K < bl q + K') (hq : q ≠ 0) : cmpI ((p : Int) * 2 ^ K) ((q : Int) * 2 ^ K') = -1 := by
  apply cmpI_lt
  have h1 := bl_lt p
  have h2 := bl_le hq
  have h3 : p * 2 ^ K < 2 ^ (bl p + K) := by rw [Nat.pow_add]; exact Nat.mul_lt_mul_of_pos_right h1 (Nat.two_pow_pos K)
  have hb : bl q ≠ 0 := by intro e; have := bl_lt q; rw [e] at this; simp at this; omega
  have h4 : 2 ^ (bl q - 1 + K') ≤ q * 2 ^ K' := by rw [Nat.pow_add]; exact Nat.mul_le_mul_right _ h2
  have h5 := Nat.pow_le_pow_right (show 0 < 2 by omega) (show bl p + K ≤ bl q - 1 + K' by omega)
  have h6 : p * 2 ^ K < q * 2 ^ K' := by omega
  exact_mod_cast h6
theorem cmpI_swap (x y : Int) : cmpI x y = - cmpI y x := by
  unfold cmpI
  rcases Int.lt_trichotomy x y with h | h | h
  · rw [if_pos h, if_neg (by omega), if_neg (by omega)]
  · subst h; simp
  · rw [if_neg (by omega), if_neg (by omega), if_pos h]; rfl
theorem cmpI_neg (x y : Int) : cmpI (-x) (-y) = cmpI y x := by
  unfold cmpI
  rcases Int.lt_trichotomy x y with h | h | h
  · rw [if_neg (by omega), if_neg (by omega), if_neg (by omega), if_neg (by omega)]
  · subst h; simp
  · rw [if_pos (by omega), if_pos (by omega)]
/-- How both sizes stand. -/
def szD (z e z' e' : Int) : Int := cmpD (dy (z.natAbs : Int) e) (dy (z'.natAbs : Int) e')
theorem sz_heights {z z' e e' : Int} (hz : z = 0 ↔ z' = 0) (hc : Canon z e) (hc' : Canon z' e') (h : cmpI (bl z.natAbs + e) (bl z'.natAbs + e') ≠ 0) : szD z e z' e' = cmpI (bl z.natAbs + e) (bl z'.natAbs + e') := by
  obtain ⟨K, hK⟩ : ∃ K : Nat, e - min e e' = (K : Int) := ⟨(e - min e e').toNat, by omega⟩
  obtain ⟨K', hK'⟩ : ∃ K' : Nat, e' - min e e' = (K' : Int) := ⟨(e' - min e e').toNat, by omega⟩
  unfold szD
  rw [cmpD_over hK hK']
  by_cases h0 : z = 0
  · exfalso
    have h0' := hz.1 h0
    subst h0 h0'
    have e1 : e = 0 := by rcases hc.out with k | k <;> omega
    have e2 : e' = 0 := by rcases hc'.out with k | k <;> omega
    subst e1 e2
    exact h (cmpI_eq rfl)
  · have h0' : z' ≠ 0 := fun k => h0 (hz.2 k)
    rcases Int.lt_trichotomy ((bl z.natAbs : Int) + e) (bl z'.natAbs + e') with k | k | k
    · rw [cmpI_lt k]; exact cmpI_heights (by omega) (by omega)
    · exact absurd (cmpI_eq k) h
    · rw [cmpI_gt k, cmpI_swap, cmpI_heights (by omega) (by omega)]; rfl
theorem signs_cmp {z z' e e' : Int} : (cmpI (cmpI z 0) (cmpI z' 0) ≠ 0 → cmpD (dy z e) (dy z' e') = cmpI (cmpI z 0) (cmpI z' 0)) ∧ (cmpI (cmpI z 0) (cmpI z' 0) = 0 → cmpD (dy z e) (dy z' e') = cmpI z 0 * szD z e z' e' ∧ (z = 0 ↔ z' = 0)) := by
  obtain ⟨K, hK⟩ : ∃ K : Nat, e - min e e' = (K : Int) := ⟨(e - min e e').toNat, by omega⟩
  obtain ⟨K', hK'⟩ : ∃ K' : Nat, e' - min e e' = (K' : Int) := ⟨(e' - min e e').toNat, by omega⟩
  unfold szD
  rw [cmpD_over hK hK', cmpD_over hK hK']
  have hA := pow2_pos K
  have hB := pow2_pos K'
  generalize (2 : Int) ^ K = A at *
  generalize (2 : Int) ^ K' = B at *
  have P : ∀ {u v : Int}, 0 < u → 0 < v → 0 < u * v := fun a b => Int.mul_pos a b
  have M : ∀ {u v : Int}, u < 0 → 0 < v → u * v < 0 := fun a b => Int.mul_neg_of_neg_of_pos a b
  rcases Int.lt_trichotomy z 0 with h | h | h <;> rcases Int.lt_trichotomy z' 0 with k | k | k
  · rw [cmpI_lt h, cmpI_lt k, cmpI_eq rfl]
    refine ⟨fun e => absurd rfl e, fun _ => ⟨?_, by omega⟩⟩
    have e1 : (z.natAbs : Int) = -z := by omega
    have e2 : (z'.natAbs : Int) = -z' := by omega
    rw [e1, e2, Int.neg_mul z A, Int.neg_mul z' B, cmpI_neg, cmpI_swap]; omega
  · subst k
    rw [cmpI_lt h, cmpI_eq rfl, cmpI_lt (by omega)]
    exact ⟨fun _ => cmpI_lt (by have := M h hA; omega), fun e => absurd e (by omega)⟩
  · rw [cmpI_lt h, cmpI_gt k, cmpI_lt (by omega)]
    exact ⟨fun _ => cmpI_lt (by have := M h hA; have := P k hB; omega), fun e => absurd e (by omega)⟩
  · subst h
    rw [cmpI_lt k, cmpI_eq rfl, cmpI_gt (by omega)]
    exact ⟨fun _ => cmpI_gt (by have := M k hB; omega), fun e => absurd e (by omega)⟩
  · subst h k
    exact ⟨fun e => absurd (cmpI_eq rfl) e, fun _ => ⟨by simp [cmpI], by omega⟩⟩
  · subst h
    rw [cmpI_gt k, cmpI_eq rfl, cmpI_lt (by omega)]
    exact ⟨fun _ => cmpI_lt (by have := P k hB; omega), fun e => absurd e (by omega)⟩
  · rw [cmpI_gt h, cmpI_lt k, cmpI_gt (by omega)]
    exact ⟨fun _ => cmpI_gt (by have := P h hA; have := M k hB; omega), fun e => absurd e (by omega)⟩
  · subst k
    rw [cmpI_gt h, cmpI_eq rfl, cmpI_gt (by omega)]
    exact ⟨fun _ => cmpI_gt (by have := P h hA; omega), fun e => absurd e (by omega)⟩
  · rw [cmpI_gt h, cmpI_gt k, cmpI_eq rfl]
    refine ⟨fun e => absurd rfl e, fun _ => ⟨?_, by omega⟩⟩
    have e1 : (z.natAbs : Int) = z := by omega
    have e2 : (z'.natAbs : Int) = z' := by omega
    rw [e1, e2]; omega
set_option maxHeartbeats 1000000 in
theorem sizes_main (w : World) (A A' : Option Addr) (l c l' c' p q : Nat) (e e' t s : Int) (n1 n2 : Bool) (hN : N w (.slice A l c) p) (hN' : N w (.slice A' l' c') q) (lz : Lt 400 p) (lz' : Lt 400 q)
    (he : -100000 ≤ e ∧ e ≤ 100000) (he' : -100000 ≤ e' ∧ e' ≤ 100000) (ht : t = cmpI (bl p + e) (bl q + e')) (h1 : t ≠ 0 → s = t)
    (hc : t = 0 → ∀ w', Ext w w' → Calls Tryd.prog 69 #[.agg #[.bool n1, .slice A l c, .int .i64 e], .agg #[.bool n2, .slice A' l' c', .int .i64 e'], .func (.func 70) #[] #[]] w' (RetE w' (.int .i64 s))) :
    Calls Tryd.prog 50 #[.agg #[.bool n1, .slice A l c, .int .i64 e], .agg #[.bool n2, .slice A' l' c', .int .i64 e']] w (RetE w (.int .i64 s)) := by
  have HC := Lib.hid hc
  have H1 := Lib.hid h1
  have hbl := lz.bits
  have hbl' := lz'.bits
  have HG1 := Lib.hid (fun (w' : World) (hE : Ext w w') => nheight_any w' A l c p n1 e (hN.ext hE) lz (by omega))
  have HG2 := Lib.hid (fun (w' : World) (hE : Ext w w') => nheight_any w' A' l' c' q n2 e' (hN'.ext hE) lz' (by omega))
  have HT : Hid (∀ w' : World, Calls Tryd.prog 49 #[.int .i64 (bl p + e), .int .i64 (bl q + e')] w' fun x w'' => x = .returned (.int .i64 t) ∧ w' = w'') := Lib.hid (fun w' => by rw [ht]; exact compare_any _ _ w')
  clear hN hN' ht hc h1 he he' hbl hbl' lz lz'
  generalize (bl p : Int) + e = u at *
  generalize (bl q : Int) + e' = u' at *
  go_enter Tryd.func50, Tryd.ntmps50
  go_wp2
  generalize hW0 : ((w.alloc (.cells #[.bool n1, .slice A l c, .int .i64 e] 48)).alloc (.cells #[.bool n2, .slice A' l' c', .int .i64 e'] 48)) = W0
  have B1 : Box W0 w.heap.size (.bool n1) (.slice A l c) (.int .i64 e) := by rw [← hW0]; exact Box.at ((Ext.refl _).alloc _) rfl
  have B2 : Box W0 (w.heap.size + 1) (.bool n2) (.slice A' l' c') (.int .i64 e') := by rw [← hW0]; exact Box.at (Ext.refl _) (by simp)
  have E0 : Ext w W0 := by rw [← hW0]; exact ((Ext.refl w).alloc _).alloc _
  obtain ⟨p0, p1, p2⟩ := id B1
  obtain ⟨q0, q1, q2⟩ := id B2
  clear hW0
  go_region_held3 (fun w' => w'.cell? ⟨w.heap.size, 0, none⟩ = some (.bool n1) ∧ w'.cell? ⟨w.heap.size, 1, none⟩ = some (.slice A l c) ∧ w'.cell? ⟨w.heap.size, 2, none⟩ = some (.int .i64 e) ∧ w'.cell? ⟨w.heap.size + 1, 0, none⟩ = some (.bool n2) ∧ w'.cell? ⟨w.heap.size + 1, 1, none⟩ = some (.slice A' l' c') ∧ w'.cell? ⟨w.heap.size + 1, 2, none⟩ = some (.int .i64 e'))
    (first | (with_reducible exact six (B1.ext F3) (B2.ext F3)) | (with_reducible exact six (B1.ext F2) (B2.ext F2)) | (with_reducible exact six (B1.ext F1) (B2.ext F1)) | go_keep)
    (first | ((have hF := F2); (go_at_call 49); (refine (HT.out _).mono ?_); (rintro _ w3 ⟨rfl, e3⟩); (have F3 : Ext W0 w3 := by rw [← e3]; exact F2); (clear HG1 HG2 HT e3)) | ((have hF := F1); (go_at_call 68); (refine (HG2.out _ (E0.trans F1)).mono ?_); (rintro _ w2 ⟨rfl, e2⟩); (have F2 : Ext W0 w2 := F1.trans e2)) | ((go_at_call 68); (refine (HG1.out _ (E0.trans (Ext.refl W0).drew)).mono ?_); (rintro _ w1 ⟨rfl, e1⟩); (have F1 : Ext W0 w1 := (Ext.refl W0).drew.trans e1)))
  by_cases h0 : t = 0
  · subst h0
    obtain ⟨p0, p1, p2⟩ := B1.ext F3
    obtain ⟨q0, q1, q2⟩ := B2.ext F3
    go_wp2_with fail
    refine (HC.out trivial _ (E0.trans F3)).mono ?_
    rintro _ w4 ⟨rfl, e4⟩
    go_wp2
    go_ret
    exact ⟨rfl, (E0.trans F3).trans e4⟩
  · have h0' : (t == 0) = false := beq_eq_false_iff_ne.2 h0
    go_wp2
    go_ret
    exact ⟨by rw [H1.out h0]; rfl, E0.trans F3⟩

theorem sizes_any (w : World) (A A' : Option Addr) (l c l' c' : Nat) (z z' e e' : Int) (n1 n2 : Bool) (hN : N w (.slice A l c) z.natAbs) (hN' : N w (.slice A' l' c') z'.natAbs) (lz : Lt 400 z.natAbs) (lz' : Lt 400 z'.natAbs)
    (he : -100000 ≤ e ∧ e ≤ 100000) (he' : -100000 ≤ e' ∧ e' ≤ 100000) (hc : Canon z e) (hc' : Canon z' e') (hz : z = 0 ↔ z' = 0) :
    Calls Tryd.prog 50 #[.agg #[.bool n1, .slice A l c, .int .i64 e], .agg #[.bool n2, .slice A' l' c', .int .i64 e']] w (RetE w (.int .i64 (szD z e z' e'))) := by
  refine sizes_main w A A' l c l' c' z.natAbs z'.natAbs e e' _ _ n1 n2 hN hN' lz lz' he he' rfl (fun h => sz_heights hz hc hc' h) (fun h w' hE => ?_)
  obtain ⟨K, hK⟩ : ∃ K : Nat, e - min e e' = (K : Int) := ⟨(e - min e e').toNat, by omega⟩
  obtain ⟨K', hK'⟩ : ∃ K' : Nat, e' - min e e' = (K' : Int) := ⟨(e' - min e e').toNat, by omega⟩
  have hh : (bl z.natAbs : Int) + e = bl z'.natAbs + e' := by
    unfold cmpI at h
    split at h
    · omega
    · split at h <;> omega
  have b1 := lz.bits
  have b2 := lz'.bits
  have key := commonI_any w' A A' l c l' c' K K' z.natAbs z'.natAbs e e' (min e e') n1 n2 (hN.ext hE) (hN'.ext hE) lz lz' (by omega) (by omega) hK hK' rfl
  have e1 : szD z e z' e' = cmpI ((z.natAbs * 2 ^ K : Nat) : Int) ((z'.natAbs * 2 ^ K' : Nat) : Int) := by
    unfold szD
    rw [cmpD_over hK hK']
    push_cast
    rfl
  rw [e1]
  exact key

end Go.Proofs.YtjnnodbejnmkmaaDoor
