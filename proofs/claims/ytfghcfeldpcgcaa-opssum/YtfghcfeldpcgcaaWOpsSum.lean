/- The walk of law OpsSum. -/
import Derived.Test.YtfghcfeldpcgcaaWOpsEither
import Derived.Test.YtfghcfeldpcgcaaO7
namespace Go.Proofs.Ytfghcfeldpcgcaa
open Go.RowKit
set_option linter.unusedVariables false

theorem row_twoF (w : World) (x y : Nat) (t : TypeId) : RowF (w.alloc (.cells #[.float .f64 x, .float .f64 y] t)) (.slice (some ⟨w.heap.size, 0, none⟩) 2 2) [x, y] := by
  refine ⟨_, 2, rfl, Nat.le_refl _, by unfold maxLen; omega, fun _ => ⟨w.heap.size, 0, rfl, by simp, fun j hj => ?_⟩⟩
  have : j = 0 ∨ j = 1 := by simp at hj; omega
  rcases this with rfl | rfl <;> simp [nthF]
theorem chain_last {xs : List Nat} {a s t d : Nat} (h : Chain xs 0 xs.length s) (k : Chain ([] ++ xs ++ [a]) 0 ([] ++ xs ++ [a]).length t) (hd : AddS s a d) : Al t d := by
  have e : ([] ++ xs ++ [a]).length = xs.length + 1 := by simp
  rw [e] at k
  cases k with
  | more k1 k2 =>
    have e1 : nthF ([] ++ xs ++ [a]) xs.length = a := by simp [nthF]
    rw [e1] at k2
    have h1 := Chain.uniq (fun j hj => by rw [List.nil_append]; unfold nthF; rw [List.getD_eq_getElem?_getD, List.getD_eq_getElem?_getD, List.getElem?_append_left hj]) k1 h
    exact (k2.move h1 (Al.refl _)).uniq hd
theorem chain_none {c : Nat} (h : Chain [] 0 0 c) : c = 0 := by cases h; rfl
theorem chain_one {a c : Nat} (ha : a < 18446744073709551616) (h : Chain [a] 0 1 c) : Al c a := by
  cases h with
  | more h1 h2 =>
    cases h1
    exact addS_zero ha h2.swap
theorem chain_two {a b c : Nat} (ha : a < 18446744073709551616) (h : Chain [a, b] 0 2 c) : AddS a b c := by
  cases h with
  | more h1 h2 =>
    have h3 : AddS _ b c := h2
    refine h3.move ?_ (Al.refl _)
    cases h1 with
    | more k1 k2 =>
      cases k1
      exact addS_zero ha k2.swap

set_option maxRecDepth 10000 in
set_option maxHeartbeats 2000000 in
theorem sum_short (w : World) (v : Value) (xs : List Nat) (h : RowF w v xs) (a : Nat) (ha : a < 18446744073709551616) (b : Nat) (hb : b < 18446744073709551616) (hl : xs.length ≤ 300) : Calls Try.prog 8 #[v, .float .f64 a, .float .f64 b] w (RetE w (.bool true)) := by
  have HR := Lib.hid h
  obtain ⟨A, c, rfl, h1, h2, h3⟩ := h
  clear h3
  have hl' : (xs.length : Int) ≤ 300 := by omega
  go_enter Try.func8, Try.ntmps8
  go_wp2_with fail
  refine (headO_any _).mono ?_
  rintro _ w1 ⟨rfl, e1⟩
  go_wp2_with fail
  refine (sump_any _ _ xs (HR.out.ext e1)).mono ?_
  rintro _ w2 ⟨s, rfl, ls, cs, e2⟩
  have r2 := (HR.out.ext e1).ext e2
  have hL : ([] ++ xs).length ≤ 300 := by simpa using hl
  go_wp2_with (first | ((have hF := o3); (at_builtin; refine wpList_appF _ rfl _ _ rfl w2.heap.size _ ([] ++ xs) _ [a] rfl rfl (o3.alloc _) (row_oneF w3 _ _) (by have := z3; simp; omega) (by simp; omega) ?_); (intro v4 w4 o4 g4)) | ((at_builtin; refine wpList_appF _ rfl _ _ rfl w2.heap.size _ [] _ xs rfl rfl (OwnF.empty w2 _ (Nat.le_refl _)) (r2.ext ((Ext.refl w2).alloc _)) (by simp) (by simp; omega) ?_); (intro v3 w3 o3 g3); (have z3 : w2.heap.size ≤ w3.heap.size := (((Ext.refl w2).alloc _).appF (OwnF.empty w2 _ (Nat.le_refl _)) (Nat.le_refl _) g3).size)))
  have e3 : Ext w2 w3 := ((Ext.refl w2).alloc _).appF (OwnF.empty w2 _ (Nat.le_refl _)) (Nat.le_refl _) g3
  have e4 : Ext w2 w4 := (e3.alloc _).appF (o3.alloc _) (Nat.le_refl _) g4
  have E4 : Ext w w4 := (e1.trans e2).trans e4
  refine (sump_any _ _ _ o4.row).mono ?_
  rintro _ w5 ⟨t, rfl, lt, ct, e5⟩
  replace e5 := E4.trans e5
  clear e1 e2 e3 e4 E4 g3 g4 o3 o4 z3 r2 hF hL
  have HC := Lib.hid (fun d (h : AddS s a d) => chain_last cs ct h)
  have HA := Lib.hid ha
  have HB := Lib.hid hb
  clear cs ct ha hb
  go_wp2_with fail
  refine (addp_any _ s a).mono ?_
  rintro _ w6 ⟨d, rfl, ld, sd, e6⟩
  go_wp2_with fail
  refine (same_al _ (HC.out d sd)).mono ?_
  rintro _ _ ⟨rfl, rfl⟩
  go_wp2_with fail
  refine (sump_any _ _ _ (RowF.nil _ none 0 (by simp [maxLen]))).mono ?_
  rintro _ w7 ⟨z, rfl, lz, cz, e7⟩
  obtain rfl := chain_none cz
  have hz : (Ieee.double.order 0 0 == some .eq) = true := by decide
  have hf : FloatKind.f64.format = Ieee.double := rfl
  go_wp2_with fail
  refine (sump_any _ _ _ (row_oneF _ _ _)).mono ?_
  rintro _ w8 ⟨c8, rfl, l8, s8, e8⟩
  go_wp2_with fail
  refine (same_al _ (chain_one HA.out s8)).mono ?_
  rintro _ _ ⟨rfl, rfl⟩
  replace e8 := ((e5.trans e6).trans e7).trans (((Ext.refl _).alloc _).trans e8)
  clear e5 e6 e7 s8
  go_wp2_with fail
  refine (sump_any _ _ _ (row_twoF _ _ _ _)).mono ?_
  rintro _ w9 ⟨c9, rfl, l9, s9, e9⟩
  go_wp2_with fail
  refine (sump_any _ _ _ (row_twoF _ _ _ _)).mono ?_
  rintro _ w10 ⟨c10, rfl, l10, s10, e10⟩
  go_wp2_with fail
  refine (same_al _ ((chain_two HA.out s9).uniq (chain_two HB.out s10).swap)).mono ?_
  rintro _ _ ⟨rfl, rfl⟩
  go_wp2
  go_ret
  exact ⟨rfl, (e8.trans (((Ext.refl _).alloc _).trans e9)).trans (((Ext.refl _).alloc _).trans e10)⟩
set_option maxRecDepth 10000 in
theorem sum_long (w : World) (v : Value) (xs : List Nat) (h : RowF w v xs) (a b : Nat) (hl : ¬ xs.length ≤ 300) : Calls Try.prog 8 #[v, .float .f64 a, .float .f64 b] w (RetE w (.bool true)) := by
  obtain ⟨A, c, rfl, h1, h2, h3⟩ := h
  clear h3
  have hl' : ¬ (xs.length : Int) ≤ 300 := by omega
  go_enter Try.func8, Try.ntmps8
  go_wp2_with fail
  refine (headO_any _).mono ?_
  rintro _ w1 ⟨rfl, e1⟩
  go_wp2
  go_ret
  exact ⟨rfl, e1⟩
theorem walk_OpsSum (w : World) (v : Value) (xs : List Nat) (h : RowF w v xs) (a : Nat) (ha : a < 18446744073709551616) (b : Nat) (hb : b < 18446744073709551616) : Calls Try.prog 8 #[v, .float .f64 a, .float .f64 b] w (RetE w (.bool true)) := by
  by_cases hl : xs.length ≤ 300
  · exact sum_short w v xs h a ha b hb hl
  · exact sum_long w v xs h a b hl

end Go.Proofs.Ytfghcfeldpcgcaa
