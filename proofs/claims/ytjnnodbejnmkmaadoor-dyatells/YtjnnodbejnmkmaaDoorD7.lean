/- Walks of the document's answers on dyadic numbers: Right. -/
import Derived.Test.YtjnnodbejnmkmaaDoorD6
namespace Go.Proofs.YtjnnodbejnmkmaaDoor
open Go.RowKit

/-- Is a struct of these a right dyadic number? -/
def rightD (nb : Bool) (xs : List Int) (e : Int) : Bool :=
  rightB xs && decide (xs.length ≤ 60) && (if xs.length = 0 then !nb && decide (e = 0) else decide (nth xs 0 % 2 = 1) && decide (-6000 ≤ e) && decide (e ≤ 6000))

set_option maxHeartbeats 1000000 in
theorem rrightD_any (w : World) (nb : Bool) (v : Value) (xs : List Int) (e : Int) (h : Row w v xs) (he : -9223372036854775808 ≤ e ∧ e ≤ 9223372036854775807) :
    Calls Tryd.prog 11 #[.agg #[.bool nb, v, .int .i64 e]] w (RetE w (.bool (rightD nb xs e))) := by
  have hr := rright_any (w.alloc (.cells #[.bool nb, v, .int .i64 e] 24)) v xs (h.ext ((Ext.refl w).alloc _))
  obtain ⟨A, c, rfl, h1, h2, h3⟩ := id h
  cases hb : rightB xs
  · have hD : rightD nb xs e = false := by unfold rightD; rw [hb]; rfl
    rw [hD]
    rw [hb] at hr
    have HR := Lib.hid hr
    clear hr hb hD h h3
    go_enter Tryd.func11, Tryd.ntmps11
    go_wp2_with fail
    refine HR.out.mono ?_
    rintro _ _ ⟨rfl, rfl⟩
    go_wp2
    go_ret
    exact ⟨rfl, (Ext.refl w).alloc _⟩
  · have hlim := (right_iff.1 hb).1.1
    rw [hb] at hr
    have HR := Lib.hid hr
    by_cases h60 : xs.length ≤ 60
    · by_cases h0 : xs.length = 0
      · have hD : rightD nb xs e = (!nb && decide (e = 0)) := by unfold rightD; rw [hb, decide_eq_true h60, if_pos h0]; rfl
        rw [hD]
        rw [h0] at HR ⊢
        clear hr hb hD h h3 hlim
        cases nb
        · by_cases he0 : e = 0
          · subst he0
            rw [decide_eq_true rfl]
            go_enter Tryd.func11, Tryd.ntmps11
            go_wp2_with fail
            refine HR.out.mono ?_
            rintro _ _ ⟨rfl, rfl⟩
            go_wp2
            go_ret
            exact ⟨rfl, (Ext.refl w).alloc _⟩
          · rw [decide_eq_false he0]
            have he1 : (e == 0) = false := beq_eq_false_iff_ne.2 he0
            go_enter Tryd.func11, Tryd.ntmps11
            go_wp2_with fail
            refine HR.out.mono ?_
            rintro _ _ ⟨rfl, rfl⟩
            go_wp2
            go_ret
            exact ⟨rfl, (Ext.refl w).alloc _⟩
        · go_enter Tryd.func11, Tryd.ntmps11
          go_wp2_with fail
          refine HR.out.mono ?_
          rintro _ _ ⟨rfl, rfl⟩
          go_wp2
          go_ret
          exact ⟨rfl, (Ext.refl w).alloc _⟩
      · have hD : rightD nb xs e = (decide (nth xs 0 % 2 = 1) && decide (-6000 ≤ e) && decide (e ≤ 6000)) := by unfold rightD; rw [hb, decide_eq_true h60, if_neg h0]; rfl
        rw [hD]
        obtain ⟨b, off, rfl, hbk, hcells⟩ := h3 (by omega)
        have hc0 : (w.alloc (.cells #[.bool nb, .slice (some ⟨b, off, none⟩) xs.length c, .int .i64 e] 24)).cell? ⟨b, off, none⟩ = some (.int .i64 (nth xs 0)) := by
          rw [((Ext.refl w).alloc _).cell hbk]; exact hcells 0 (by omega)
        obtain ⟨x0, x1⟩ := hlim.at 0
        have hl0 : ((xs.length : Int) == 0) = false := beq_eq_false_iff_ne.2 (by omega)
        have hl1 : (0 : Int) < (xs.length : Int) := by omega
        have hl2 : ¬ ((60 : Int) < (xs.length : Int)) := by omega
        generalize nth xs 0 = x at *
        clear hr hb hD h h3 hlim hcells
        by_cases hp : x % 2 = 1
        · rw [decide_eq_true hp]
          by_cases hq : -6000 ≤ e
          · rw [decide_eq_true hq]
            go_enter Tryd.func11, Tryd.ntmps11
            go_wp2_with fail
            refine HR.out.mono ?_
            rintro _ _ ⟨rfl, rfl⟩
            go_wp2
            go_ret
            exact ⟨rfl, (Ext.refl w).alloc _⟩
          · rw [decide_eq_false hq]
            go_enter Tryd.func11, Tryd.ntmps11
            go_wp2_with fail
            refine HR.out.mono ?_
            rintro _ _ ⟨rfl, rfl⟩
            go_wp2
            go_ret
            exact ⟨rfl, (Ext.refl w).alloc _⟩
        · rw [decide_eq_false hp]
          have hp0 : x % 2 = 0 := by omega
          go_enter Tryd.func11, Tryd.ntmps11
          go_wp2_with fail
          refine HR.out.mono ?_
          rintro _ _ ⟨rfl, rfl⟩
          go_wp2
          go_ret
          exact ⟨rfl, (Ext.refl w).alloc _⟩
    · have hD : rightD nb xs e = false := by unfold rightD; rw [hb, decide_eq_false h60]; rfl
      rw [hD]
      have hl2 : ((60 : Int) < (xs.length : Int)) := by omega
      clear hr hb hD h h3 hlim
      go_enter Tryd.func11, Tryd.ntmps11
      go_wp2_with fail
      refine HR.out.mono ?_
      rintro _ _ ⟨rfl, rfl⟩
      go_wp2
      go_ret
      exact ⟨rfl, (Ext.refl w).alloc _⟩
theorem rightD_form {w : World} {nb : Bool} {v : Value} {xs : List Int} {e : Int} (h : Row w v xs) (hr : rightD nb xs e = true) : ∃ z : Int, Dn w (.agg #[.bool nb, v, .int .i64 e]) (dy z e) ∧ Canon z e ∧ z.natAbs < 2 ^ (24 * xs.length) ∧ -6000 ≤ e ∧ e ≤ 6000 := by
  unfold rightD at hr
  rw [Bool.and_eq_true, Bool.and_eq_true] at hr
  obtain ⟨⟨hb, h60⟩, hr⟩ := hr
  obtain ⟨n, _⟩ := right_iff.1 hb
  obtain ⟨v0, v1⟩ := val_bounds n.1
  obtain ⟨m, hm⟩ := Int.eq_ofNat_of_zero_le v0
  have hN : N w v m := ⟨xs, h, n, hm⟩
  have hm2 : m < 2 ^ (24 * xs.length) := by
    rw [hm, bp_two] at v1; exact_mod_cast v1
  by_cases h0 : xs.length = 0
  · rw [if_pos h0, Bool.and_eq_true, Bool.not_eq_true', decide_eq_true_eq] at hr
    obtain ⟨rfl, rfl⟩ := hr
    obtain rfl : xs = [] := by simpa using h0
    obtain rfl : m = 0 := by simp [val] at hm; omega
    exact ⟨0, ⟨v, 0, 0, rfl, hN, ⟨.inl ⟨rfl, rfl⟩⟩, rfl⟩, ⟨.inl ⟨rfl, rfl⟩⟩, by simp, by omega, by omega⟩
  · rw [if_neg h0, Bool.and_eq_true, Bool.and_eq_true, decide_eq_true_eq, decide_eq_true_eq, decide_eq_true_eq] at hr
    obtain ⟨⟨r1, r2⟩, r3⟩ := hr
    have hne : xs ≠ [] := by intro e0; subst e0; simp at h0
    have hodd := val_mod2 hne
    rw [r1, hm] at hodd
    have hm0 : m ≠ 0 := by omega
    have hc : Canon (sg nb m) e := ⟨.inr (by cases nb <;> simp only [sg] <;> (first | (show (m : Int) % 2 = 1; omega) | (show -(m : Int) % 2 = 1; omega)))⟩
    exact ⟨sg nb m, ⟨v, sg nb m, e, by rw [sg_neg hm0], by rw [sg_abs]; exact hN, hc, rfl⟩, hc, by rw [sg_abs]; exact hm2, r2, r3⟩

end Go.Proofs.YtjnnodbejnmkmaaDoor
