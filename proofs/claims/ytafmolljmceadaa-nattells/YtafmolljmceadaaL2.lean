/- Walks of layer 1's laws. -/
import Derived.Test.YtafmolljmceadaaL1
namespace Go.Proofs.Ytafmolljmceadaa
open Go.RowKit

theorem good_nat {w : World} {v : Value} {xs : List Int} (h : Row w v xs) (hb : badB xs = false) : ∃ m, N w v m ∧ Lt 30 m ∧ NF xs ∧ val xs = (m : Int) := by
  unfold badB at hb
  rw [Bool.or_eq_false_iff, decide_eq_false_iff_not, Bool.not_eq_false'] at hb
  obtain ⟨n, _⟩ := right_iff.1 hb.2
  have h0 := val_bounds n.1
  obtain ⟨m, hm⟩ := Int.eq_ofNat_of_zero_le h0.1
  refine ⟨m, ⟨xs, h, n, hm⟩, Lt.mono (k := xs.length) ⟨by rw [← hm]; exact h0.2⟩ (by omega), n, hm⟩

theorem great3 (w : World) (va vb vc : Value) (a b c : List Int) (t : TypeId) (ra : Row w va a) (rb : Row w vb b) (rc : Row w vc c) :
    Calls Try.prog 15 #[.slice (some ⟨w.heap.size, 0, none⟩) 3 3] (w.alloc (.cells #[va, vb, vc] t)) fun e w' => e = .returned (.bool (badB a || badB b || badB c)) ∧ w.alloc (.cells #[va, vb, vc] t) = w' := by
  have h := great_any (w.alloc (.cells #[va, vb, vc] t)) w.heap.size 3 3 (fun | 0 => va | 1 => vb | _ => vc) (fun | 0 => a | 1 => b | _ => c) (by omega)
    (fun i hi => by
      obtain rfl | rfl | rfl : i = 0 ∨ i = 1 ∨ i = 2 := by omega
      all_goals rw [World.cell?_alloc_new]; rfl)
    (fun i hi => by
      obtain rfl | rfl | rfl : i = 0 ∨ i = 1 ∨ i = 2 := by omega
      · exact ra.ext ((Ext.refl w).alloc _)
      · exact rb.ext ((Ext.refl w).alloc _)
      · exact rc.ext ((Ext.refl w).alloc _))
  simpa [greatB] using h
theorem great2 (w : World) (va vb : Value) (a b : List Int) (t : TypeId) (ra : Row w va a) (rb : Row w vb b) :
    Calls Try.prog 15 #[.slice (some ⟨w.heap.size, 0, none⟩) 2 2] (w.alloc (.cells #[va, vb] t)) fun e w' => e = .returned (.bool (badB a || badB b)) ∧ w.alloc (.cells #[va, vb] t) = w' := by
  have h := great_any (w.alloc (.cells #[va, vb] t)) w.heap.size 2 2 (fun | 0 => va | _ => vb) (fun | 0 => a | _ => b) (by omega)
    (fun i hi => by
      obtain rfl | rfl : i = 0 ∨ i = 1 := by omega
      all_goals rw [World.cell?_alloc_new]; rfl)
    (fun i hi => by
      obtain rfl | rfl : i = 0 ∨ i = 1 := by omega
      · exact ra.ext ((Ext.refl w).alloc _)
      · exact rb.ext ((Ext.refl w).alloc _))
  simpa [greatB] using h
theorem great1 (w : World) (va : Value) (a : List Int) (t : TypeId) (ra : Row w va a) :
    Calls Try.prog 15 #[.slice (some ⟨w.heap.size, 0, none⟩) 1 1] (w.alloc (.cells #[va] t)) fun e w' => e = .returned (.bool (badB a)) ∧ w.alloc (.cells #[va] t) = w' := by
  have h := great_any (w.alloc (.cells #[va] t)) w.heap.size 1 1 (fun _ => va) (fun _ => a) (by omega)
    (fun i hi => by
      obtain rfl : i = 0 := by omega
      rw [World.cell?_alloc_new]; rfl)
    (fun i hi => by
      obtain rfl : i = 0 := by omega
      exact ra.ext ((Ext.refl w).alloc _))
  simpa [greatB] using h


theorem sq_le {x r : Nat} (h : Sq x r) : r ≤ x := by
  refine Nat.le_trans ?_ h.1
  rcases Nat.eq_zero_or_pos r with e | e
  · rw [e]; omega
  · exact Nat.le_mul_of_pos_left r e
theorem bl_two (K : Nat) : bl (2 ^ K) = K + 1 := by
  have e := bl_shift (m := 1) K (by omega)
  have e1 : bl 1 = 1 := by decide
  rw [Nat.one_mul, e1] at e
  omega
theorem same_ne (w : World) (va vb : Value) (m n : Nat) (ha : N w va m) (hb : N w vb n) (h : m ≠ n) : Calls Try.prog 12 #[va, vb] w (RetQ w (.bool false)) := by
  have k := same_nat w va vb m n ha hb
  rw [decide_eq_false h] at k
  exact k
theorem cmp_lit (w : World) (va vb : Value) (m n : Nat) (z : Int) (ha : N w va m) (hb : N w vb n) (hz : cmpI m n = z) : Calls Try.prog 24 #[va, vb] w (RetQ w (.int .i64 z)) := by
  rw [← hz]; exact cmp_nat w va vb m n ha hb
/-- It returned how m and n stand. -/
def RetC (w : World) (m n : Nat) (e : Ending) (w' : World) : Prop := ∃ z : Int, e = .returned (.int .i64 z) ∧ Qt w w' ∧ -1 ≤ z ∧ z ≤ 1 ∧ (m ≤ n → z ≤ 0) ∧ (n ≤ m → 0 ≤ z) ∧ (m < n → z < 0) ∧ (n < m → 0 < z)
theorem cmp_z (w : World) (va vb : Value) (m n : Nat) (ha : N w va m) (hb : N w vb n) : Calls Try.prog 24 #[va, vb] w (RetC w m n) := by
  refine (cmp_nat w va vb m n ha hb).mono ?_
  rintro e w' ⟨rfl, hq⟩
  refine ⟨_, rfl, hq, ?_⟩
  rcases Nat.lt_trichotomy m n with h | h | h
  · rw [cmpI_lt (by omega)]; omega
  · rw [cmpI_eq (by omega)]; omega
  · rw [cmpI_gt (by omega)]; omega


end Go.Proofs.Ytafmolljmceadaa
