/- Walks of the document's answers: Shr. -/
import Derived.Test.YtjnnodbejnmkmaaDoorR4
import Derived.Deep.RegionHeld3
namespace Go.Proofs.YtjnnodbejnmkmaaDoor
open Go.RowKit

theorem step_app {ops : Array Oper} {o : Oper} {a : Act} {w : World} {K : Act → World → Prop} {Q : Exit → Act → World → Prop} {E : Prop} (hgd : o.guard = none) (s x : Operand)
    (hop : o.op = .call { callee := .builtin .append, args := #[s, x], argTypes := #[22, 22] })
    (base : Nat) (v : Value) (xs : List Int) (vs : Value) (ys : List Int) (hs : a.eval s = v) (hx : a.eval x = vs) (ho : Own w base v xs) (hr : Row w vs ys) (hb : base ≤ w.heap.size) (hlen : xs.length + ys.length ≤ 1000000)
    (h : ∀ v' w', Own w' base v' (xs ++ ys) → w.grownBy w' v.ownBlock → K (a.put o.dst v') w') :
    if Region.wanted o (yielded ops a.tmps) = true then Oper.wp Tryd.prog o a w K Q else E := by
  have hw : Region.wanted o (yielded ops a.tmps) = true := by simp [Region.wanted, hgd]
  rw [if_pos hw]
  obtain ⟨v', w', hrun, h2, h3⟩ := app_run w o.type base v xs vs ys ho hr hb hlen
  unfold Oper.wp execOp
  simp only [hop, resolve, invoke, builtin, Sem.run_bind, Sem.run_pure, Result.andThen_ok, List.map_toArray, List.map_cons, List.map_nil, hs, hx, hrun]
  exact h v' w' h2 h3

theorem shr_limb {x y : Int} {d : Nat} (hd : d < 24) (x0 : 0 ≤ x) (x1 : x < 16777216) :
    y % 2 ^ d * (16777216 / 2 ^ d) = y * 2 ^ (24 - d) % 16777216 ∧ 0 ≤ x / 2 ^ d + y * 2 ^ (24 - d) % 16777216 ∧ x / 2 ^ d + y * 2 ^ (24 - d) % 16777216 < 16777216 := by
  obtain rfl | rfl | rfl | rfl | rfl | rfl | rfl | rfl | rfl | rfl | rfl | rfl | rfl | rfl | rfl | rfl | rfl | rfl | rfl | rfl | rfl | rfl | rfl | rfl :
    d = 0 ∨ d = 1 ∨ d = 2 ∨ d = 3 ∨ d = 4 ∨ d = 5 ∨ d = 6 ∨ d = 7 ∨ d = 8 ∨ d = 9 ∨ d = 10 ∨ d = 11 ∨ d = 12 ∨ d = 13 ∨ d = 14 ∨ d = 15 ∨ d = 16 ∨ d = 17 ∨ d = 18 ∨ d = 19 ∨ d = 20 ∨ d = 21 ∨ d = 22 ∨ d = 23 := by omega
  all_goals (simp only [Nat.reduceSub, Int.reducePow, Int.reduceDiv]; omega)

/-- The limbs of a row over 2^d, so far. -/
def shrs (l : List Int) (d k : Nat) : List Int := (List.range k).map (shrAt l d)
theorem shrs_len (l : List Int) (d k : Nat) : (shrs l d k).length = k := by simp [shrs]
theorem shrs_succ (l : List Int) (d k : Nat) : shrs l d (k + 1) = shrs l d k ++ [shrAt l d k] := by simp [shrs, List.range_succ]
theorem shrs_nth {l : List Int} {d k j : Nat} (hj : j < k) : nth (shrs l d k) j = shrAt l d j := by
  rw [nth_eq (by rw [shrs_len]; exact hj)]; simp [shrs]
theorem shrs_limbs {l : List Int} {d : Nat} (hl : Limbs l) (hd : d < 24) (k : Nat) : Limbs (shrs l d k) := fun j hj => by
  rw [shrs_len] at hj; rw [shrs_nth hj]
  exact (shr_limb (y := nth l (j + 1)) hd (hl.at j).1 (hl.at j).2).2
theorem shrs_val {l : List Int} {d : Nat} (hl : Limbs l) (hd : d < 24) : val (shrs l d l.length) = val l / 2 ^ d := by
  rw [val_S, shrs_len, S_congr _ (fun j hj => shrs_nth hj), S_shr d hd l hl]
theorem drop_div {a : List Int} {m K : Nat} (na : Limbs a) (ea : val a = (m : Int)) : val (a.drop (K / 24)) / 2 ^ (K % 24) = ((m / 2 ^ K : Nat) : Int) := by
  rw [val_drop_div na, ea, bp_two]
  have e2 : K = 24 * (K / 24) + K % 24 := by omega
  have e3 : m / 2 ^ K = m / 2 ^ (24 * (K / 24)) / 2 ^ (K % 24) := by
    rw [Nat.div_div_eq_div_mul, ← Nat.pow_add, ← e2]
  rw [e3]
  push_cast
  rfl
theorem nth_drop (a : List Int) (q j : Nat) : nth (a.drop q) j = nth a (q + j) := by
  by_cases h : q + j < a.length
  · rw [nth_eq (by simp; omega), nth_eq h]; simp
  · rw [nth_past (by simp; omega), nth_past (by omega)]

theorem rshr_same (w : World) (v : Value) (m : Nat) (k : Int) (h : N w v m) (hm : Lt 400 m) (hk : k ≤ 0) : Calls Tryd.prog 53 #[v, .int .i64 k] w (RetN w m) := by
  obtain ⟨a, ra, na, ea⟩ := id h
  have la : a.length ≤ 400 := N.len hm na ea
  have HT := Lib.hid (rtrim_nat w v a m ra na.1 ea (by omega))
  clear ra na ea
  go_enter Tryd.func53, Tryd.ntmps53
  go_wp2_with fail
  refine HT.out.mono ?_
  rintro e w' ⟨v', rfl, hN, hE⟩
  go_wp2
  go_ret
  exact ⟨_, rfl, hN, hE⟩

set_option maxHeartbeats 1000000 in
theorem rshr_nat (w : World) (v : Value) (m K : Nat) (hK0 : 0 < K) (hK : K ≤ 1000000) (hN0 : N w v m) (hm : Lt 400 m) : Calls Tryd.prog 53 #[v, .int .i64 K] w (RetN w (m / 2 ^ K)) := by
  obtain ⟨a, ra, na, ea⟩ := id hN0
  have la : a.length ≤ 400 := N.len hm na ea
  obtain ⟨A, c, rfl, h1, h2, h3⟩ := id ra
  obtain ⟨p, hpp⟩ : ∃ p : Int, p = 2 ^ (K % 24) := ⟨_, rfl⟩
  have hd24 : K % 24 < 24 := Nat.mod_lt _ (by omega)
  obtain ⟨hp1, hp2⟩ := two_pow_le (K % 24) hd24
  rw [← hpp] at hp1 hp2
  have HD := Lib.hid (drop_div (K := K) na.1 ea)
  have HWP := Lib.hid (show wrap64 (2 ^ (K % 24)) = p by rw [← hpp]; unfold wrap64; omega)
  have H3 := Lib.hid h3
  have HPP := Lib.hid hpp
  have NA := Lib.hid na
  have hK9 : ¬ K = 0 := by omega
  clear h3 hpp ea na hN0
  go_enter Tryd.func53, Tryd.ntmps53
  go_wp2
  rw [HWP.out]
  go_loopw [7, 8] (fun v i wr => ∃ k : Nat, Hid (K / 24 + k ≤ a.length ∨ k = 0) ∧ i = .int .i64 ((K / 24 + k : Nat) : Int) ∧ Own wr w.heap.size v (shrs (a.drop (K / 24)) (K % 24) k) ∧ Ext w wr) (fun _ i _ => a.length - (intOf i).toNat)
  case atStart => exact ⟨0, .inr rfl, by go_num, Own.nil w _, Ext.refl _⟩
  case round =>
    obtain ⟨k, hk, rfl, ho, he⟩ := hrel
    have hsz := he.size
    obtain ⟨i, hi⟩ : ∃ i, i = K / 24 + k := ⟨_, rfl⟩
    rw [← hi]
    have HI := Lib.hid hi
    have hlen : (shrs (a.drop (K / 24)) (K % 24) k).length = k := shrs_len _ _ _
    have HLEN := Lib.hid hlen
    clear hlen
    by_cases hlt : i < a.length
    · obtain ⟨b1, off1, rfl, hb1, hc1⟩ := H3.out (by omega)
      have hcell := (he.cell (p := ⟨b1, off1 + i, none⟩) hb1).trans (hc1 i hlt)
      have HCW := Lib.hid (hc1 i hlt)
      obtain ⟨x0, x1⟩ := NA.out.1.at i
      obtain ⟨y0, y1⟩ := NA.out.1.at (i + 1)
      have hi0 : (0 : Int) ≤ (i : Int) + 1 := by omega
      have hi1 : (0 : Int) ≤ (i : Int) := by omega
      have hi2 : (i : Int) < (a.length : Int) := by omega
      have rw1 := ra.ext he
      have hsl := shr_limb (x := nth a i) (y := nth a (i + 1)) hd24 x0 x1
      rw [← HPP.out] at hsl
      obtain ⟨z, hz⟩ : ∃ z, z = nth a i / p + nth a (i + 1) % p * (16777216 / p) := ⟨_, rfl⟩
      have hz2 : z = shrAt (a.drop (K / 24)) (K % 24) k := by
        unfold shrAt
        rw [nth_drop, nth_drop, ← Nat.add_assoc, ← hi, hz, hsl.1, HPP.out]
      have hpos : 0 < p := by omega
      have d1 : 0 ≤ nth a i / p := Int.ediv_nonneg x0 (by omega)
      have d2 : nth a i / p ≤ nth a i := Int.ediv_le_self _ x0
      have d3 : 0 ≤ (16777216 : Int) / p := Int.ediv_nonneg (by omega) (by omega)
      have d4 : (16777216 : Int) / p ≤ 16777216 := Int.ediv_le_self _ (by omega)
      have d5 : 0 ≤ nth a (i + 1) % p * (16777216 / p) ∧ nth a (i + 1) % p * (16777216 / p) < 16777216 := by rw [hsl.1]; omega
      have q1 : IntKind.i64.wrap ((nth a i).tdiv p) = nth a i / p := by rw [Int.tdiv_eq_ediv_of_nonneg x0]; exact IntWalk.i64_in _ (by omega)
      have q2 : (nth a (i + 1)).tmod p = nth a (i + 1) % p := Int.tmod_eq_emod_of_nonneg y0
      have q3 : IntKind.i64.wrap (Int.tdiv 16777216 p) = 16777216 / p := by rw [Int.tdiv_eq_ediv_of_nonneg (by omega)]; exact IntWalk.i64_in _ (by omega)
      have q4 : IntKind.i64.wrap (nth a (i + 1) % p * (16777216 / p)) = nth a (i + 1) % p * (16777216 / p) := IntWalk.i64_in _ (by omega)
      have q5 : IntKind.i64.wrap (nth a i / p + nth a (i + 1) % p * (16777216 / p)) = z := by rw [← hz]; exact IntWalk.i64_in _ (by omega)
      have q6 : IntKind.i64.wrap ((i : Int) + 1) = (i : Int) + 1 := IntWalk.i64_in _ (by omega)
      have q7 : ((i : Int) + 1).toNat = i + 1 := by omega
      have q8 : (p == 0) = false := beq_eq_false_iff_ne.2 (by omega)
      have q9 : p ≠ 0 := by omega
      have HB := Lib.hid (fun o : Obj => show w.heap.size ≤ (wr.alloc o).drew.heap.size by simp; omega)
      have HLN := Lib.hid (show (shrs (a.drop (K / 24)) (K % 24) k).length + [z].length ≤ 1000000 by rw [HLEN.out]; simp; omega)
      have HZ2 := Lib.hid hz2
      clear hi hc1 H3 hz hz2 hsl d1 d2 d3 d4 d5
      go_wp2
      go_region_held3 (fun w' => w'.cell? ⟨b1, off1 + i, none⟩ = some (.int .i64 (nth a i)))
        (first | go_keep | exact (((he.alloc _).drew.app (ho.ext ((Ext.refl wr).alloc _).drew) (Nat.le_refl _) hg).cell hb1).trans HCW.out)
        (first | ((go_at_call 65); (refine (rat_any _ _ _ _ (rw1.ext (Ext.refl wr).drew) hi0).mono ?_); (rintro e w' ⟨rfl, rfl⟩)) | (refine step_app rfl _ _ rfl w.heap.size _ (shrs (a.drop (K / 24)) (K % 24) k) _ [z] rfl rfl (ho.ext ((Ext.refl wr).alloc _).drew) (row_one wr z _) (HB.out _) HLN.out ?_; intro v' w' ho' hg))
      have e1 : Ext w w' := (he.alloc _).drew.app (ho.ext ((Ext.refl wr).alloc _).drew) (Nat.le_refl _) hg
      rw [HZ2.out, ← shrs_succ] at ho'
      clear q1 q2 q3 q4 q5 q6 q7 q8 q9
      go_wp2
      go_roundw
      case rel => exact ⟨k + 1, .inl (by have := HI.out; omega), by rw [HI.out]; go_num, ho', e1⟩
      case measure => simp [intOf]; omega
    · have hlk : val (shrs (a.drop (K / 24)) (K % 24) k) = ((m / 2 ^ K : Nat) : Int) := by
        have hl : Limbs (a.drop (K / 24)) := NA.out.1.drop _
        have hk' : (a.drop (K / 24)).length = k ∨ ((a.drop (K / 24)) = [] ∧ k = 0) := by
          rcases hk.out with e | e
          · left; simp; omega
          · by_cases e2 : K / 24 < a.length
            · left; simp; omega
            · right; exact ⟨List.drop_eq_nil_of_le (by omega), e⟩
        rcases hk' with e | ⟨e, e0⟩
        · rw [← e, shrs_val hl hd24]; exact HD.out
        · have := HD.out
          rw [e] at this
          rw [e0, ← this]
          simp [shrs, val]
      have HN := Lib.hid (rtrim_nat wr _ _ (m / 2 ^ K) ho.row (shrs_limbs (NA.out.1.drop _) hd24 k) hlk (by rw [HLEN.out]; rcases hk.out with e | e <;> omega))
      clear hlk hi
      go_wp2_with (go_at_call 64; refine HN.out.mono ?_; rintro e w' ⟨v', rfl, hN, hE⟩)
      go_ret
      exact ⟨_, rfl, hN, he.trans hE⟩

end Go.Proofs.YtjnnodbejnmkmaaDoor
