/- What the laws of dyadic numbers ask of what they are handed: Good. -/
import Derived.Test.YtjnnodbejnmkmaaDoorE9
namespace Go.Proofs.YtjnnodbejnmkmaaDoor
open Go.RowKit

/-- A right number of at most 8 limbs, its power of two within 200. -/
def goodB (nb : Bool) (xs : List Int) (e : Int) : Bool := decide (xs.length ≤ 8) && (rightD nb xs e && (decide (e ≤ 200) && decide (-200 ≤ e)))
/-- At g lie k numbers, one behind the other. -/
structure Many (w : World) (g k : Nat) (nb : Nat → Bool) (v : Nat → Value) (xs : Nat → List Int) (e : Nat → Int) : Prop where
  c0 : ∀ j, j < k → w.cell? ⟨g, j * 3, none⟩ = some (.bool (nb j))
  c1 : ∀ j, j < k → w.cell? ⟨g, j * 3 + 1, none⟩ = some (v j)
  c2 : ∀ j, j < k → w.cell? ⟨g, j * 3 + 2, none⟩ = some (.int .i64 (e j))
  row : ∀ j, j < k → Row w (v j) (xs j)
  int : ∀ j, j < k → -9223372036854775808 ≤ e j ∧ e j ≤ 9223372036854775807
theorem Many.ext {w w' : World} {g k : Nat} {nb : Nat → Bool} {v : Nat → Value} {xs : Nat → List Int} {e : Nat → Int} (h : Many w g k nb v xs e) (E : Ext w w') : Many w' g k nb v xs e :=
  ⟨fun j hj => (E.cell (World.block_lt_of_cell? w _ (h.c0 j hj))).trans (h.c0 j hj), fun j hj => (E.cell (World.block_lt_of_cell? w _ (h.c1 j hj))).trans (h.c1 j hj), fun j hj => (E.cell (World.block_lt_of_cell? w _ (h.c2 j hj))).trans (h.c2 j hj), fun j hj => (h.row j hj).ext E, h.int⟩

set_option maxHeartbeats 1000000 in
theorem good_main (w : World) (g k cap : Nat) (nb : Nat → Bool) (v : Nat → Value) (xs : Nat → List Int) (e : Nat → Int) (hk : k ≤ 1000) (h : Many w g k nb v xs e) (res : Bool)
    (hf : ∀ j, j < k → goodB (nb j) (xs j) (e j) = false → res = false) (ht : (∀ j, j < k → goodB (nb j) (xs j) (e j) = true) → res = true) :
    Calls Tryd.prog 12 #[.slice (some ⟨g, 0, none⟩) k cap] w (RetE w (.bool res)) := by
  have HM := Lib.hid h
  have HFA := Lib.hid hf
  have HTA := Lib.hid ht
  clear h hf ht
  go_enter Tryd.func12, Tryd.ntmps12
  go_wp2
  go_loopw [3] (fun i wr => ∃ j : Nat, j ≤ k ∧ i = .int .i64 (j : Int) ∧ Ext w wr ∧ Hid (∀ q, q < j → goodB (nb q) (xs q) (e q) = true)) (fun i _ => (k - (intOf i)).toNat)
  case atStart => exact ⟨0, by omega, rfl, Ext.refl _, fun q hq => by omega⟩
  case round =>
    obtain ⟨j, hj, rfl, hE, hG⟩ := hrel
    by_cases hjk : j < k
    · have HM1 := Lib.hid (HM.out.ext hE)
      have c0 := HM1.out.c0 j hjk
      have c1 := HM1.out.c1 j hjk
      have c2 := HM1.out.c2 j hjk
      have HR := Lib.hid (HM1.out.row j hjk)
      have hint := HM1.out.int j hjk
      have HGJ : Hid (goodB (nb j) (xs j) (e j) = false → res = false) := Lib.hid (HFA.out j hjk)
      have HGT : Hid (goodB (nb j) (xs j) (e j) = true → ∀ q, q < j + 1 → goodB (nb q) (xs q) (e q) = true) := Lib.hid (fun ht q hq => by
        rcases Nat.lt_or_ge q j with h | h
        · exact hG.out q h
        · obtain rfl : q = j := by omega
          exact ht)
      clear HM1
      generalize nb j = n1 at *
      generalize v j = v1 at *
      generalize xs j = x1 at *
      generalize e j = e1 at *
      obtain ⟨A, c, rfl, h1, h2, h3⟩ := id HR.out
      clear h3
      unfold goodB at HGJ HGT
      by_cases h8 : x1.length ≤ 8
      · cases hr : rightD n1 x1 e1
        · have HF := Lib.hid (HGJ.out (by rw [hr]; simp))
          have HC := Lib.hid (rrightD_any wr n1 _ x1 e1 HR.out hint)
          rw [hr] at HC
          clear HGJ HGT hr
          go_wp2_with fail
          refine HC.out.mono ?_
          rintro _ w2 ⟨rfl, e2⟩
          go_wp2
          go_ret
          exact ⟨by rw [HF.out]; rfl, hE.trans e2⟩
        · by_cases h200 : e1 ≤ 200
          · by_cases hm200 : -200 ≤ e1
            · have HF := Lib.hid (HGT.out (by rw [hr, decide_eq_true h8, decide_eq_true h200, decide_eq_true hm200]; rfl))
              have HC := Lib.hid (rrightD_any wr n1 _ x1 e1 HR.out hint)
              rw [hr] at HC
              clear HGJ HGT hr
              go_wp2_with fail
              refine HC.out.mono ?_
              rintro _ w2 ⟨rfl, e2⟩
              have d2 := (e2.cell (World.block_lt_of_cell? wr _ c2)).trans c2
              go_wp2
              go_roundw
              case rel => exact ⟨j + 1, by omega, by go_num, hE.trans e2, HF.out⟩
              case measure => simp [intOf]; omega
            · have HF := Lib.hid (HGJ.out (by rw [decide_eq_false hm200]; simp))
              have HC := Lib.hid (rrightD_any wr n1 _ x1 e1 HR.out hint)
              rw [hr] at HC
              clear HGJ HGT hr
              go_wp2_with fail
              refine HC.out.mono ?_
              rintro _ w2 ⟨rfl, e2⟩
              have d2 := (e2.cell (World.block_lt_of_cell? wr _ c2)).trans c2
              go_wp2
              go_ret
              exact ⟨by rw [HF.out]; rfl, hE.trans e2⟩
          · have HF := Lib.hid (HGJ.out (by rw [decide_eq_false h200]; simp))
            have HC := Lib.hid (rrightD_any wr n1 _ x1 e1 HR.out hint)
            rw [hr] at HC
            clear HGJ HGT hr
            go_wp2_with fail
            refine HC.out.mono ?_
            rintro _ w2 ⟨rfl, e2⟩
            have d2 := (e2.cell (World.block_lt_of_cell? wr _ c2)).trans c2
            go_wp2
            go_ret
            exact ⟨by rw [HF.out]; rfl, hE.trans e2⟩
      · have HF := Lib.hid (HGJ.out (by rw [decide_eq_false h8]; rfl))
        clear HGJ HGT
        go_wp2
        go_ret
        exact ⟨by rw [HF.out]; rfl, hE⟩
    · have hjk' : j = k := by omega
      have HF : Hid (res = true) := Lib.hid (HTA.out (by rw [← hjk']; exact hG.out))
      go_wp2
      go_ret
      exact ⟨by rw [HF.out]; rfl, hE⟩
/-- Are the first k good? -/
def goodAll (k : Nat) (nb : Nat → Bool) (xs : Nat → List Int) (e : Nat → Int) : Bool := decide (∀ j, j < k → goodB (nb j) (xs j) (e j) = true)
theorem goodAll_true {k : Nat} {nb : Nat → Bool} {xs : Nat → List Int} {e : Nat → Int} (h : goodAll k nb xs e = true) : ∀ j, j < k → goodB (nb j) (xs j) (e j) = true := of_decide_eq_true h
theorem good_any (w : World) (g k cap : Nat) (nb : Nat → Bool) (v : Nat → Value) (xs : Nat → List Int) (e : Nat → Int) (hk : k ≤ 1000) (h : Many w g k nb v xs e) :
    Calls Tryd.prog 12 #[.slice (some ⟨g, 0, none⟩) k cap] w (RetE w (.bool (goodAll k nb xs e))) :=
  good_main w g k cap nb v xs e hk h _ (fun j hj hf => decide_eq_false (fun ha => by rw [ha j hj] at hf; cases hf)) (fun ht => decide_eq_true ht)

end Go.Proofs.YtjnnodbejnmkmaaDoor
