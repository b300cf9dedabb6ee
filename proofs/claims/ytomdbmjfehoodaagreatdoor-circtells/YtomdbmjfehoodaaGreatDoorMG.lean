/- What the laws on dyadic numbers share. -/
import Derived.Test.YtomdbmjfehoodaaGreatDoorME
set_option maxRecDepth 8000
/- What the laws of dyadic numbers ask of what they are handed: Good. -/
namespace Go.Proofs.YtomdbmjfehoodaaGreatDoor
open Go.RowKit

/-- A right number of at most 8 limbs, its power of two within 200. -/
def goodB (nb : Bool) (xs : List Int) (e : Int) : Bool := decide (xs.length ≤ 8) && (rightD nb xs e && (decide (e ≤ 200) && decide (-200 ≤ e)))
/-- At g lie k numbers, one behind the other. -/
structure Many (w : World) (g k : Nat) (nb : Nat → Bool) (v : Nat → Value) (xs : Nat → List Int) (e : Nat → Int) : Prop where
  c0 : ∀ j, j < k → w.cell? ⟨g, j * 3, none⟩ = some (.bool (nb j))
  c1 : ∀ j, j < k → w.cell? ⟨g, j * 3 + 1, none⟩ = some (v j)
  c2 : ∀ j, j < k → w.cell? ⟨g, j * 3 + 2, none⟩ = some (.int .i64 (e j))
  row : ∀ j, j < k → Row w (v j) (xs j)
  int : ∀ j, j < k → -9223372036854775808 ≤ e j ∧ e j ≤ 9223372036854775807
theorem Many.ext {w w' : World} {g k : Nat} {nb : Nat → Bool} {v : Nat → Value} {xs : Nat → List Int} {e : Nat → Int} (h : Many w g k nb v xs e) (E : Ext w w') : Many w' g k nb v xs e :=
  ⟨fun j hj => (E.cell (World.block_lt_of_cell? w _ (h.c0 j hj))).trans (h.c0 j hj), fun j hj => (E.cell (World.block_lt_of_cell? w _ (h.c1 j hj))).trans (h.c1 j hj), fun j hj => (E.cell (World.block_lt_of_cell? w _ (h.c2 j hj))).trans (h.c2 j hj), fun j hj => (h.row j hj).ext E, h.int⟩

set_option maxHeartbeats 1000000 in
theorem good_main (w : World) (g k cap : Nat) (nb : Nat → Bool) (v : Nat → Value) (xs : Nat → List Int) (e : Nat → Int) (hk : k ≤ 1000) (h : Many w g k nb v xs e) (res : Bool)
    (hf : ∀ j, j < k → goodB (nb j) (xs j) (e j) = false → res = false) (ht : (∀ j, j < k → goodB (nb j) (xs j) (e j) = true) → res = true) :
    Calls Tryz.prog 11 #[.slice (some ⟨g, 0, none⟩) k cap] w (RetE w (.bool res)) := by
  have HM := Lib.hid h
  have HFA := Lib.hid hf
  have HTA := Lib.hid ht
  clear h hf ht
  go_enter Tryz.func11, Tryz.ntmps11
  go_wp2
  go_loopw [3] (fun i wr => ∃ j : Nat, j ≤ k ∧ i = .int .i64 (j : Int) ∧ Ext w wr ∧ Hid (∀ q, q < j → goodB (nb q) (xs q) (e q) = true)) (fun i _ => (k - (intOf i)).toNat)
  case atStart => exact ⟨0, by omega, rfl, Ext.refl _, fun q hq => by omega⟩
  case round =>
    obtain ⟨j, hj, rfl, hE, hG⟩ := hrel
    by_cases hjk : j < k
    · have HM1 := Lib.hid (HM.out.ext hE)
      have c0 := HM1.out.c0 j hjk
      have c1 := HM1.out.c1 j hjk
      have c2 := HM1.out.c2 j hjk
      have HR := Lib.hid (HM1.out.row j hjk)
      have hint := HM1.out.int j hjk
      have HGJ : Hid (goodB (nb j) (xs j) (e j) = false → res = false) := Lib.hid (HFA.out j hjk)
      have HGT : Hid (goodB (nb j) (xs j) (e j) = true → ∀ q, q < j + 1 → goodB (nb q) (xs q) (e q) = true) := Lib.hid (fun ht q hq => by
        rcases Nat.lt_or_ge q j with h | h
        · exact hG.out q h
        · obtain rfl : q = j := by omega
          exact ht)
      clear HM1
      generalize nb j = n1 at *
      generalize v j = v1 at *
      generalize xs j = x1 at *
      generalize e j = e1 at *
      obtain ⟨A, c, rfl, h1, h2, h3⟩ := id HR.out
      clear h3
      unfold goodB at HGJ HGT
      by_cases h8 : x1.length ≤ 8
      · cases hr : rightD n1 x1 e1
        · have HF := Lib.hid (HGJ.out (by rw [hr]; simp))
          have HC := Lib.hid (rrightD_any wr n1 _ x1 e1 HR.out hint)
          rw [hr] at HC
          clear HGJ HGT hr
          go_wp2_with fail
          refine HC.out.mono ?_
          rintro _ w2 ⟨rfl, e2⟩
          go_wp2
          go_ret
          exact ⟨by rw [HF.out]; rfl, hE.trans e2⟩
        · by_cases h200 : e1 ≤ 200
          · by_cases hm200 : -200 ≤ e1
            · have HF := Lib.hid (HGT.out (by rw [hr, decide_eq_true h8, decide_eq_true h200, decide_eq_true hm200]; rfl))
              have HC := Lib.hid (rrightD_any wr n1 _ x1 e1 HR.out hint)
              rw [hr] at HC
              clear HGJ HGT hr
              go_wp2_with fail
              refine HC.out.mono ?_
              rintro _ w2 ⟨rfl, e2⟩
              have d2 := (e2.cell (World.block_lt_of_cell? wr _ c2)).trans c2
              go_wp2
              go_roundw
              case rel => exact ⟨j + 1, by omega, by go_num, hE.trans e2, HF.out⟩
              case measure => simp [intOf]; omega
            · have HF := Lib.hid (HGJ.out (by rw [decide_eq_false hm200]; simp))
              have HC := Lib.hid (rrightD_any wr n1 _ x1 e1 HR.out hint)
              rw [hr] at HC
              clear HGJ HGT hr
              go_wp2_with fail
              refine HC.out.mono ?_
              rintro _ w2 ⟨rfl, e2⟩
              have d2 := (e2.cell (World.block_lt_of_cell? wr _ c2)).trans c2
              go_wp2
              go_ret
              exact ⟨by rw [HF.out]; rfl, hE.trans e2⟩
          · have HF := Lib.hid (HGJ.out (by rw [decide_eq_false h200]; simp))
            have HC := Lib.hid (rrightD_any wr n1 _ x1 e1 HR.out hint)
            rw [hr] at HC
            clear HGJ HGT hr
            go_wp2_with fail
            refine HC.out.mono ?_
            rintro _ w2 ⟨rfl, e2⟩
            have d2 := (e2.cell (World.block_lt_of_cell? wr _ c2)).trans c2
            go_wp2
            go_ret
            exact ⟨by rw [HF.out]; rfl, hE.trans e2⟩
      · have HF := Lib.hid (HGJ.out (by rw [decide_eq_false h8]; rfl))
        clear HGJ HGT
        go_wp2
        go_ret
        exact ⟨by rw [HF.out]; rfl, hE⟩
    · have hjk' : j = k := by omega
      have HF : Hid (res = true) := Lib.hid (HTA.out (by rw [← hjk']; exact hG.out))
      go_wp2
      go_ret
      exact ⟨by rw [HF.out]; rfl, hE⟩
/-- Are the first k good? -/
def goodAll (k : Nat) (nb : Nat → Bool) (xs : Nat → List Int) (e : Nat → Int) : Bool := decide (∀ j, j < k → goodB (nb j) (xs j) (e j) = true)
theorem goodAll_true {k : Nat} {nb : Nat → Bool} {xs : Nat → List Int} {e : Nat → Int} (h : goodAll k nb xs e = true) : ∀ j, j < k → goodB (nb j) (xs j) (e j) = true := of_decide_eq_true h
theorem good_any (w : World) (g k cap : Nat) (nb : Nat → Bool) (v : Nat → Value) (xs : Nat → List Int) (e : Nat → Int) (hk : k ≤ 1000) (h : Many w g k nb v xs e) :
    Calls Tryz.prog 11 #[.slice (some ⟨g, 0, none⟩) k cap] w (RetE w (.bool (goodAll k nb xs e))) :=
  good_main w g k cap nb v xs e hk h _ (fun j hj hf => decide_eq_false (fun ha => by rw [ha j hj] at hf; cases hf)) (fun ht => decide_eq_true ht)

end Go.Proofs.YtomdbmjfehoodaaGreatDoor

/- The head of the laws on dyadic numbers. -/
namespace Go.Proofs.YtomdbmjfehoodaaGreatDoor
open Go.RowKit

theorem nat_one (w : World) (x : Int) (t : TypeId) (m : Nat) (h0 : 0 < x) (h1 : x < 16777216) (hm : x = (m : Int)) : N (w.alloc (.cells #[.int .i64 x] t)) (.slice (some ⟨w.heap.size, 0, none⟩) 1 1) m :=
  ⟨[x], row_one w x t, ⟨fun j hj => by
    have : j = 0 := by simpa using hj
    subst this; rw [nth_cons_zero]; omega, .inr (by simp [nth_cons_zero]; omega)⟩, by simp [val]; omega⟩
/-- A number that is written out. -/
theorem lit_dn (w : World) (x e z : Int) (neg : Bool) (t : TypeId) (h0 : 0 < x) (h1 : x < 16777216) (h2 : x % 2 = 1) (hz : z = sg neg x.toNat) : Dn (w.alloc (.cells #[.int .i64 x] t)) (.agg #[.bool neg, .slice (some ⟨w.heap.size, 0, none⟩) 1 1, .int .i64 e]) (dy z e) := by
  subst hz
  refine ⟨_, sg neg x.toNat, e, by rw [sg_neg (by omega)], by rw [sg_abs]; exact nat_one w x t x.toNat h0 h1 (by omega), ⟨.inr ?_⟩, rfl⟩
  cases neg
  · show ((x.toNat : Nat) : Int) % 2 = 1; omega
  · show -((x.toNat : Nat) : Int) % 2 = 1; omega
theorem same_lit (w : World) (va vb : Value) (x y : Dyadic) (h : x = y) (ha : Dn w va x) (hb : Dn w vb y) : Calls Tryz.prog 18 #[va, vb] w (RetE w (.bool true)) := by
  subst h; exact rsameD_eq w va vb x ha hb
theorem cmp_lit (w : World) (va vb : Value) (x y : Dyadic) (P Q P' Q' : Nat) (r : Int) (h : cmpD x y = r) (ha : Dn w va x) (hb : Dn w vb y) (hx : Rg P Q x) (hy : Rg P' Q' y) (h1 : P + Q ≤ 4800) (h2 : P' + Q' ≤ 4800) : Calls Tryz.prog 45 #[va, vb] w (RetE w (.int .i64 r)) := by
  subst h; exact cmpD_any w va vb x y P Q P' Q' ha hb hx hy h1 h2
theorem sign_lit (w : World) (v : Value) (d : Dyadic) (r : Int) (h : cmpD d 0 = r) (hd : Dn w v d) : Calls Tryz.prog 95 #[v] w (RetE w (.int .i64 r)) := by
  subst h; exact signD_any w v d hd
theorem make_lit (w : World) (neg : Bool) (v : Value) (m : Nat) (e : Int) (d : Dyadic) (hd : dy (sg neg m) e = d) (h : N w v m) (hm : Lt 400 m) (he : -1000000 ≤ e ∧ e ≤ 1000000) (T : Tb w) : Calls Tryz.prog 57 #[.bool neg, v, .int .i64 e] w (RetD w d) := by
  subst hd; exact make_any w neg v m e h hm he T
theorem add_lit (w : World) (va vb : Value) (x y d : Dyadic) (P Q : Nat) (hd : x + y = d) (ha : Dn w va x) (hb : Dn w vb y) (hx : Rg P Q x) (hy : Rg P Q y) (h1 : P + Q ≤ 2400) (T : Tb w) : Calls Tryz.prog 82 #[va, vb] w (RetD w d) := by
  subst hd; exact addD_any w va vb x y P Q ha hb hx hy h1 T
theorem flip_lit (w : World) (v : Value) (x d : Dyadic) (P Q : Nat) (hd : -x = d) (h : Dn w v x) (r : Rg P Q x) (hb : P + Q ≤ 9600) (T : Tb w) : Calls Tryz.prog 68 #[v] w (RetD w d) := by
  subst hd; exact flipD_any w v x P Q h r hb T
theorem shift_lit (w : World) (v : Value) (z e k : Int) (d : Dyadic) (hd : dy z (e + k) = d) (h : Dn w v (dy z e)) (hc : Canon z e) (hm : Lt 400 z.natAbs) (he : -400000 ≤ e ∧ e ≤ 400000) (hk : -400000 ≤ k ∧ k ≤ 400000) (T : Tb w) : Calls Tryz.prog 47 #[v, .int .i64 k] w (RetD w d) := by
  subst hd; exact shiftD_any w v z e k h hc hm he hk T
theorem right_dn {w : World} {v : Value} {d : Dyadic} {P Q : Nat} (h : Dn w v d) (r : Rg P Q d) (hb : P + Q ≤ 1440) : ∃ (nb : Bool) (M : Value) (xs : List Int) (e : Int), v = .agg #[.bool nb, M, .int .i64 e] ∧ Row w M xs ∧ rightD nb xs e = true ∧ -9223372036854775808 ≤ e ∧ e ≤ 9223372036854775807 := by
  obtain ⟨M, z, e, rfl, ⟨xs, hr, nf, ev⟩, hc, rfl⟩ := h
  obtain ⟨a, b, c⟩ := r.canon hc
  refine ⟨_, M, xs, e, rfl, hr, ?_, by omega, by omega⟩
  have hl : xs.length ≤ 60 := N.len (m := z.natAbs) (Lt.of_bits (Nat.le_trans (bl_of_lt c) (by omega))) nf ev
  unfold rightD
  rw [right_iff.2 ⟨nf, by omega⟩, decide_eq_true hl]
  by_cases h0 : xs.length = 0
  · rw [if_pos h0]
    obtain rfl : xs = [] := by simpa using h0
    have hz : z = 0 := by simp [val] at ev; omega
    subst hz
    have he : e = 0 := by rcases hc.out with k | k <;> omega
    subst he
    rfl
  · rw [if_neg h0]
    have hne : xs ≠ [] := by intro e0; subst e0; simp at h0
    have hodd := val_mod2 hne
    have hz : z % 2 = 1 := by
      rcases hc.out with k | k
      · exfalso
        have := nf.pos hne
        have := bp_pos (xs.length - 1)
        omega
      · exact k
    rw [decide_eq_true (show nth xs 0 % 2 = 1 by omega), decide_eq_true (show -6000 ≤ e by omega), decide_eq_true (show e ≤ 6000 by omega)]
    rfl
theorem rrightDn_any (w : World) (v : Value) (d : Dyadic) (P Q : Nat) (h : Dn w v d) (r : Rg P Q d) (hb : P + Q ≤ 1440) : Calls Tryz.prog 37 #[v] w (RetE w (.bool true)) := by
  obtain ⟨nb, M, xs, e, rfl, hr, ht, he⟩ := right_dn h r hb
  have := rrightD_any w nb M xs e hr he
  rwa [ht] at this
theorem rg_lit (z e : Int) (h : -1000 ≤ z ∧ z ≤ 1000) (k : -20 ≤ e ∧ e ≤ 20) : Rg 20 31 (dy z e) := by
  refine ⟨z * 2 ^ (e + 20).toNat, dy_down z e 20 (by omega), ?_⟩
  have h1 := pow2_mono (show (e + 20).toNat ≤ 40 by omega)
  have h2 := pow2_pos (e + 20).toNat
  have := mul_bound h2 (x := z) (a := 1024) (by omega) (by omega)
  have h3 : (1024 : Int) * 2 ^ (e + 20).toNat ≤ 1024 * 2 ^ 40 := Int.mul_le_mul_of_nonneg_left h1 (by omega)
  have h4 : (1024 : Int) * 2 ^ 40 ≤ 2 ^ (20 + 31) := by decide
  omega

theorem box3 {w : World} {g : Nat} {x y z : Value} (h : Box w g x y z) : w.cell? ⟨g, 0, none⟩ = some x ∧ w.cell? ⟨g, 1, none⟩ = some y ∧ w.cell? ⟨g, 2, none⟩ = some z := ⟨h.c0, h.c1, h.c2⟩
theorem box3_set {w : World} {g i : Nat} {x y z a b c : Value} (h : Box w g x y z) (n : g ≠ i) :
    (((w.setCell ⟨i, 0, none⟩ a).setCell ⟨i, 1, none⟩ b).setCell ⟨i, 2, none⟩ c).cell? ⟨g, 0, none⟩ = some x ∧ (((w.setCell ⟨i, 0, none⟩ a).setCell ⟨i, 1, none⟩ b).setCell ⟨i, 2, none⟩ c).cell? ⟨g, 1, none⟩ = some y ∧ (((w.setCell ⟨i, 0, none⟩ a).setCell ⟨i, 1, none⟩ b).setCell ⟨i, 2, none⟩ c).cell? ⟨g, 2, none⟩ = some z := box3 (h.set3 n)
/-- The numbers that the head asks of, behind names. -/
structure HeadD (xa xb x3 xm xf xs x5 x6 x4 xn xo : Dyadic) : Prop where
  a : xa = dy (-5) (-1)
  b : xb = dy 1 (-1)
  three : x3 = dy 3 0
  m : xm = dy (-5) (-2)
  f : xf = dy 5 (-1)
  s : xs = dy (-5) 1
  five : x5 = dy 5 0
  six : x6 = dy 6 0
  four : x4 = dy 4 0
  nfive : xn = dy (-5) 0
  nfour : xo = dy (-4) 0

end Go.Proofs.YtomdbmjfehoodaaGreatDoor

/- What the laws on dyadic numbers lean on. -/
namespace Go.Proofs.YtomdbmjfehoodaaGreatDoor
open Go.RowKit

def pk {α : Type} (a b c : α) (j : Nat) : α := if j = 0 then a else if j = 1 then b else c
theorem many1 (w : World) (t : TypeId) (n0 : Bool) (v0 : Value) (x0 : List Int) (e0 : Int) (r0 : Row w v0 x0) (b0 : -9223372036854775808 ≤ e0 ∧ e0 ≤ 9223372036854775807) :
    Many (w.alloc (.cells #[.bool n0, v0, .int .i64 e0] t)) w.heap.size 1 (pk n0 n0 n0) (pk v0 v0 v0) (pk x0 x0 x0) (pk e0 e0 e0) := by
  have E : Ext w (w.alloc (.cells #[.bool n0, v0, .int .i64 e0] t)) := (Ext.refl w).alloc _
  refine ⟨fun j hj => ?_, fun j hj => ?_, fun j hj => ?_, fun j hj => ?_, fun j hj => ?_⟩
  all_goals
    obtain rfl : j = 0 := by omega
    first
    | (rw [World.cell?_alloc_new]; rfl)
    | exact r0.ext E
    | exact b0
theorem many2 (w : World) (t : TypeId) (n0 n1 : Bool) (v0 v1 : Value) (x0 x1 : List Int) (e0 e1 : Int) (r0 : Row w v0 x0) (r1 : Row w v1 x1) (b0 : -9223372036854775808 ≤ e0 ∧ e0 ≤ 9223372036854775807) (b1 : -9223372036854775808 ≤ e1 ∧ e1 ≤ 9223372036854775807) :
    Many (w.alloc (.cells #[.bool n0, v0, .int .i64 e0, .bool n1, v1, .int .i64 e1] t)) w.heap.size 2 (pk n0 n1 n1) (pk v0 v1 v1) (pk x0 x1 x1) (pk e0 e1 e1) := by
  have E : Ext w (w.alloc (.cells #[.bool n0, v0, .int .i64 e0, .bool n1, v1, .int .i64 e1] t)) := (Ext.refl w).alloc _
  refine ⟨fun j hj => ?_, fun j hj => ?_, fun j hj => ?_, fun j hj => ?_, fun j hj => ?_⟩
  all_goals
    obtain rfl | rfl : j = 0 ∨ j = 1 := by omega
    all_goals first
    | (rw [World.cell?_alloc_new]; rfl)
    | exact r0.ext E
    | exact r1.ext E
    | exact b0
    | exact b1
theorem many3 (w : World) (t : TypeId) (n0 n1 n2 : Bool) (v0 v1 v2 : Value) (x0 x1 x2 : List Int) (e0 e1 e2 : Int) (r0 : Row w v0 x0) (r1 : Row w v1 x1) (r2 : Row w v2 x2) (b0 : -9223372036854775808 ≤ e0 ∧ e0 ≤ 9223372036854775807) (b1 : -9223372036854775808 ≤ e1 ∧ e1 ≤ 9223372036854775807) (b2 : -9223372036854775808 ≤ e2 ∧ e2 ≤ 9223372036854775807) :
    Many (w.alloc (.cells #[.bool n0, v0, .int .i64 e0, .bool n1, v1, .int .i64 e1, .bool n2, v2, .int .i64 e2] t)) w.heap.size 3 (pk n0 n1 n2) (pk v0 v1 v2) (pk x0 x1 x2) (pk e0 e1 e2) := by
  have E : Ext w (w.alloc (.cells #[.bool n0, v0, .int .i64 e0, .bool n1, v1, .int .i64 e1, .bool n2, v2, .int .i64 e2] t)) := (Ext.refl w).alloc _
  refine ⟨fun j hj => ?_, fun j hj => ?_, fun j hj => ?_, fun j hj => ?_, fun j hj => ?_⟩
  all_goals
    obtain rfl | rfl | rfl : j = 0 ∨ j = 1 ∨ j = 2 := by omega
    all_goals first
    | (rw [World.cell?_alloc_new]; rfl)
    | exact r0.ext E
    | exact r1.ext E
    | exact r2.ext E
    | exact b0
    | exact b1
    | exact b2
/-- What Good gives of a number. -/
theorem good_num {w : World} {nb : Bool} {v : Value} {xs : List Int} {e : Int} (r : Row w v xs) (hg : goodB nb xs e = true) :
    ∃ z : Int, Dn w (.agg #[.bool nb, v, .int .i64 e]) (dy z e) ∧ Canon z e ∧ z.natAbs < 2 ^ 192 ∧ -200 ≤ e ∧ e ≤ 200 ∧ Rg 200 392 (dy z e) := by
  unfold goodB at hg
  rw [Bool.and_eq_true, Bool.and_eq_true, Bool.and_eq_true, decide_eq_true_eq, decide_eq_true_eq, decide_eq_true_eq] at hg
  obtain ⟨h8, hr, h1, h2⟩ := hg
  obtain ⟨z, hD, hc, hz, _, _⟩ := rightD_form r hr
  have hz2 : z.natAbs < 2 ^ 192 := Nat.lt_of_lt_of_le hz (Nat.pow_le_pow_right (by omega) (by omega))
  refine ⟨z, hD, hc, hz2, h2, h1, ⟨z * 2 ^ (e + 200).toNat, dy_down z e 200 (by omega), ?_⟩⟩
  have hp := pow2_pos (e + 200).toNat
  have hm := pow2_mono (show (e + 200).toNat ≤ 400 by omega)
  have hb : -(2 : Int) ^ 192 < z ∧ z < 2 ^ 192 := by
    have e1 : ((2 : Int) ^ 192).natAbs = 2 ^ 192 := by rw [Int.natAbs_pow]; rfl
    have := pow2_pos 192
    omega
  have := mul_bound hp hb.1 hb.2
  have h3 : (2 : Int) ^ 192 * 2 ^ (e + 200).toNat ≤ 2 ^ 192 * 2 ^ 400 := Int.mul_le_mul_of_nonneg_left hm (by have := pow2_pos 192; omega)
  rw [← Int.pow_add] at h3
  have h4 : (2 : Int) ^ (192 + 400) = 2 ^ (200 + 392) := rfl
  omega
theorem pk_all {α β γ : Type} {f : α → β → γ → Bool} {a b c : α} {a' b' c' : β} {a'' b'' c'' : γ} {k : Nat} (h : ∀ j, j < k → f (pk a b c j) (pk a' b' c' j) (pk a'' b'' c'' j) = true) :
    (0 < k → f a a' a'' = true) ∧ (1 < k → f b b' b'' = true) ∧ (2 < k → f c c' c'' = true) :=
  ⟨fun hk => h 0 hk, fun hk => h 1 hk, fun hk => h 2 hk⟩

theorem dy_one : dy 1 0 = 1 := by decide +kernel
theorem dy_two : dy 1 1 = 1 + 1 := by decide +kernel
theorem dy_shift (z e k : Int) : dy z e * dy 1 k = dy z (e + k) := by rw [dy_mul, Int.mul_one]
theorem dy_pows (k : Int) : dy 1 k * dy 1 (-k) = 1 := by rw [dy_mul, ← dy_one]; congr 1; omega
/-- Shift, of the number itself. -/
theorem shiftN_any (w : World) (v : Value) (d r : Dyadic) (k : Int) (P Q : Nat) (hr : d * dy 1 k = r) (h : Dn w v d) (hd : Rg P Q d) (hb : P + Q ≤ 9600) (hk : -400000 ≤ k ∧ k ≤ 400000) (T : Tb w) : Calls Tryz.prog 47 #[v, .int .i64 k] w (RetD w r) := by
  obtain ⟨z, e, rfl, hc, hl, h1, h2⟩ := h.rg hd hb
  rw [← hr, dy_shift]
  exact shiftD_any w v z e k h hc hl (by omega) hk T
/-- A number of at most B bits, its power of two within X. -/
structure Bt (B X : Nat) (d : Dyadic) : Prop where
  out : ∃ z e : Int, d = dy z e ∧ Canon z e ∧ z.natAbs < 2 ^ B ∧ -(X : Int) ≤ e ∧ e ≤ X
theorem Bt.shift {B X Y : Nat} {d : Dyadic} {k : Int} (h : Bt B X d) (hk : -(Y : Int) ≤ k ∧ k ≤ Y) : Bt B (X + Y) (d * dy 1 k) := by
  obtain ⟨z, e, rfl, hc, hb, h1, h2⟩ := h.out
  rw [dy_shift]
  rcases hc.out with ⟨rfl, rfl⟩ | ho
  · exact ⟨0, 0, by rw [dy_zero, dy_zero], ⟨.inl ⟨rfl, rfl⟩⟩, hb, by omega, by omega⟩
  · exact ⟨z, e + k, rfl, ⟨.inr ho⟩, hb, by omega, by omega⟩
theorem rrightBt_any (w : World) (v : Value) (d : Dyadic) (B X : Nat) (h : Dn w v d) (hb : Bt B X d) (h1 : B ≤ 1440) (h2 : X ≤ 6000) : Calls Tryz.prog 37 #[v] w (RetE w (.bool true)) := by
  obtain ⟨z, e, rfl, hc, hz, k1, k2⟩ := hb.out
  obtain ⟨M, z', e', rfl, ⟨xs, hr, nf, ev⟩, hc', hd⟩ := h
  obtain ⟨rfl, rfl⟩ := hc.uniq hc' hd
  have hl : xs.length ≤ 60 := N.len (m := z.natAbs) (Lt.of_bits (Nat.le_trans (bl_of_lt hz) (by omega))) nf ev
  have ht : rightD (decide (z < 0)) xs e = true := by
    unfold rightD
    rw [right_iff.2 ⟨nf, by omega⟩, decide_eq_true hl]
    by_cases h0 : xs.length = 0
    · rw [if_pos h0]
      obtain rfl : xs = [] := by simpa using h0
      have hz : z = 0 := by simp [val] at ev; omega
      subst hz
      have he : e = 0 := by rcases hc.out with k | k <;> omega
      subst he
      rfl
    · rw [if_neg h0]
      have hne : xs ≠ [] := by intro e0; subst e0; simp at h0
      have hodd := val_mod2 hne
      have hz : z % 2 = 1 := by
        rcases hc.out with k | k
        · exfalso
          have := nf.pos hne
          have := bp_pos (xs.length - 1)
          omega
        · exact k
      rw [decide_eq_true (show nth xs 0 % 2 = 1 by omega), decide_eq_true (show -6000 ≤ e by omega), decide_eq_true (show e ≤ 6000 by omega)]
      rfl
  have := rrightD_any w (decide (z < 0)) M xs e hr (by omega)
  rwa [ht] at this

/-! Order. -/
theorem cmpD_pair (x y : Dyadic) : ∃ X Y m : Int, x = dy X m ∧ y = dy Y m := by
  have key : ∀ d : Dyadic, ∃ z e : Int, d = dy z e := fun d => by
    cases d with
    | zero => exact ⟨0, 0, rfl⟩
    | ofOdd n k h => exact ⟨n, -k, by rw [dy_odd h]; simp⟩
  obtain ⟨z, e, rfl⟩ := key x
  obtain ⟨z', e', rfl⟩ := key y
  obtain ⟨K, hK⟩ : ∃ K : Nat, e - min e e' = (K : Int) := ⟨(e - min e e').toNat, by omega⟩
  obtain ⟨K', hK'⟩ : ∃ K' : Nat, e' - min e e' = (K' : Int) := ⟨(e' - min e e').toNat, by omega⟩
  exact ⟨z * 2 ^ K, z' * 2 ^ K', min e e', by rw [dy_up]; congr 1; omega, by rw [dy_up]; congr 1; omega⟩
theorem cmpD_swap (x y : Dyadic) : cmpD y x = - cmpD x y := by
  obtain ⟨X, Y, m, rfl, rfl⟩ := cmpD_pair x y
  rw [cmpD_dy, cmpD_dy]; exact cmpI_swap _ _
theorem cmpD_negs (x y : Dyadic) : cmpD (-x) (-y) = - cmpD x y := by
  obtain ⟨X, Y, m, rfl, rfl⟩ := cmpD_pair x y
  rw [dy_neg, dy_neg, cmpD_dy, cmpD_dy, cmpI_neg]; exact cmpI_swap _ _
theorem cmpI_iff {a b c d : Int} (h1 : a < b ↔ c < d) (h2 : a = b ↔ c = d) : cmpI a b = cmpI c d := by unfold cmpI; simp only [h1, h2]
theorem cmpD_less (x y : Dyadic) : cmpD (x + -y) 0 = cmpD x y := by
  obtain ⟨X, Y, m, rfl, rfl⟩ := cmpD_pair x y
  rw [dy_neg, dy_add, cmpD_zero, cmpD_dy]
  exact cmpI_iff (by omega) (by omega)
theorem cmpD_adds (x y c : Dyadic) : cmpD (x + c) (y + c) = cmpD x y := by
  rw [← cmpD_less, ← cmpD_less x y]; congr 1; grind
theorem cmpD_eq (x y : Dyadic) : (cmpD x y = 0) = (x = y) := by
  obtain ⟨X, Y, m, rfl, rfl⟩ := cmpD_pair x y
  rw [cmpD_dy]
  apply propext
  constructor
  · intro h
    have : X = Y := by
      unfold cmpI at h
      split at h
      · omega
      · split at h <;> omega
    rw [this]
  · intro h; exact cmpI_eq (dy_inj h)
theorem cmpD_shift (x y : Dyadic) (k : Int) : cmpD (x * dy 1 k) (y * dy 1 k) = cmpD x y := by
  obtain ⟨X, Y, m, rfl, rfl⟩ := cmpD_pair x y
  rw [dy_shift, dy_shift, cmpD_dy, cmpD_dy]
theorem cmpD_mul (x y : Dyadic) : cmpD (x * y) 0 = cmpD x 0 * cmpD y 0 := by
  obtain ⟨X, Y, m, rfl, rfl⟩ := cmpD_pair x y
  rw [dy_mul, cmpD_zero, cmpD_zero, cmpD_zero]
  rcases Int.lt_trichotomy X 0 with h | h | h <;> rcases Int.lt_trichotomy Y 0 with k | k | k
  · rw [cmpI_lt h, cmpI_lt k, cmpI_gt (Int.mul_pos_of_neg_of_neg h k)]; rfl
  · subst k; rw [Int.mul_zero, cmpI_eq rfl]; simp
  · rw [cmpI_lt h, cmpI_gt k, cmpI_lt (Int.mul_neg_of_neg_of_pos h k)]; rfl
  · subst h; rw [Int.zero_mul, cmpI_eq rfl]; simp
  · subst h; rw [Int.zero_mul, cmpI_eq rfl]; simp
  · subst h; rw [Int.zero_mul, cmpI_eq rfl]; simp
  · rw [cmpI_gt h, cmpI_lt k, cmpI_lt (Int.mul_neg_of_pos_of_neg h k)]; rfl
  · subst k; rw [Int.mul_zero, cmpI_eq rfl]; simp
  · rw [cmpI_gt h, cmpI_gt k, cmpI_gt (Int.mul_pos h k)]; rfl

end Go.Proofs.YtomdbmjfehoodaaGreatDoor

/- What is cut: plain mathematics, and lengths. -/
namespace Go.Proofs.YtomdbmjfehoodaaGreatDoor
open Go.RowKit

/-- d is a whole number of at most 2^k times a power of two. -/
structure Few (k : Nat) (d : Dyadic) : Prop where
  out : ∃ Z E : Int, d = dy Z E ∧ Z.natAbs ≤ 2 ^ k
theorem Few.len {k : Nat} {z e : Int} (h : Few k (dy z e)) (hc : Canon z e) (hk : 1 ≤ k) : bl z.natAbs ≤ k := by
  obtain ⟨Z, E, hd, hZ⟩ := h.out
  rcases hc.out with ⟨rfl, rfl⟩ | ho
  · exact Nat.le_trans (Nat.le_of_eq bl_zero) (Nat.zero_le _)
  · apply bl_of_lt
    obtain ⟨j, rfl⟩ : ∃ j, k = j + 1 := ⟨k - 1, by omega⟩
    rw [Nat.pow_succ] at hZ ⊢
    rcases Int.lt_or_le e E with he | he
    · exfalso
      obtain ⟨t, ht⟩ : ∃ t : Nat, E = e + (t + 1 : Nat) := ⟨(E - e - 1).toNat, by omega⟩
      rw [ht, ← dy_up, Int.pow_succ, ← Int.mul_assoc] at hd
      have := dy_inj hd
      omega
    · obtain ⟨t, ht⟩ : ∃ t : Nat, e = E + (t : Nat) := ⟨(e - E).toNat, by omega⟩
      rw [ht, ← dy_up] at hd
      have hz := dy_inj hd
      cases t with
      | zero =>
        simp at hz
        omega
      | succ t =>
        have e1 : (z * 2 ^ (t + 1)).natAbs = z.natAbs * 2 ^ (t + 1) := by rw [Int.natAbs_mul, Int.natAbs_pow]; rfl
        have h2 := Nat.two_pow_pos t
        have e2 : z.natAbs * 2 ^ (t + 1) = z.natAbs * 2 ^ t * 2 := by rw [Nat.pow_succ, Nat.mul_assoc]
        have h3 : z.natAbs ≤ z.natAbs * 2 ^ t := Nat.le_mul_of_pos_right _ h2
        rw [hz] at e1
        omega
/-- What is told of both sides, of a number that has more bits than are asked for. -/
structure Sides (z e : Int) (k : Nat) (lo hi : Dyadic) : Prop where
  gap : hi + -lo = dy 1 (e + (bl z.natAbs - k : Nat))
  below : cmpD lo (dy z e) = -1
  above : cmpD hi (dy z e) = 1
  flo : Few k lo
  fhi : Few k hi
  rlo : Rg 200 393 lo
  rhi : Rg 200 393 hi
theorem side_rg {Z e : Int} {k j p : Nat} (hZ : Z.natAbs ≤ 2 ^ k) (hj : bl p = k + j) (hp : p < 2 ^ 192) (h1 : -200 ≤ e) (h2 : e ≤ 200) : Rg 200 393 (dy Z (e + (j : Nat))) := by
  refine ⟨Z * 2 ^ (e + (j : Nat) + 200).toNat, dy_down Z _ 200 (by omega), ?_⟩
  have hbl := bl_of_lt hp
  have hp2 := pow2_pos (e + (j : Nat) + 200).toNat
  have hb : -((2 : Int) ^ k + 1) < Z ∧ Z < 2 ^ k + 1 := by
    have e1 : ((2 : Int) ^ k).natAbs = 2 ^ k := by rw [Int.natAbs_pow]; rfl
    have := pow2_pos k
    omega
  have hm := mul_bound hp2 hb.1 hb.2
  have h3 : ((2 : Int) ^ k + 1) * 2 ^ (e + (j : Nat) + 200).toNat ≤ 2 ^ (k + 1) * 2 ^ (e + (j : Nat) + 200).toNat := Int.mul_le_mul_of_nonneg_right (by rw [Int.pow_succ]; have := pow2_pos k; omega) (by omega)
  rw [← Int.pow_add] at h3
  have h4 := pow2_mono (show k + 1 + (e + (j : Nat) + 200).toNat ≤ 200 + 393 by omega)
  omega
theorem cut_sides {z e : Int} {k : Nat} (hc : Canon z e) (hb : k < bl z.natAbs) (hk : 1 ≤ k) (hp : z.natAbs < 2 ^ 192) (h1 : -200 ≤ e) (h2 : e ≤ 200) : Sides z e k (cutD z e k false) (cutD z e k true) := by
  obtain ⟨j, hj⟩ : ∃ j, bl z.natAbs = k + (j + 1) := ⟨bl z.natAbs - k - 1, by omega⟩
  have hz : z ≠ 0 := by rintro rfl; rw [show bl (Int.natAbs 0) = 0 from rfl] at hb; omega
  have ho : z % 2 = 1 := by rcases hc.out with ⟨h, _⟩ | h <;> omega
  have ej : bl z.natAbs - k = j + 1 := by omega
  have hcut : ∀ up, cutD z e k up = dy (sg (decide (z < 0)) (z.natAbs / 2 ^ (j + 1) + if up = decide (z < 0) then 0 else 1)) (e + (j + 1 : Nat)) := fun up => by
    unfold cutD; rw [if_neg (show ¬ bl z.natAbs ≤ k by omega), ej]
  rw [hcut, hcut]
  clear hcut
  have hlt := bl_lt z.natAbs
  rw [hj, Nat.pow_add] at hlt
  have hP := Nat.two_pow_pos (j + 1)
  have hdm := Nat.div_add_mod z.natAbs (2 ^ (j + 1))
  have hmod := Nat.mod_lt z.natAbs hP
  have hmod0 : z.natAbs % 2 ^ (j + 1) ≠ 0 := by
    intro h0
    rw [h0, Nat.add_zero, Nat.pow_succ, Nat.mul_comm, ← Nat.mul_assoc] at hdm
    omega
  have hq : z.natAbs / 2 ^ (j + 1) < 2 ^ k := Nat.div_lt_of_lt_mul (by rw [Nat.mul_comm]; exact hlt)
  generalize z.natAbs / 2 ^ (j + 1) = q at *
  generalize hr : z.natAbs % 2 ^ (j + 1) = r at *
  have cmp : ∀ Z : Int, cmpD (dy Z (e + (j + 1 : Nat))) (dy z e) = cmpI (Z * 2 ^ (j + 1)) z := fun Z => by rw [← dy_up, cmpD_dy]
  have eP : ((2 ^ (j + 1) : Nat) : Int) = (2 : Int) ^ (j + 1) := by push_cast; rfl
  have hq1 : ((q : Nat) : Int) * 2 ^ (j + 1) + r = z.natAbs := by rw [← eP, ← Int.natCast_mul, Nat.mul_comm]; omega
  have hq2 : (((q + 1 : Nat) : Int)) * 2 ^ (j + 1) = q * 2 ^ (j + 1) + 2 ^ (j + 1) := by push_cast; rw [Int.add_mul, Int.one_mul]
  have hr1 : (r : Int) < 2 ^ (j + 1) := by rw [← eP]; exact_mod_cast hmod
  have few0 : Few k (dy (q : Nat) (e + (j + 1 : Nat))) := ⟨_, _, rfl, by omega⟩
  have few1 : Few k (dy (q + 1 : Nat) (e + (j + 1 : Nat))) := ⟨_, _, rfl, by omega⟩
  have few0' : Few k (dy (-(q : Nat)) (e + (j + 1 : Nat))) := ⟨_, _, rfl, by omega⟩
  have few1' : Few k (dy (-(q + 1 : Nat)) (e + (j + 1 : Nat))) := ⟨_, _, rfl, by omega⟩
  have rg0 : ∀ Z : Int, Z.natAbs ≤ 2 ^ k → Rg 200 393 (dy Z (e + (j + 1 : Nat))) := fun Z h => side_rg h hj hp h1 h2
  by_cases hn : z < 0
  · rw [decide_eq_true hn, if_neg (by decide), if_pos rfl]
    show Sides z e k (dy (-((q + 1 : Nat) : Int)) _) (dy (-((q : Nat) : Int)) _)
    refine ⟨?_, ?_, ?_, few1', few0', rg0 _ (by omega), rg0 _ (by omega)⟩
    · rw [dy_neg, dy_add, ej]; congr 1; omega
    · rw [cmp, Int.neg_mul]; exact cmpI_lt (by omega)
    · rw [cmp, Int.neg_mul]; exact cmpI_gt (by omega)
  · rw [decide_eq_false hn, if_pos rfl, if_neg (by decide)]
    show Sides z e k (dy ((q : Nat) : Int) _) (dy ((q + 1 : Nat) : Int) _)
    refine ⟨?_, ?_, ?_, few0, few1, rg0 _ (by omega), rg0 _ (by omega)⟩
    · rw [dy_neg, dy_add, ej]; congr 1; omega
    · rw [cmp]; exact cmpI_lt (by omega)
    · rw [cmp]; exact cmpI_gt (by omega)
theorem cut_same {z e : Int} {k : Nat} {up : Bool} (h : bl z.natAbs ≤ k) : cutD z e k up = dy z e := by unfold cutD; rw [if_pos h]

/-- A length of at most k. -/
def RetLen (w : World) (k : Nat) (e : Ending) (w' : World) : Prop := ∃ n : Nat, e = .returned (.int .i64 n) ∧ w = w' ∧ n ≤ k ∧ n ≤ 10000
theorem lenFew_any (w : World) (x y M : Value) (d : Dyadic) (k P Q : Nat) (h : Dn w (.agg #[x, M, y]) d) (f : Few k d) (r : Rg P Q d) (hb : P + Q ≤ 9600) (hk : 1 ≤ k) : Calls Tryz.prog 139 #[M] w (RetLen w k) := by
  obtain ⟨M', z, e, hv, hN, hc, rfl⟩ := h
  injection hv with hv
  simp only [Array.mk.injEq, List.cons.injEq, and_true] at hv
  obtain ⟨_, rfl, _⟩ := hv
  have hl : Lt 400 z.natAbs := Lt.of_bits (Nat.le_trans (bl_of_lt (r.canon hc).2.2) (by omega))
  have := f.len hc hk
  have := hl.bits
  refine (rlen_any w M z.natAbs hN (hl.mono (by omega))).mono ?_
  rintro _ _ ⟨rfl, rfl⟩
  exact ⟨_, rfl, rfl, by omega, by omega⟩
theorem Dn.nat {w : World} {x y M : Value} {z e : Int} (h : Dn w (.agg #[x, M, y]) (dy z e)) (hc : Canon z e) : N w M z.natAbs := by
  obtain ⟨M', z', e', hv, hN, hc', hd⟩ := h
  injection hv with hv
  simp only [Array.mk.injEq, List.cons.injEq, and_true] at hv
  obtain ⟨_, rfl, _⟩ := hv
  obtain ⟨rfl, rfl⟩ := hc.uniq hc' hd
  exact hN

end Go.Proofs.YtomdbmjfehoodaaGreatDoor

