/- Dyadic numbers as the program holds them, and the walk of the document's Make. -/
import Derived.Test.YtjnnodbejnmkmaaDoorR7
import Derived.Test.YtjnnodbejnmkmaaDoorDyM
namespace Go.Proofs.YtjnnodbejnmkmaaDoor
open Go.RowKit

/-- v is the dyadic number d, in its one form. -/
def Dn (w : World) (v : Value) (d : Dyadic) : Prop := ∃ (M : Value) (z e : Int), v = .agg #[.bool (decide (z < 0)), M, .int .i64 e] ∧ N w M z.natAbs ∧ Canon z e ∧ d = dy z e
def RetD (w : World) (d : Dyadic) (e : Ending) (w' : World) : Prop := ∃ v, e = .returned v ∧ Dn w' v d ∧ Ext w w'
theorem Dn.ext {w w' : World} {v : Value} {d : Dyadic} (h : Dn w v d) (k : Ext w w') : Dn w' v d := by
  obtain ⟨M, z, e, rfl, h1, h2, h3⟩ := h
  exact ⟨M, z, e, rfl, h1.ext k, h2, h3⟩
theorem Dn.zero (w : World) : Dn w (.agg #[.bool false, .slice none 0 0, .int .i64 0]) 0 :=
  ⟨_, 0, 0, rfl, N.zero _ _ _ (by unfold maxLen; omega), ⟨.inl ⟨rfl, rfl⟩⟩, (dy_zero 0).symm⟩
theorem val_mod2 {xs : List Int} (h : xs ≠ []) : val xs % 2 = nth xs 0 % 2 := by
  cases xs with
  | nil => exact absurd rfl h
  | cons x l => rw [nth_cons_zero]; simp only [val]; omega
/-- A natural's lowest limb. -/
theorem N.low {w : World} {v : Value} {m : Nat} (h : N w v m) (hm : m ≠ 0) : ∃ b off len c x, v = .slice (some ⟨b, off, none⟩) len c ∧ 0 < len ∧ w.cell? ⟨b, off, none⟩ = some (.int .i64 x) ∧ 0 ≤ x ∧ x < 16777216 ∧ x % 2 = ((m % 2 : Nat) : Int) := by
  obtain ⟨xs, ⟨A, c, rfl, h1, h2, h3⟩, n, e⟩ := h
  have hne : xs ≠ [] := by intro e0; subst e0; simp [val] at e; omega
  have hl : 0 < xs.length := List.length_pos_iff.2 hne
  obtain ⟨b, off, rfl, hb, hc⟩ := h3 hl
  obtain ⟨x0, x1⟩ := n.1.at 0
  refine ⟨b, off, _, c, nth xs 0, rfl, hl, hc 0 hl, x0, x1, ?_⟩
  have := val_mod2 hne
  omega
theorem rshr_K (w : World) (v : Value) (m K : Nat) (hK : K ≤ 1000000) (h : N w v m) (hm : Lt 400 m) : Calls Tryd.prog 53 #[v, .int .i64 K] w (RetN w (m / 2 ^ K)) := by
  by_cases h0 : K = 0
  · subst h0; rw [Nat.pow_zero, Nat.div_one]; exact rshr_same w v m _ h hm (by simp)
  · exact rshr_nat w v m K (by omega) hK h hm

/-- A number's natural, with its sign. -/
def sg (neg : Bool) (m : Nat) : Int := if neg then -(m : Int) else m
theorem sg_abs (neg : Bool) (m : Nat) : (sg neg m).natAbs = m := by cases neg <;> simp [sg]
theorem sg_neg {neg : Bool} {m : Nat} (h : m ≠ 0) : decide (sg neg m < 0) = neg := by cases neg <;> simp [sg] <;> omega
theorem sg_zero (neg : Bool) : sg neg 0 = 0 := by cases neg <;> rfl
/-- m has k factors of two, at the least. -/
structure Even (m k : Nat) : Prop where
  out : ∃ q, m = q * 2 ^ k
theorem Even.zero (m : Nat) : Even m 0 := ⟨m, by simp⟩
theorem Even.div {m k : Nat} (h : Even m k) (hm : m ≠ 0) : m / 2 ^ k ≠ 0 ∧ k < bl m ∧ (m / 2 ^ k) * 2 ^ k = m := by
  obtain ⟨q, rfl⟩ := h.out
  have hp := Nat.two_pow_pos k
  rw [Nat.mul_div_cancel _ hp]
  have hq : q ≠ 0 := by rintro rfl; simp at hm
  exact ⟨hq, bl_gt (Nat.le_mul_of_pos_left _ (by omega)), rfl⟩
theorem Even.succ {m k : Nat} (h : Even m k) (h2 : m / 2 ^ k % 2 = 0) : Even m (k + 1) := by
  obtain ⟨q, rfl⟩ := h.out
  rw [Nat.mul_div_cancel _ (Nat.two_pow_pos k)] at h2
  exact ⟨q / 2, by rw [Nat.pow_succ, Nat.mul_comm (2 ^ k) 2, ← Nat.mul_assoc]; congr 1; omega⟩
theorem Even.form {m k : Nat} {e : Int} {neg : Bool} (h : Even m k) (hm : m ≠ 0) (h1 : m / 2 ^ k % 2 ≠ 0) : Canon (sg neg (m / 2 ^ k)) (e + k) ∧ dy (sg neg m) e = dy (sg neg (m / 2 ^ k)) (e + k) := by
  obtain ⟨_, _, h3⟩ := h.div hm
  constructor
  · refine ⟨.inr ?_⟩
    generalize m / 2 ^ k = q at h1 ⊢
    cases neg
    · show (q : Int) % 2 = 1; omega
    · show -(q : Int) % 2 = 1; omega
  · rw [← dy_up]
    congr 1
    conv => lhs; rw [← h3]
    cases neg <;> simp [sg, Int.neg_mul]

/-- At g lies a result's variable, with nothing in it yet. -/
structure Zd (w : World) (g : Nat) : Prop where
  c0 : w.cell? ⟨g, 0, none⟩ = some (.bool false)
  c1 : w.cell? ⟨g, 1, none⟩ = some (.slice none 0 0)
  c2 : w.cell? ⟨g, 2, none⟩ = some (.int .i64 0)
  c3 : ∀ j, w.cell? ⟨g, j + 3, none⟩ = none
  f : ∀ j, w.frozen? ⟨g, j, none⟩ = false
theorem Zd.new (w : World) (t : TypeId) : Zd (w.alloc (.cells #[.bool false, .slice none 0 0, .int .i64 0] t)) w.heap.size :=
  ⟨by rw [World.cell?_alloc_new]; rfl, by rw [World.cell?_alloc_new]; rfl, by rw [World.cell?_alloc_new]; rfl, fun j => by rw [World.cell?_alloc_new]; simp, fun j => by simp⟩
theorem Zd.ext {w w' : World} {g : Nat} (h : Zd w g) (E : Ext w w') : Zd w' g := by
  have hg : g < w.heap.size := World.block_lt_of_cell? w _ h.c0
  exact ⟨(E.cell hg).trans h.c0, (E.cell hg).trans h.c1, (E.cell hg).trans h.c2, fun j => (E.cell hg).trans (h.c3 j), fun j => (E.frozen hg).trans (h.f j)⟩
theorem Zd.row {w w' : World} {g : Nat} {v : Value} {xs : List Int} (h : Zd w g) (r : Row w v xs) (n : NF xs) (hs : ∀ p : Addr, p.block ≠ g → w'.cell? p = w.cell? p) (hz : w.heap.size ≤ w'.heap.size) : Row w' v xs := by
  obtain ⟨A, c, rfl, h1, h2, h3⟩ := r
  refine ⟨A, c, rfl, h1, h2, fun hl => ?_⟩
  obtain ⟨b, off, rfl, hb, hc⟩ := h3 hl
  have hne : b ≠ g := by
    rintro rfl
    have hk := hc (xs.length - 1) (by omega)
    have htop : nth xs (xs.length - 1) ≠ 0 := by
      rcases n.2 with e | e
      · subst e; simp at hl
      · exact e
    obtain ⟨i, hi⟩ : ∃ i, off + (xs.length - 1) = i := ⟨_, rfl⟩
    rw [hi] at hk
    match i, hk with
    | 0, hk => rw [h.c0] at hk; cases hk
    | 1, hk => rw [h.c1] at hk; cases hk
    | 2, hk => rw [h.c2] at hk; injection hk with hk; injection hk with _ hk; exact htop hk.symm
    | j + 3, hk => rw [h.c3] at hk; cases hk
  exact ⟨b, off, rfl, by omega, fun j hj => by rw [hs _ hne]; exact hc j hj⟩
def set3 (w : World) (g : Nat) (a b c : Value) : World := ((w.setCell ⟨g, 0, none⟩ a).setCell ⟨g, 1, none⟩ b).setCell ⟨g, 2, none⟩ c
theorem set3_other {w : World} {g : Nat} {a b c : Value} {p : Addr} (h : p.block ≠ g) : (set3 w g a b c).cell? p = w.cell? p := by
  unfold set3
  have hne : ∀ i, (⟨g, i, none⟩ : Addr) ≠ p := by rintro i rfl; exact h rfl
  first
  | rw [World.cell?_setCell_other _ _ _ _ (hne 2), World.cell?_setCell_other _ _ _ _ (hne 1), World.cell?_setCell_other _ _ _ _ (hne 0)]
  | rw [World.cell?_setCell_other _ _ _ _ (hne 2).symm, World.cell?_setCell_other _ _ _ _ (hne 1).symm, World.cell?_setCell_other _ _ _ _ (hne 0).symm]
theorem set3_size {w : World} {g : Nat} {a b c : Value} : (set3 w g a b c).heap.size = w.heap.size := by simp [set3]
theorem Zd.nat {w : World} {g : Nat} {v : Value} {m : Nat} (h : Zd w g) (n : N w v m) (a b c : Value) : N (set3 w g a b c) v m := by
  obtain ⟨xs, r, nf, e⟩ := n
  exact ⟨xs, h.row r nf (fun p hp => set3_other hp) (by rw [set3_size]; omega), nf, e⟩
theorem Zd.read {w : World} {g : Nat} (h : Zd w g) (a b c : Value) : (set3 w g a b c).cell? ⟨g, 0, none⟩ = some a ∧ (set3 w g a b c).cell? ⟨g, 1, none⟩ = some b ∧ (set3 w g a b c).cell? ⟨g, 2, none⟩ = some c := by
  unfold set3
  have k0 := World.cell?_setCell_same w ⟨g, 0, none⟩ a h.c0
  have k1 : (w.setCell ⟨g, 0, none⟩ a).cell? ⟨g, 1, none⟩ = some (.slice none 0 0) := by rw [World.cell?_setCell_other _ _ _ _ (by simp)]; exact h.c1
  have k2 : ((w.setCell ⟨g, 0, none⟩ a).setCell ⟨g, 1, none⟩ b).cell? ⟨g, 2, none⟩ = some (.int .i64 0) := by
    rw [World.cell?_setCell_other _ _ _ _ (by simp), World.cell?_setCell_other _ _ _ _ (by simp)]; exact h.c2
  refine ⟨?_, ?_, World.cell?_setCell_same _ _ _ k2⟩
  · rw [World.cell?_setCell_other _ _ _ _ (by simp), World.cell?_setCell_other _ _ _ _ (by simp)]; exact k0
  · rw [World.cell?_setCell_other _ _ _ _ (by simp)]; exact World.cell?_setCell_same _ _ _ k1
theorem Ext.set3 {a w : World} {g : Nat} {x y z : Value} (h : Ext a w) (hg : a.heap.size ≤ g) : Ext a (set3 w g x y z) := ((h.setCell hg _).setCell hg _).setCell hg _

set_option maxHeartbeats 1000000 in
theorem rmake_any (w : World) (neg : Bool) (v : Value) (m : Nat) (e : Int) (h : N w v m) (hm : Lt 400 m) (he : -1000000 ≤ e ∧ e ≤ 1000000) : Calls Tryd.prog 31 #[.bool neg, v, .int .i64 e] w (RetD w (dy (sg neg m) e)) := by
  by_cases h0 : m = 0
  · subst h0
    rw [sg_zero, dy_zero]
    obtain ⟨A, c, rfl, _⟩ := h.form
    go_enter Tryd.func31, Tryd.ntmps31
    go_wp2
    refine bodyPost_ret (v := .agg #[.bool false, .slice none 0 0, .int .i64 0]) (by simp [results, Tryd.results31, go_sem]) rfl ?_
    exact ⟨_, rfl, Dn.zero _, (Ext.refl w).alloc _⟩
  · obtain ⟨A, c, xs, rfl, hx0⟩ : ∃ A c xs, v = .slice A (List.length (α := Int) xs) c ∧ 0 < xs.length := by
      obtain ⟨xs, ⟨A, c, rfl, _⟩, n, e⟩ := id h
      refine ⟨A, c, xs, rfl, List.length_pos_iff.2 ?_⟩
      intro e0; subst e0; simp [val] at e; omega
    have hx1 : ((xs.length : Int) == 0) = false := beq_eq_false_iff_ne.2 (by omega)
    go_enter Tryd.func31, Tryd.ntmps31
    go_wp2
    go_loopw [7] (fun kv wr => ∃ k : Nat, kv = .int .i64 k ∧ Even m k ∧ Ext (w.alloc (Obj.cells #[Value.bool false, Value.slice none 0 0, Value.int IntKind.i64 0] 24)) wr) (fun kv _ => bl m - (intOf kv).toNat)
    case atStart => exact ⟨0, rfl, Even.zero m, Ext.refl _⟩
    case round =>
      obtain ⟨k, rfl, hk, hE⟩ := hrel
      obtain ⟨hq0, hkb, hq1⟩ := hk.div h0
      have hbl : bl m ≤ 9600 := hm.bits
      have hN := h.ext (((Ext.refl w).alloc _).trans hE)
      have HE := Lib.hid hE
      have HQ := Lib.hid hq1
      clear hE hq1
      by_cases hpar : m / 2 ^ k % 2 = 0
      · have HP := Lib.hid hpar
        clear hpar
        go_wp2_with (go_at_call 53; refine (rshr_K _ _ m k (by omega) hN hm).mono ?_; rintro e w1 ⟨v1, rfl, n1, e1⟩; obtain ⟨b, off, len, c1, x, rfl, hl, hc, x0, x1, x2⟩ := n1.low hq0; rw [HP.out] at x2)
        go_roundw
        case rel => exact ⟨k + 1, by go_num, hk.succ HP.out, HE.out.trans e1⟩
        case measure => simp [intOf]; omega
      · have HP := Lib.hid (show m / 2 ^ k % 2 = 1 by omega)
        have HF := Lib.hid (hk.form (e := e) (neg := neg) h0 hpar)
        clear hpar
        go_wp2_with (go_at_call 53; refine (rshr_K _ _ m k (by omega) hN hm).mono ?_; rintro e w1 ⟨v1, rfl, n1, e1⟩; obtain ⟨b, off, len, c1, x, rfl, hl, hc, x0, x1, x2⟩ := n1.low hq0; rw [HP.out] at x2)
        have hN1 := hN.ext e1
        go_wp2_with (go_at_call 53; refine (rshr_K _ _ m k (by omega) hN1 hm).mono ?_; rintro e w2 ⟨v2, rfl, n2, e2⟩; obtain ⟨b2, off2, len2, c2, x', rfl, _, _, _, _, _⟩ := n2.low hq0; have E2 := (HE.out.trans e1).trans e2; have Z2 := (Zd.new w _).ext E2; have g0 := Z2.c0; have g1 := Z2.c1; have g2 := Z2.c2; have f0 := Z2.f 0; have f1 := Z2.f 1; have f2 := Z2.f 2)
        obtain ⟨k0, k1, k2⟩ := Z2.read (.bool neg) (Value.slice (some { block := b2, off := off2 }) len2 c2) (.int .i64 (e + k))
        have hn3 := Z2.nat n2 (.bool neg) (Value.slice (some { block := b2, off := off2 }) len2 c2) (.int .i64 (e + k))
        have hE3 : Ext w _ := (((Ext.refl w).alloc _).trans E2).set3 (x := .bool neg) (y := Value.slice (some { block := b2, off := off2 }) len2 c2) (z := .int .i64 (e + k)) (Nat.le_refl _)
        unfold set3 at k0 k1 k2 hn3 hE3
        refine bodyPost_ret (v := .agg #[.bool neg, Value.slice (some { block := b2, off := off2 }) len2 c2, .int .i64 (e + k)]) (by simp [results, Tryd.results31, go_sem, k0, k1, k2]) rfl ?_
        refine ⟨_, rfl, ⟨_, sg neg (m / 2 ^ k), e + k, by rw [sg_neg hq0], by rw [sg_abs]; exact hn3, HF.out.1, HF.out.2⟩, hE3⟩

end Go.Proofs.YtjnnodbejnmkmaaDoor
