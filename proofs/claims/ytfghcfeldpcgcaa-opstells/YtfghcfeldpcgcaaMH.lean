/- Walks of the document's answers on floats. -/
import Derived.Test.YtfghcfeldpcgcaaMD
import Derived.Test.YtfghcfeldpcgcaaMF
import Derived.Laws.FloatArith
/- Walks of the document's answers on floats: Of, Same. -/
namespace Go.Proofs.Ytfghcfeldpcgcaa
open Go.RowKit
set_option linter.unusedVariables false

theorem fbits_run (b : Nat) (w : World) : (callFunc 42 #[.float .f64 b]).run Try.prog w = .ok (.value (.int .u64 b)) w := by kernel_rfl
theorem ffrom_run (n : Int) (w : World) : (callFunc 47 #[.int .u64 n]).run Try.prog w = .ok (.value (.float .f64 n.toNat)) w := by kernel_rfl
/-- It returned the number d, and the bool ok. -/
def RetDB (w : World) (d : Dyadic) (ok : Bool) (e : Ending) (w' : World) : Prop := ∃ v, e = .returned (.tuple #[v, .bool ok]) ∧ Dn w' v d ∧ Ext w w'
theorem u64_and_low (x : Nat) (k : Nat) (hk : k ≤ 63) (hx : x < 18446744073709551616) : bits .and .u64 (x : Int) (((2 ^ k - 1 : Nat)) : Int) = ((x % 2 ^ k : Nat) : Int) := by
  show IntKind.u64.wrap ((BitVec.ofInt 64 (x : Int) &&& BitVec.ofInt 64 ((2 ^ k - 1 : Nat) : Int)).toNat : Int) = _
  have hp := Nat.pow_le_pow_right (show 0 < 2 by omega) hk
  have e1 : (BitVec.ofInt 64 (x : Int)).toNat = x := by rw [BitVec.toNat_ofInt]; omega
  have e2 : (BitVec.ofInt 64 ((2 ^ k - 1 : Nat) : Int)).toNat = 2 ^ k - 1 := by rw [BitVec.toNat_ofInt]; omega
  rw [BitVec.toNat_and, e1, e2, Nat.and_two_pow_sub_one_eq_mod, IntKind.wrap_u64]
  have := Nat.mod_lt x (Nat.two_pow_pos k)
  omega
/-- A double's three parts. -/
structure Parts (b e m : Nat) (neg : Bool) : Prop where
  rung : frung b = e * 4503599627370496 + m
  low : m < 4503599627370496
  exp : e < 2048
  sign : fneg b = neg
theorem parts_of (b : Nat) : Parts b (b / 4503599627370496 % 2048) (b % 4503599627370496) (fneg b) := by
  refine ⟨?_, by omega, by omega, rfl⟩
  unfold frung
  omega
theorem Parts.small {b m : Nat} {neg : Bool} (h : Parts b 0 m neg) : fval b = dy (sg neg m) (-1074) := by
  have hr := h.rung
  have hl := h.low
  unfold fval rval
  rw [h.sign, hr, Nat.zero_mul, Nat.zero_add, rV_small hl]
  cases neg
  · rfl
  · simp only [if_true, sg]; rw [dy_neg]
theorem Parts.big {b e m : Nat} {neg : Bool} (h : Parts b (e + 1) m neg) : fval b = dy (sg neg (4503599627370496 + m)) ((e : Int) - 1074) := by
  have hr := h.rung
  have hl := h.low
  have hk : dy ((4503599627370496 + m : Nat) : Int) ((e : Int) - 1074) = rval (frung b) := by
    unfold rval
    rw [hr, rV_big hl]
    have h2 := dy_up ((4503599627370496 + m : Nat) : Int) (-1074) e
    rw [show (-1074 : Int) + (e : Int) = (e : Int) - 1074 by omega] at h2
    rw [← h2, Int.natCast_mul, Int.natCast_pow]
    rfl
  unfold fval
  rw [h.sign, ← hk]
  cases neg
  · rfl
  · simp only [if_true, sg]; rw [dy_neg]

/-- What the walk of a double's parts meets. -/
theorem parts_int (b : Nat) (hb : b < 18446744073709551616) : ∃ s q e m : Nat, (b : Int) / 9223372036854775808 = (s : Int) ∧ (b : Int) / 4503599627370496 = (q : Int) ∧ bits .and .u64 (q : Int) 2047 = (e : Int) ∧ bits .and .u64 (b : Int) 4503599627370495 = (m : Int) ∧ Parts b e m (decide (s = 1)) ∧ s ≤ 1 := by
  have h1 := u64_and_low (b / 4503599627370496) 11 (by omega) (by omega)
  have h2 := u64_and_low b 52 (by omega) hb
  refine ⟨b / 9223372036854775808, b / 4503599627370496, b / 4503599627370496 % 2048, b % 4503599627370496, by omega, by omega, h1, h2, ?_, by omega⟩
  have hp := parts_of b
  refine ⟨hp.rung, hp.low, hp.exp, ?_⟩
  unfold fneg
  have : b / 9223372036854775808 % 2 = b / 9223372036854775808 := by omega
  rw [this]
  by_cases h : b / 9223372036854775808 = 1
  · rw [h]; rfl
  · rw [decide_eq_false h]; exact beq_eq_false_iff_ne.2 h
theorem toNat_plus (m : Nat) (c : Int) (k : Nat) (hc : c = (k : Int)) : ((m : Int) + c).toNat = k + m := by subst hc; omega
theorem lt_natof (n : Nat) (h : n < 9223372036854775808) : Lt 400 n := Lt.of_bits (Nat.le_trans (bl_of_lt (n := 63) (by omega)) (by omega))
/-- A struct that came back is laid into the result's variable: with a second result. -/
theorem RetDB.of {w w' : World} {d : Dyadic} {v : Value} {ok : Bool} (h : RetD w d (.returned v) w') : RetDB w d ok (.returned (.tuple #[v, .bool ok])) w' := by
  obtain ⟨u, hu, hD, hE⟩ := h
  injection hu with hu
  subst hu
  exact ⟨v, rfl, hD, hE⟩

set_option maxRecDepth 10000 in
set_option maxHeartbeats 1000000 in
theorem rofF_big (w : World) (b s q e m : Nat) (h1 : (b : Int) / 9223372036854775808 = (s : Int)) (h2 : (b : Int) / 4503599627370496 = (q : Int)) (h3 : bits .and .u64 (q : Int) 2047 = ((e + 1 : Nat) : Int)) (h4 : bits .and .u64 (b : Int) 4503599627370495 = (m : Int)) (hs : s ≤ 1) (hm : m < 4503599627370496) (he : e + 1 < 2047) :
    Calls Try.prog 21 #[.float .f64 b] w (RetDB w (dy (sg (decide (s = 1)) (4503599627370496 + m)) ((e : Int) - 1074)) true) := by
  have hfb := fbits_run
  have HM := Lib.hid (fun (w' : World) (v : Value) (h : N w' v (4503599627370496 + m)) => rmake_any w' (decide (s = 1)) v (4503599627370496 + m) ((e : Int) - 1074) h (lt_natof _ (by omega)) (by omega))
  have hsb : ((s : Int) == 1) = decide (s = 1) := by by_cases h : s = 1 <;> simp [h] <;> omega
  generalize decide (s = 1) = neg at *
  have hne1 : (((e + 1 : Nat) : Int) == 2047) = false := beq_eq_false_iff_ne.2 (by omega)
  have hne0 : (((e + 1 : Nat) : Int) == 0) = false := beq_eq_false_iff_ne.2 (by omega)
  have hE : ((e + 1 : Nat) : Int) ≤ 2047 := by omega
  have hE0 : (0 : Int) ≤ ((e + 1 : Nat) : Int) := by omega
  obtain ⟨E, hEE⟩ : ∃ E : Int, ((e + 1 : Nat) : Int) = E := ⟨_, rfl⟩
  rw [hEE] at h3 hne1 hne0 hE hE0
  go_enter Try.func21, Try.ntmps21
  go_wp2_with fail
  refine (rof_any _ _ (by omega)).mono ?_
  rintro _ w1 ⟨v1, rfl, n1, e1⟩
  rw [toNat_plus m 4503599627370496 4503599627370496 rfl] at n1
  go_wp2_with fail
  have hE2 : E - 1075 = (e : Int) - 1074 := by omega
  rw [hE2]
  refine (HM.out _ _ n1).mono ?_
  rintro _ w2 ⟨v2, rfl, n2, e2⟩
  obtain ⟨b2, A2, l2, c2, ee2, rfl⟩ := n2.form
  have Z2 : Zd w2 w.heap.size := Zd.at (e1.trans e2) rfl
  have g0 := Z2.c0; have g1 := Z2.c1; have g2 := Z2.c2; have f0 := Z2.f 0; have f1 := Z2.f 1; have f2 := Z2.f 2
  go_wp2
  obtain ⟨k0, k1, k2, hD⟩ := Z2.done n2 (((Ext.refl w).alloc _).trans (e1.trans e2)) (by omega)
  exact bodyPost_ret (by simp [results, Try.results21, go_sem, k0, k1, k2]) rfl (RetDB.of hD)

set_option maxRecDepth 10000 in
set_option maxHeartbeats 1000000 in
theorem rofF_small (w : World) (b s q m : Nat) (h1 : (b : Int) / 9223372036854775808 = (s : Int)) (h2 : (b : Int) / 4503599627370496 = (q : Int)) (h3 : bits .and .u64 (q : Int) 2047 = 0) (h4 : bits .and .u64 (b : Int) 4503599627370495 = (m : Int)) (hs : s ≤ 1) (hm : m < 4503599627370496) :
    Calls Try.prog 21 #[.float .f64 b] w (RetDB w (dy (sg (decide (s = 1)) m) (-1074)) true) := by
  have hfb := fbits_run
  have HM := Lib.hid (fun (w' : World) (v : Value) (h : N w' v m) => rmake_any w' (decide (s = 1)) v m (-1074) h (lt_natof _ (by omega)) (by omega))
  have hsb : ((s : Int) == 1) = decide (s = 1) := by by_cases h : s = 1 <;> simp [h] <;> omega
  generalize decide (s = 1) = neg at *
  go_enter Try.func21, Try.ntmps21
  go_wp2_with fail
  refine (rof_any _ _ (by omega)).mono ?_
  rintro _ w1 ⟨v1, rfl, n1, e1⟩
  rw [Int.toNat_natCast] at n1
  go_wp2_with fail
  refine (HM.out _ _ n1).mono ?_
  rintro _ w2 ⟨v2, rfl, n2, e2⟩
  obtain ⟨b2, A2, l2, c2, ee2, rfl⟩ := n2.form
  have Z2 : Zd w2 w.heap.size := Zd.at (e1.trans e2) rfl
  have g0 := Z2.c0; have g1 := Z2.c1; have g2 := Z2.c2; have f0 := Z2.f 0; have f1 := Z2.f 1; have f2 := Z2.f 2
  go_wp2
  obtain ⟨k0, k1, k2, hD⟩ := Z2.done n2 (((Ext.refl w).alloc _).trans (e1.trans e2)) (by omega)
  exact bodyPost_ret (by simp [results, Try.results21, go_sem, k0, k1, k2]) rfl (RetDB.of hD)

set_option maxRecDepth 10000 in
set_option maxHeartbeats 1000000 in
theorem rofF_not (w : World) (b s q m : Nat) (h1 : (b : Int) / 9223372036854775808 = (s : Int)) (h2 : (b : Int) / 4503599627370496 = (q : Int)) (h3 : bits .and .u64 (q : Int) 2047 = 2047) (h4 : bits .and .u64 (b : Int) 4503599627370495 = (m : Int)) (hm : m < 4503599627370496) :
    Calls Try.prog 21 #[.float .f64 b] w (RetDB w 0 false) := by
  have hfb := fbits_run
  have hsb : ∃ neg, ((s : Int) == 1) = neg := ⟨_, rfl⟩
  obtain ⟨neg, hsb⟩ := hsb
  go_enter Try.func21, Try.ntmps21
  go_wp2
  have Z2 := Zd.new w 31
  have hD : RetDB w 0 false (.returned (.tuple #[.agg #[.bool false, .slice none 0 0, .int .i64 0], .bool false])) (w.alloc (.cells #[.bool false, .slice none 0 0, .int .i64 0] 31)) := ⟨_, rfl, Dn.zero _, (Ext.refl w).alloc _⟩
  have k0 := Z2.c0; have k1 := Z2.c1; have k2 := Z2.c2
  exact bodyPost_ret (by simp [results, Try.results21, go_sem, k0, k1, k2]) rfl hD
/-- What number a double is. -/
theorem rofF_fin (w : World) (b : Nat) (hb : b < 18446744073709551616) (h : Fin64 b) : Calls Try.prog 21 #[.float .f64 b] w (RetDB w (fval b) true) := by
  obtain ⟨s, q, e, m, h1, h2, h3, h4, hP, hs⟩ := parts_int b hb
  have hr := hP.rung
  have hl := hP.low
  have hf := h.out
  cases e with
  | zero => rw [hP.small]; exact rofF_small w b s q m h1 h2 h3 h4 hs hl
  | succ e => rw [hP.big]; exact rofF_big w b s q e m h1 h2 h3 h4 hs hl (by omega)
theorem rofF_no (w : World) (b : Nat) (hb : b < 18446744073709551616) (h : 9218868437227405312 ≤ frung b) : Calls Try.prog 21 #[.float .f64 b] w (RetDB w 0 false) := by
  obtain ⟨s, q, e, m, h1, h2, h3, h4, hP, hs⟩ := parts_int b hb
  have hr := hP.rung
  have hl := hP.low
  have hx := hP.exp
  have he : e = 2047 := by omega
  subst he
  exact rofF_not w b s q m h1 h2 h3 h4 hl

theorem order_self {b : Nat} (h : Num64 b) : Ieee.double.order b b = some .eq := by rw [order_num h h]; exact congrArg some (Int.compare_eq_eq.2 rfl)

end Go.Proofs.Ytfghcfeldpcgcaa

/- Walks of the document's answers on floats: Same, Next. -/
namespace Go.Proofs.Ytfghcfeldpcgcaa
open Go.RowKit
set_option linter.unusedVariables false

/-- Are two doubles alike? -/
def sameF (a b : Nat) : Bool := (Ieee.double.order a b == some .eq) || ((Ieee.double.order a a != some .eq) && (Ieee.double.order b b != some .eq))
theorem rsameF_any (w : World) (a b : Nat) : Calls Try.prog 10 #[.float .f64 a, .float .f64 b] w fun e w' => e = .returned (.bool (sameF a b)) ∧ w = w' := by
  have hf : FloatKind.f64.format = Ieee.double := rfl
  unfold sameF
  cases h1 : (Ieee.double.order a b == some .eq)
  · cases h2 : (Ieee.double.order a a != some .eq)
    · go_enter Try.func10, Try.ntmps10
      go_wp2
      go_ret
      exact ⟨rfl, rfl⟩
    · go_enter Try.func10, Try.ntmps10
      go_wp2
      go_ret
      exact ⟨rfl, rfl⟩
  · go_enter Try.func10, Try.ntmps10
    go_wp2
    go_ret
    exact ⟨rfl, rfl⟩

/-- The next double. -/
def nextF (b : Nat) : Nat :=
  if 9218868437227405312 < frung b ∨ (frung b = 9218868437227405312 ∧ fneg b = false) then b
  else if frung b = 0 then 1 else if fneg b then b - 1 else b + 1
theorem big_key : fkey 9218868437227405311 = 9218868437227405311 ∧ Num64 9218868437227405311 := ⟨by decide, ⟨by decide⟩⟩
theorem zero_key : fkey 0 = 0 ∧ Num64 0 := ⟨by decide, ⟨by decide⟩⟩
theorem order_cases {x y : Nat} (hx : Num64 x) (hy : Num64 y) : Ieee.double.order x y = some (compare (fkey x) (fkey y)) := order_num hx hy

theorem rnextF_nan (w : World) (b : Nat) (h : 9218868437227405312 < frung b) : Calls Try.prog 26 #[.float .f64 b] w fun e w' => e = .returned (.float .f64 b) ∧ w = w' := by
  have hf : FloatKind.f64.format = Ieee.double := rfl
  have h1 : (Ieee.double.order b b != some .eq) = true := by rw [order_nan (.inl h)]; rfl
  go_enter Try.func26, Try.ntmps26
  go_wp2
  go_ret
  exact ⟨rfl, rfl⟩
theorem rnextF_inf (w : World) (b : Nat) (h : frung b = 9218868437227405312) (hn : fneg b = false) : Calls Try.prog 26 #[.float .f64 b] w fun e w' => e = .returned (.float .f64 b) ∧ w = w' := by
  have hf : FloatKind.f64.format = Ieee.double := rfl
  have hb : Num64 b := ⟨by omega⟩
  have hk : fkey b = 9218868437227405312 := by unfold fkey; rw [hn, h]; rfl
  have h1 : (Ieee.double.order b b != some .eq) = false := by rw [order_self hb]; rfl
  have h2 : (Ieee.double.order b 9218868437227405311 == some .gt) = true := by rw [order_num hb big_key.2, hk, big_key.1]; rfl
  go_enter Try.func26, Try.ntmps26
  go_wp2
  go_ret
  exact ⟨rfl, rfl⟩
theorem rnextF_num (w : World) (b : Nat) (hb : b < 18446744073709551616) (h : fkey b < 9218868437227405312) (hN : Num64 b) : Calls Try.prog 26 #[.float .f64 b] w fun e w' => e = .returned (.float .f64 (if frung b = 0 then 1 else if fneg b then b - 1 else b + 1)) ∧ w = w' := by
  have hf : FloatKind.f64.format = Ieee.double := rfl
  have hfb := fbits_run
  have hff := ffrom_run
  have h1 : (Ieee.double.order b b != some .eq) = false := by rw [order_self hN]; rfl
  have h2 : (Ieee.double.order b 9218868437227405311 == some .gt) = false := by
    rw [order_num hN big_key.2, big_key.1]
    have : compare (fkey b) 9218868437227405311 ≠ .gt := fun k => by have := Int.compare_eq_gt.1 k; omega
    simpa using this
  have h3 : Ieee.double.order b 0 = some (compare (fkey b) 0) := by rw [order_num hN zero_key.2, zero_key.1]
  by_cases h0 : frung b = 0
  · rw [if_pos h0]
    have hk : fkey b = 0 := by unfold fkey; rw [h0]; cases fneg b <;> rfl
    have h4 : (Ieee.double.order b 0 == some .eq) = true := by rw [h3, hk]; rfl
    go_enter Try.func26, Try.ntmps26
    go_wp2
    go_ret
    exact ⟨rfl, rfl⟩
  · rw [if_neg h0]
    have hw := word_of hb
    rw [word_eq] at hw
    have hr : frung b < 9223372036854775808 := by unfold frung; omega
    cases hn : fneg b
    · have hk : 0 < fkey b := by unfold fkey; rw [hn]; simp only [Bool.false_eq_true, if_false]; omega
      have h4 : (Ieee.double.order b 0 == some .eq) = false := by rw [h3, Int.compare_eq_gt.2 hk]; rfl
      have h5 : (Ieee.double.order b 0 == some .gt) = true := by rw [h3, Int.compare_eq_gt.2 hk]; rfl
      rw [hn] at hw
      simp only [Bool.false_eq_true, if_false] at hw ⊢
      have hb2 : (b : Int) + 1 ≤ 9223372036854775808 := by omega
      have hw1 : IntKind.u64.wrap ((b : Int) + 1) = ((b + 1 : Nat) : Int) := by rw [IntKind.wrap_u64]; omega
      clear h3 hw
      go_enter Try.func26, Try.ntmps26
      go_wp2
      go_ret
      exact ⟨by congr 2, rfl⟩
    · have hk : fkey b < 0 := by unfold fkey; rw [hn]; simp only [if_true]; omega
      have h4 : (Ieee.double.order b 0 == some .eq) = false := by rw [h3, Int.compare_eq_lt.2 hk]; rfl
      have h5 : (Ieee.double.order b 0 == some .gt) = false := by rw [h3, Int.compare_eq_lt.2 hk]; rfl
      rw [hn] at hw
      simp only [if_true] at hw ⊢
      have hb2 : (1 : Int) ≤ (b : Int) := by omega
      have hw1 : IntKind.u64.wrap ((b : Int) - 1) = ((b - 1 : Nat) : Int) := by rw [IntKind.wrap_u64]; omega
      clear h3 hw
      go_enter Try.func26, Try.ntmps26
      go_wp2
      go_ret
      exact ⟨by congr 2, rfl⟩

end Go.Proofs.Ytfghcfeldpcgcaa

/- Walks: math.Ldexp of a whole number that a double has. -/
namespace Go.Proofs.Ytfghcfeldpcgcaa
open Go.RowKit
set_option linter.unusedVariables false

/-- A whole number as a full significand times a power of two. -/
theorem sig_of (n : Nat) (h1 : 1 ≤ n) (h2 : n ≤ 9007199254740992) : ∃ e s : Nat, s < 4503599627370496 ∧ 1023 ≤ e ∧ e ≤ 1076 ∧ dy (n : Int) 0 = dy ((4503599627370496 + s : Nat) : Int) ((e : Int) - 1075) := by
  have h0 : n ≠ 0 := by omega
  have a := Nat.log2_self_le h0
  have b : n < 2 ^ (n.log2 + 1) := (Nat.log2_lt h0).1 (Nat.lt_succ_self _)
  by_cases h53 : n = 9007199254740992
  · subst h53
    exact ⟨1076, 0, by omega, by omega, by omega, by decide +kernel⟩
  · have hl : n.log2 ≤ 52 := by
      rcases Nat.lt_or_ge 52 n.log2 with h | h
      · have := Nat.pow_le_pow_right (show 0 < 2 by omega) (show 53 ≤ n.log2 by omega)
        have e53 : 2 ^ 53 = 9007199254740992 := by decide
        omega
      · exact h
    obtain ⟨t, ht⟩ : ∃ t, n.log2 + t = 52 := ⟨52 - n.log2, by omega⟩
    have hp := Nat.two_pow_pos t
    have lo : 2 ^ n.log2 * 2 ^ t ≤ n * 2 ^ t := Nat.mul_le_mul_right _ a
    rw [← Nat.pow_add, ht] at lo
    have hi : n * 2 ^ t < 2 ^ (n.log2 + 1) * 2 ^ t := Nat.mul_lt_mul_of_pos_right b hp
    rw [← Nat.pow_add, show n.log2 + 1 + t = 53 by omega] at hi
    have e52 : 2 ^ 52 = 4503599627370496 := by decide
    have e53 : 2 ^ 53 = 9007199254740992 := by decide
    refine ⟨1023 + n.log2, n * 2 ^ t - 4503599627370496, by omega, by omega, by omega, ?_⟩
    have hs : 4503599627370496 + (n * 2 ^ t - 4503599627370496) = n * 2 ^ t := by omega
    rw [hs]
    have h3 := dy_up (n : Int) (-(t : Int)) t
    rw [show -(t : Int) + (t : Int) = 0 by omega] at h3
    rw [← h3, Int.natCast_mul, Int.natCast_pow, show ((1023 + n.log2 : Nat) : Int) - 1075 = -(t : Int) by omega]
    rfl
theorem rung_val {e s : Nat} (hs : s < 4503599627370496) : rval ((e + 1) * 4503599627370496 + s) = dy ((4503599627370496 + s : Nat) : Int) ((e : Int) - 1074) := by
  unfold rval
  rw [rV_big hs]
  have h2 := dy_up ((4503599627370496 + s : Nat) : Int) (-1074) e
  rw [show (-1074 : Int) + (e : Int) = (e : Int) - 1074 by omega] at h2
  rw [← h2, Int.natCast_mul, Int.natCast_pow]
  rfl
/-- float64(n). -/
theorem conv_word (n : Nat) (e s : Nat) (h1 : 1 ≤ n) (hs : s < 4503599627370496) (he : e + 1 < 2047) (hd : dy (n : Int) 0 = dy ((4503599627370496 + s : Nat) : Int) (((e + 1 : Nat) : Int) - 1075)) : Ieee.double.nearest false n 0 = (e + 1) * 4503599627370496 + s := by
  obtain ⟨r, hr, hn⟩ := nearest_spec false n 0
  have hv : dy (n : Int) 0 = rval ((e + 1) * 4503599627370496 + s) := by
    rw [hd, rung_val hs]; congr 1; omega
  rw [hv] at hn
  have := hn.uniq (Nr.rval (by omega))
  rw [hr, this, word_eq]; rfl
theorem and_low {a : Nat} (b k : Nat) (h : a < 2 ^ k) : a &&& b = a &&& (b % 2 ^ k) := by
  apply Nat.eq_of_testBit_eq
  intro i
  rw [Nat.testBit_and, Nat.testBit_and, Nat.testBit_mod_two_pow]
  by_cases hi : i < k
  · simp [hi]
  · have : a.testBit i = false := Nat.testBit_lt_two_pow (Nat.lt_of_lt_of_le h (Nat.pow_le_pow_right (by omega) (by omega)))
    simp [this]
theorem bv_nat (c : Nat) (h : c < 18446744073709551616) : (BitVec.ofInt 64 (c : Int)).toNat = c := by rw [BitVec.toNat_ofInt]; omega
theorem bits_abs (c : Nat) (h : c < 9223372036854775808) : bits .andNot .u64 (c : Int) 9223372036854775808 = (c : Int) := by
  show IntKind.u64.wrap ((BitVec.ofInt 64 (c : Int) &&& ~~~ BitVec.ofInt 64 (9223372036854775808 : Int)).toNat : Int) = _
  have e2 : (~~~ BitVec.ofInt 64 (9223372036854775808 : Int)).toNat = 2 ^ 63 - 1 := by decide
  rw [BitVec.toNat_and, bv_nat c (by omega), e2, Nat.and_two_pow_sub_one_eq_mod, IntKind.wrap_u64, Nat.mod_eq_of_lt (by omega)]
  omega
theorem bits_low52 (c : Nat) (h : c < 9223372036854775808) : bits .andNot .u64 (c : Int) 9218868437227405312 = ((c % 4503599627370496 : Nat) : Int) := by
  show IntKind.u64.wrap ((BitVec.ofInt 64 (c : Int) &&& ~~~ BitVec.ofInt 64 (9218868437227405312 : Int)).toNat : Int) = _
  have e2 : (~~~ BitVec.ofInt 64 (9218868437227405312 : Int)).toNat = 9227875636482146303 := by decide
  have e3 : 9227875636482146303 % 2 ^ 63 = 2 ^ 52 - 1 := by decide
  rw [BitVec.toNat_and, bv_nat c (by omega), e2, and_low _ 63 (by omega), e3, Nat.and_two_pow_sub_one_eq_mod, IntKind.wrap_u64]
  omega
theorem bits_or52 (s E : Nat) (h : s < 4503599627370496) (hE : E < 4096) : bits .or .u64 (s : Int) ((E * 4503599627370496 : Nat) : Int) = ((E * 4503599627370496 + s : Nat) : Int) := by
  show IntKind.u64.wrap ((BitVec.ofInt 64 (s : Int) ||| BitVec.ofInt 64 ((E * 4503599627370496 : Nat) : Int)).toNat : Int) = _
  have h1 := Nat.two_pow_add_eq_or_of_lt (i := 52) (b := s) h E
  have e1 : 2 ^ 52 * E = E * 4503599627370496 := by rw [Nat.mul_comm]
  rw [e1] at h1
  rw [BitVec.toNat_or, bv_nat s (by omega), bv_nat _ (by omega), Nat.or_comm, ← h1, IntKind.wrap_u64]
  omega
theorem abs_any (w : World) (c : Nat) (h : c < 9223372036854775808) : Calls Try.prog 62 #[.float .f64 c] w fun e w' => e = .returned (.float .f64 c) ∧ w = w' := by
  have hfb := fbits_run
  have hff := ffrom_run
  have h1 := bits_abs c h
  go_enter Try.func62, Try.ntmps62
  go_wp2
  go_ret
  exact ⟨by simp, rfl⟩
theorem pos_rung (c : Nat) (h : c < 9218868437227405312) : frung c = c := by unfold frung; omega
theorem pos_neg (c : Nat) (h : c < 9218868437227405312) : fneg c = false := by
  have e : c / 9223372036854775808 = 0 := by omega
  unfold fneg; rw [e]; rfl
theorem pos_key (c : Nat) (h : c < 9218868437227405312) : fkey c = c := by unfold fkey; rw [pos_neg c h, pos_rung c h]; rfl
theorem pos_num (c : Nat) (h : c < 9218868437227405312) : Num64 c := ⟨by rw [pos_rung c h]; omega⟩
theorem cmp_not_gt {a b : Int} (h : a ≤ b) : (some (compare a b) == some Ordering.gt) = false := by
  have : compare a b ≠ .gt := fun k => by have := Int.compare_eq_gt.1 k; omega
  simpa using this
theorem cmp_not_lt {a b : Int} (h : b ≤ a) : (some (compare a b) == some Ordering.lt) = false := by
  have : compare a b ≠ .lt := fun k => by have := Int.compare_eq_lt.1 k; omega
  simpa using this
theorem small_key : fkey 4503599627370496 = 4503599627370496 ∧ Num64 4503599627370496 := ⟨by decide, ⟨by decide⟩⟩
theorem not_big (c : Nat) (h : c < 9218868437227405312) : (Ieee.double.order c 9218868437227405311 == some .gt) = false := by
  rw [order_num (pos_num c h) big_key.2, big_key.1, pos_key c h]
  exact cmp_not_gt (by omega)
theorem not_small (c : Nat) (h0 : 4503599627370496 ≤ c) (h : c < 9218868437227405312) : (Ieee.double.order c 4503599627370496 == some .lt) = false := by
  rw [order_num (pos_num c h) small_key.2, small_key.1, pos_key c h]
  exact cmp_not_lt (by omega)
theorem isinf_no (w : World) (c : Nat) (h : c < 9218868437227405312) : Calls Try.prog 58 #[.float .f64 c, .int .i64 0] w fun e w' => e = .returned (.bool false) ∧ w = w' := by
  have hf : FloatKind.f64.format = Ieee.double := rfl
  have h2 := not_big c h
  have HA := Lib.hid (abs_any w c (by omega))
  go_enter Try.func58, Try.ntmps58
  go_wp2_with fail
  refine HA.out.mono ?_
  rintro _ _ ⟨rfl, rfl⟩
  go_wp2
  go_ret
  exact ⟨rfl, rfl⟩
theorem isnan_no (w : World) (c : Nat) (h : Num64 c) : Calls Try.prog 59 #[.float .f64 c] w fun e w' => e = .returned (.bool false) ∧ w = w' := by
  have hf : FloatKind.f64.format = Ieee.double := rfl
  have h1 : (Ieee.double.order c c != some .eq) = false := by rw [order_self h]; rfl
  go_enter Try.func59, Try.ntmps59
  go_wp2
  go_ret
  exact ⟨rfl, rfl⟩
theorem normal_any (w : World) (c : Nat) (h0 : 4503599627370496 ≤ c) (h : c < 9218868437227405312) : Calls Try.prog 60 #[.float .f64 c] w fun e w' => e = .returned (.tuple #[.float .f64 c, .int .i64 0]) ∧ w = w' := by
  have hf : FloatKind.f64.format = Ieee.double := rfl
  have h2 := not_small c h0 h
  have HA := Lib.hid (abs_any w c (by omega))
  go_enter Try.func60, Try.ntmps60
  go_wp2_with fail
  refine HA.out.mono ?_
  rintro _ _ ⟨rfl, rfl⟩
  go_wp2
  go_ret2
  exact ⟨rfl, rfl⟩

end Go.Proofs.Ytfghcfeldpcgcaa

/- The walk of math.Ldexp at a normal number. -/
namespace Go.Proofs.Ytfghcfeldpcgcaa
open Go.RowKit
set_option linter.unusedVariables false

theorem i64_and11 (x : Int) : bits .and .i64 x 2047 = x % 2048 := by
  show IntKind.i64.wrap ((BitVec.ofInt 64 x &&& BitVec.ofInt 64 (2047 : Int)).toNat : Int) = _
  have e : (BitVec.ofInt 64 (2047 : Int)).toNat = 2 ^ 11 - 1 := by decide
  rw [BitVec.toNat_and, e, Nat.and_two_pow_sub_one_eq_mod, BitVec.toNat_ofInt, IntKind.wrap_i64]
  omega
theorem not_zero (c : Nat) (h0 : 4503599627370496 ≤ c) (h : c < 9218868437227405312) : (Ieee.double.order c 0 == some .eq) = false := by
  rw [order_num (pos_num c h) zero_key.2, zero_key.1, pos_key c h, Int.compare_eq_gt.2 (by omega)]; rfl

set_option maxRecDepth 10000 in
set_option maxHeartbeats 1000000 in
theorem ldexp_mid (w : World) (c e s E r Y : Nat) (q X : Int) (hc : c = e * 4503599627370496 + s) (hs : s < 4503599627370496) (he : 1 ≤ e ∧ e < 2047) (hq : -2000 ≤ q ∧ q ≤ 2000) (hX : q + ((e : Int) - 1023) = X) (hlo : -1022 ≤ X) (hhi : X ≤ 1023) (hE : X + 1023 = (E : Int)) (hY : Y = E * 4503599627370496 + s)
    (hm : floatBits .mul .f64 4607182418800017408 Y = some r) :
    Calls Try.prog 56 #[.float .f64 c, .int .i64 q] w fun x w' => x = .returned (.float .f64 r) ∧ w = w' := by
  have hf : FloatKind.f64.format = Ieee.double := rfl
  have hfb := fbits_run
  have hff := ffrom_run
  have h1 := not_zero c (by omega) (by omega)
  have HI := Lib.hid (isinf_no w c (by omega))
  have HN := Lib.hid (isnan_no w c (pos_num c (by omega)))
  have HZ := Lib.hid (normal_any w c (by omega) (by omega))
  have h2 : (c : Int) / 4503599627370496 = (e : Int) := by omega
  have h3 : bits .and .i64 (e : Int) 2047 = (e : Int) := by rw [i64_and11]; omega
  have h4 := bits_low52 c (by omega)
  rw [show c % 4503599627370496 = s by omega] at h4
  have h5 := bits_or52 s E hs (by omega)
  rw [← hY, Int.natCast_mul] at h5
  have h6 : bits .or .u64 (s : Int) ((E : Int) * 4503599627370496) = (Y : Int) := h5
  have hmul : ∀ w' : World, (binOp .mul 22 (.float .f64 4607182418800017408) (.float .f64 Y)).run Try.prog w' = .ok (.float .f64 r) w' := fun w' => run_float_arith w' .mul _ .f64 _ _ _ hm
  have he1 := he.1
  have he2 := he.2
  clear hc hm h5 hY
  go_enter Try.func56, Try.ntmps56
  go_wp2_with fail
  refine HI.out.mono ?_
  rintro _ _ ⟨rfl, rfl⟩
  go_wp2_with fail
  refine HN.out.mono ?_
  rintro _ _ ⟨rfl, rfl⟩
  go_wp2_with fail
  refine HZ.out.mono ?_
  rintro _ _ ⟨rfl, rfl⟩
  go_wp2
  go_ret
  exact ⟨rfl, rfl⟩

set_option maxRecDepth 10000 in
set_option maxHeartbeats 1000000 in
theorem ldexp_low (w : World) (c e s E r Y : Nat) (q X : Int) (hc : c = e * 4503599627370496 + s) (hs : s < 4503599627370496) (he : 1 ≤ e ∧ e < 2047) (hq : -2000 ≤ q ∧ q ≤ 2000) (hX : q + ((e : Int) - 1023) = X) (hlo : -1075 ≤ X) (hhi : X < -1022) (hE : X + 53 + 1023 = (E : Int)) (hY : Y = E * 4503599627370496 + s)
    (hm : floatBits .mul .f64 4368491638549381120 Y = some r) :
    Calls Try.prog 56 #[.float .f64 c, .int .i64 q] w fun x w' => x = .returned (.float .f64 r) ∧ w = w' := by
  have hf : FloatKind.f64.format = Ieee.double := rfl
  have hfb := fbits_run
  have hff := ffrom_run
  have h1 := not_zero c (by omega) (by omega)
  have HI := Lib.hid (isinf_no w c (by omega))
  have HN := Lib.hid (isnan_no w c (pos_num c (by omega)))
  have HZ := Lib.hid (normal_any w c (by omega) (by omega))
  have h2 : (c : Int) / 4503599627370496 = (e : Int) := by omega
  have h3 : bits .and .i64 (e : Int) 2047 = (e : Int) := by rw [i64_and11]; omega
  have h4 := bits_low52 c (by omega)
  rw [show c % 4503599627370496 = s by omega] at h4
  have h5 := bits_or52 s E hs (by omega)
  rw [← hY, Int.natCast_mul] at h5
  have h6 : bits .or .u64 (s : Int) ((E : Int) * 4503599627370496) = (Y : Int) := h5
  have hmul : ∀ w' : World, (binOp .mul 22 (.float .f64 4368491638549381120) (.float .f64 Y)).run Try.prog w' = .ok (.float .f64 r) w' := fun w' => run_float_arith w' .mul _ .f64 _ _ _ hm
  have he1 := he.1
  have he2 := he.2
  clear hc hm h5 hY
  go_enter Try.func56, Try.ntmps56
  go_wp2_with fail
  refine HI.out.mono ?_
  rintro _ _ ⟨rfl, rfl⟩
  go_wp2_with fail
  refine HN.out.mono ?_
  rintro _ _ ⟨rfl, rfl⟩
  go_wp2_with fail
  refine HZ.out.mono ?_
  rintro _ _ ⟨rfl, rfl⟩
  go_wp2
  go_ret
  exact ⟨rfl, rfl⟩

theorem inf_any (w : World) : Calls Try.prog 30 #[.int .i64 1] w fun e w' => e = .returned (.float .f64 9218868437227405312) ∧ w = w' := by
  have hff := ffrom_run
  go_enter Try.func30, Try.ntmps30
  go_wp2
  go_ret
  exact ⟨rfl, rfl⟩
theorem ninf_any (w : World) : Calls Try.prog 30 #[.int .i64 (-1)] w fun e w' => e = .returned (.float .f64 18442240474082181120) ∧ w = w' := by
  have hff := ffrom_run
  go_enter Try.func30, Try.ntmps30
  go_wp2
  go_ret
  exact ⟨rfl, rfl⟩
theorem not_neg (c : Nat) (h0 : 4503599627370496 ≤ c) (h : c < 9218868437227405312) : (Ieee.double.order c 0 == some .lt) = false := by
  rw [order_num (pos_num c h) zero_key.2, zero_key.1, pos_key c h]
  exact cmp_not_lt (by omega)
set_option maxRecDepth 10000 in
set_option maxHeartbeats 1000000 in
theorem ldexp_high (w : World) (c e s : Nat) (q X : Int) (hc : c = e * 4503599627370496 + s) (hs : s < 4503599627370496) (he : 1 ≤ e ∧ e < 2047) (hq : -2000 ≤ q ∧ q ≤ 2000) (hX : q + ((e : Int) - 1023) = X) (hlo : 1023 < X) :
    Calls Try.prog 56 #[.float .f64 c, .int .i64 q] w fun x w' => x = .returned (.float .f64 9218868437227405312) ∧ w = w' := by
  have hf : FloatKind.f64.format = Ieee.double := rfl
  have hfb := fbits_run
  have h1 := not_zero c (by omega) (by omega)
  have h0 := not_neg c (by omega) (by omega)
  have HI := Lib.hid (isinf_no w c (by omega))
  have HN := Lib.hid (isnan_no w c (pos_num c (by omega)))
  have HZ := Lib.hid (normal_any w c (by omega) (by omega))
  have h2 : (c : Int) / 4503599627370496 = (e : Int) := by omega
  have h3 : bits .and .i64 (e : Int) 2047 = (e : Int) := by rw [i64_and11]; omega
  have he1 := he.1
  have he2 := he.2
  clear hc
  go_enter Try.func56, Try.ntmps56
  go_wp2_with fail
  refine HI.out.mono ?_
  rintro _ _ ⟨rfl, rfl⟩
  go_wp2_with fail
  refine HN.out.mono ?_
  rintro _ _ ⟨rfl, rfl⟩
  go_wp2_with fail
  refine HZ.out.mono ?_
  rintro _ _ ⟨rfl, rfl⟩
  go_wp2_with fail
  refine (inf_any _).mono ?_
  rintro _ _ ⟨rfl, rfl⟩
  go_wp2
  go_ret
  exact ⟨rfl, rfl⟩

end Go.Proofs.Ytfghcfeldpcgcaa

/- math.Ldexp of a whole number that a double has: nearest to the number. -/
namespace Go.Proofs.Ytfghcfeldpcgcaa
open Go.RowKit
set_option linter.unusedVariables false

theorem one_val : fval 4607182418800017408 = dy 1 0 := by decide +kernel
theorem tiny_val : fval 4368491638549381120 = dy 1 (-53) := by decide +kernel
theorem one_fin : Fin64 4607182418800017408 := ⟨by decide⟩
theorem tiny_fin : Fin64 4368491638549381120 := ⟨by decide⟩
theorem pos_val {E s : Nat} (hs : s < 4503599627370496) (h1 : 1 ≤ E) (h2 : E < 2047) : fval (E * 4503599627370496 + s) = dy ((4503599627370496 + s : Nat) : Int) ((E : Int) - 1075) := by
  obtain ⟨k, rfl⟩ : ∃ k, E = k + 1 := ⟨E - 1, by omega⟩
  have hlt : (k + 1) * 4503599627370496 + s < 9218868437227405312 := by omega
  unfold fval
  rw [pos_neg _ hlt, pos_rung _ hlt, rung_val hs]
  simp only [Bool.false_eq_true, if_false]
  congr 1
  omega
theorem nr_inf {x : Dyadic} (h : rval 9218868437227405312 ≤ x) : Nr x 9218868437227405312 := by
  refine ⟨Nat.le_refl _, fun k => absurd k (Nat.lt_irrefl _), fun q hq => .inl ?_⟩
  have := mid_lt_rval q
  rw [← hq] at this
  grind
theorem inf_rn {x : Dyadic} (h : rval 9218868437227405312 ≤ x) : Rn x 9218868437227405312 := by
  have h0 : (0 : Dyadic) < rval 9218868437227405312 := rval_pos (by omega)
  have hr : frung 9218868437227405312 = 9218868437227405312 := by decide
  have hn : fneg 9218868437227405312 = false := by decide
  refine ⟨by omega, ?_, fun k => by grind, fun _ _ => hn⟩
  rw [hr, absD_of (by grind)]
  exact nr_inf h
/-- It returned a double that is nearest to d, and not below 0. -/
def RetF (w : World) (d : Dyadic) (e : Ending) (w' : World) : Prop := ∃ b, e = .returned (.float .f64 b) ∧ Rn d b ∧ fneg b = false ∧ w = w'
theorem ldexp_any (w : World) (n : Nat) (q : Int) (h1 : 1 ≤ n) (h2 : n ≤ 9007199254740992) (hq : -1074 ≤ q ∧ q ≤ 971) :
    Calls Try.prog 56 #[.float .f64 (Ieee.double.nearest false n 0), .int .i64 q] w (RetF w (dy (n : Int) q)) := by
  obtain ⟨e, s, hs, he1, he2, hd⟩ := sig_of n h1 h2
  have hc : Ieee.double.nearest false n 0 = e * 4503599627370496 + s := by
    obtain ⟨k, rfl⟩ : ∃ k, e = k + 1 := ⟨e - 1, by omega⟩
    exact conv_word n k s h1 hs (by omega) hd
  rw [hc]
  obtain ⟨X, hX⟩ : ∃ X, q + ((e : Int) - 1023) = X := ⟨_, rfl⟩
  have hval : dy (n : Int) q = dy ((4503599627370496 + s : Nat) : Int) (X - 52) := by
    have h3 : dy (n : Int) q = dy (n : Int) 0 * dy 1 q := by rw [dy_mul, Int.mul_one, Int.zero_add]
    rw [h3, hd, dy_mul, Int.mul_one]
    congr 1
    omega
  have hpos : 0 < dy (n : Int) q := by rw [← dy_zero q]; exact dy_lt.2 (by omega)
  rw [hval] at hpos ⊢
  rcases Int.lt_or_le 1023 X with hh | hh
  · refine (ldexp_high w _ e s q X rfl hs (by omega) (by omega) hX hh).mono ?_
    rintro _ _ ⟨rfl, rfl⟩
    refine ⟨_, rfl, inf_rn ?_, by decide, rfl⟩
    have hi : rval 9218868437227405312 = dy 1 1024 := by decide +kernel
    have hX2 : X = 1024 := by omega
    subst hX2
    have h4 := dy_up 1 972 52
    rw [hi, show (1024 : Int) = 972 + ((52 : Nat) : Int) by decide, ← h4]
    exact dy_le.2 (by have : (1 : Int) * 2 ^ 52 = 4503599627370496 := by decide
                      omega)
  · rcases Int.lt_or_le X (-1022) with hl | hl
    · obtain ⟨E, hE⟩ : ∃ E : Nat, X + 53 + 1023 = (E : Int) := ⟨(X + 53 + 1023).toNat, by omega⟩
      have hfY : Fin64 (E * 4503599627370496 + s) := ⟨by rw [pos_rung _ (by omega)]; omega⟩
      obtain ⟨r, hr, hR, hsg⟩ := mul_fin tiny_fin hfY
      refine (ldexp_low w _ e s E r _ q X rfl hs (by omega) (by omega) hX (by omega) hl hE rfl hr).mono ?_
      rintro _ _ ⟨rfl, rfl⟩
      have hv : fval 4368491638549381120 * fval (E * 4503599627370496 + s) = dy ((4503599627370496 + s : Nat) : Int) (X - 52) := by
        rw [tiny_val, pos_val hs (by omega) (by omega), dy_mul, Int.one_mul]; congr 1; omega
      rw [hv] at hR
      rw [pos_neg (E * 4503599627370496 + s) (by omega), show fneg 4368491638549381120 = false by decide, Bool.false_xor] at hsg
      exact ⟨r, rfl, hR, hsg, rfl⟩
    · obtain ⟨E, hE⟩ : ∃ E : Nat, X + 1023 = (E : Int) := ⟨(X + 1023).toNat, by omega⟩
      have hfY : Fin64 (E * 4503599627370496 + s) := ⟨by rw [pos_rung _ (by omega)]; omega⟩
      obtain ⟨r, hr, hR, hsg⟩ := mul_fin one_fin hfY
      refine (ldexp_mid w _ e s E r _ q X rfl hs (by omega) (by omega) hX hl hh hE rfl hr).mono ?_
      rintro _ _ ⟨rfl, rfl⟩
      have hv : fval 4607182418800017408 * fval (E * 4503599627370496 + s) = dy ((4503599627370496 + s : Nat) : Int) (X - 52) := by
        rw [one_val, pos_val hs (by omega) (by omega), dy_mul, Int.one_mul]; congr 1; omega
      rw [hv] at hR
      rw [pos_neg (E * 4503599627370496 + s) (by omega), show fneg 4607182418800017408 = false by decide, Bool.false_xor] at hsg
      exact ⟨r, rfl, hR, hsg, rfl⟩

end Go.Proofs.Ytfghcfeldpcgcaa

/- The walk of the document's rounded. -/
namespace Go.Proofs.Ytfghcfeldpcgcaa
open Go.RowKit
set_option linter.unusedVariables false

theorem rshl_all (w : World) (v : Value) (m : Nat) (k : Int) (K : Nat) (hk : k = (K : Int)) (hK : K ≤ 20000) (h : N w v m) (hm : Lt 400 m) : Calls Try.prog 35 #[v, .int .i64 k] w (RetN w (m * 2 ^ K)) := by
  by_cases h0 : m = 0
  · subst h0; rw [Nat.zero_mul]; exact rshl_same w v 0 k h hm (.inr rfl)
  · exact rshl_K w v m k K hk hK h hm h0
/-- A natural over a power of two, to the nearest, ties to even. -/
def rne (m K : Nat) : Nat := m / 2 ^ K + if 2 ^ K < 2 * (m % 2 ^ K) ∨ (2 ^ K = 2 * (m % 2 ^ K) ∧ m / 2 ^ K % 2 = 1) then 1 else 0
theorem rne_cut (neg : Bool) (m K : Nat) : rne m K = Ieee.Toward.even.cut neg m K := by
  unfold rne Ieee.Toward.cut
  dsimp only
  rw [Nat.one_shiftLeft]
  rcases Nat.lt_or_ge (m.log2 + 2) K with hd | hd
  · rw [Nat.min_eq_right (by omega)]
    have hn : m < 2 ^ (m.log2 + 1) := by
      by_cases h0 : m = 0
      · subst h0; simp
      · exact (Nat.log2_lt h0).1 (Nat.lt_succ_self _)
    have e : 2 ^ (m.log2 + 2) = 2 * 2 ^ (m.log2 + 1) := by rw [Nat.pow_succ, Nat.mul_comm]
    have h5 := Nat.pow_le_pow_right (show 0 < 2 by omega) (show m.log2 + 2 ≤ K by omega)
    have h1 : m / 2 ^ (m.log2 + 2) = 0 := Nat.div_eq_of_lt (by omega)
    have h2 : m % 2 ^ (m.log2 + 2) = m := Nat.mod_eq_of_lt (by omega)
    have h1' : m / 2 ^ K = 0 := Nat.div_eq_of_lt (by omega)
    have h2' : m % 2 ^ K = m := Nat.mod_eq_of_lt (by omega)
    have h3 : decide (2 ^ (m.log2 + 2) < 2 * m) = false := decide_eq_false (by omega)
    have h4 : (2 ^ (m.log2 + 2) == 2 * m) = false := beq_eq_false_iff_ne.2 (by omega)
    rw [h1, h2, h1', h2', h3, h4, if_neg (by omega)]
    rfl
  · rw [Nat.min_eq_left hd]
    congr 1
    by_cases h1 : 2 ^ K < 2 * (m % 2 ^ K)
    · rw [if_pos (.inl h1), decide_eq_true h1]; rfl
    · rw [decide_eq_false h1]
      by_cases h2 : 2 ^ K = 2 * (m % 2 ^ K) ∧ m / 2 ^ K % 2 = 1
      · have e1 : (2 ^ K == 2 * (m % 2 ^ K)) = true := by simpa using h2.1
        have e2 : (m / 2 ^ K % 2 == 1) = true := by simpa using h2.2
        rw [if_pos (.inr h2), e1, e2]; rfl
      · rw [if_neg (fun k => k.elim h1 h2)]
        have e3 : ((2 ^ K == 2 * (m % 2 ^ K)) && (m / 2 ^ K % 2 == 1)) = false := by
          rw [Bool.and_eq_false_iff]
          rcases Decidable.em (2 ^ K = 2 * (m % 2 ^ K)) with a | a
          · right; exact beq_eq_false_iff_ne.2 (fun b => h2 ⟨a, b⟩)
          · left; exact beq_eq_false_iff_ne.2 a
        rw [Bool.false_or, e3]; rfl

theorem rrounded_up (w : World) (v : Value) (m K : Nat) (k : Int) (hk : k = -(K : Int)) (hK : K ≤ 3000) (h : N w v m) (hm : Lt 400 m) (hb : m * 2 ^ K < 4611686018427387904) :
    Calls Try.prog 50 #[v, .int .i64 k] w (RetE w (.int .i64 ((m * 2 ^ K : Nat) : Int))) := by
  have hlt : Lt 400 (m * 2 ^ K) := lt_natof _ (by omega)
  have hk0 : k ≤ 0 := by omega
  have hkb : -3000 ≤ k := by omega
  have HS := Lib.hid (fun (j : Int) (hj : j = (K : Int)) => rshl_all w v m j K hj (by omega) h hm)
  have HK := Lib.hid hk
  clear h hm hk
  generalize m * 2 ^ K = M at *
  go_enter Try.func50, Try.ntmps50
  go_wp2_with fail
  refine (HS.out _ (by have := HK.out; omega)).mono ?_
  rintro _ w1 ⟨v1, rfl, n1, e1⟩
  go_wp2_with fail
  refine (rint_yes _ _ M n1 hlt hb).mono ?_
  rintro _ _ ⟨rfl, rfl⟩
  go_wp2
  go_ret
  exact ⟨rfl, e1⟩


set_option maxHeartbeats 1000000 in
theorem rrounded_gt (w : World) (v : Value) (m K q : Nat) (t : Int) (hK0 : 0 < K) (hK : K ≤ 8000) (h : N w v m) (hm : Lt 400 m) (hq : m / 2 ^ K = q) (hqb : q < 4611686018427387903) (ht : cmpI ((m % 2 ^ K * 2 : Nat) : Int) ((2 ^ K : Nat) : Int) = t) (h0 : 0 < t) :
    Calls Try.prog 50 #[v, .int .i64 K] w (RetE w (.int .i64 ((q : Int) + 1))) := by
  have hsub : m - q * 2 ^ K = m % 2 ^ K := by rw [← hq]; have := Nat.div_add_mod m (2 ^ K); rw [Nat.mul_comm] at this; omega
  have hle : q * 2 ^ K ≤ m := by rw [← hq]; exact Nat.div_mul_le_self m (2 ^ K)
  have lq : Lt 400 q := lt_natof _ (by omega)
  have lr : Lt 400 (m % 2 ^ K) := hm.of_le (Nat.mod_le _ _)
  have HR := Lib.hid (rshr_nat w v m K hK0 (by omega) h hm)
  rw [hq] at HR
  have HC : Hid (∀ (w' : World) (a b : Value), N w' a (m % 2 ^ K * 2) → N w' b (2 ^ K) → Calls Try.prog 44 #[a, b] w' (RetQ w' (.int .i64 t))) := Lib.hid (fun w' a b ha hb => ht ▸ rcmp_nat w' a b _ _ ha hb)
  have hK1 : ¬ ((K : Int) ≤ 0) := by omega
  clear hq ht
  skip
  go_enter Try.func50, Try.ntmps50
  go_wp2_with fail
  refine HR.out.mono ?_
  rintro _ w1 ⟨v1, rfl, n1, e1⟩
  go_wp2_with fail
  refine (rint_yes _ _ q n1 lq (by omega)).mono ?_
  rintro _ _ ⟨rfl, rfl⟩
  go_wp2_with fail
  refine (rshl_all _ _ q _ K rfl (by omega) n1 lq).mono ?_
  rintro _ w2 ⟨v2, rfl, n2, e2⟩
  go_wp2_with fail
  refine (rsub_yes _ _ _ m (q * 2 ^ K) (h.ext (e1.trans e2)) n2 hm hle).mono ?_
  rintro _ w3 ⟨v3, rfl, n3, e3⟩
  rw [hsub] at n3
  go_wp2_with fail
  refine (rshl_all _ _ (m % 2 ^ K) 1 1 rfl (by omega) n3 lr).mono ?_
  rintro _ w4 ⟨v4, rfl, n4, e4⟩
  rw [Nat.pow_one] at n4
  go_wp2_with fail
  refine (rshl_one w4 _ K (by omega)).mono ?_
  rintro _ w5 ⟨v5, rfl, n5, f5⟩
  have e5 : Ext w4 w5 := ((Ext.refl w4).alloc _).trans f5
  go_wp2_with fail
  refine (HC.out _ _ _ (n4.ext e5) n5).mono ?_
  rintro _ w6 ⟨rfl, q6⟩
  go_wp2
  go_ret
  exact ⟨rfl, ((((e1.trans e2).trans e3).trans e4).trans e5).trans q6.ext⟩


set_option maxHeartbeats 1000000 in
theorem rrounded_odd (w : World) (v : Value) (m K q : Nat) (t : Int) (hK0 : 0 < K) (hK : K ≤ 8000) (h : N w v m) (hm : Lt 400 m) (hq : m / 2 ^ K = q) (hqb : q < 4611686018427387903) (ht : cmpI ((m % 2 ^ K * 2 : Nat) : Int) ((2 ^ K : Nat) : Int) = t) (h0 : t = 0) (hp : q % 2 = 1) :
    Calls Try.prog 50 #[v, .int .i64 K] w (RetE w (.int .i64 ((q : Int) + 1))) := by
  have hsub : m - q * 2 ^ K = m % 2 ^ K := by rw [← hq]; have := Nat.div_add_mod m (2 ^ K); rw [Nat.mul_comm] at this; omega
  have hle : q * 2 ^ K ≤ m := by rw [← hq]; exact Nat.div_mul_le_self m (2 ^ K)
  have lq : Lt 400 q := lt_natof _ (by omega)
  have lr : Lt 400 (m % 2 ^ K) := hm.of_le (Nat.mod_le _ _)
  have HR := Lib.hid (rshr_nat w v m K hK0 (by omega) h hm)
  rw [hq] at HR
  have HC : Hid (∀ (w' : World) (a b : Value), N w' a (m % 2 ^ K * 2) → N w' b (2 ^ K) → Calls Try.prog 44 #[a, b] w' (RetQ w' (.int .i64 t))) := Lib.hid (fun w' a b ha hb => ht ▸ rcmp_nat w' a b _ _ ha hb)
  have hK1 : ¬ ((K : Int) ≤ 0) := by omega
  clear hq ht
  have hp2 : (q : Int) % 2 = 1 := by omega
  subst h0
  go_enter Try.func50, Try.ntmps50
  go_wp2_with fail
  refine HR.out.mono ?_
  rintro _ w1 ⟨v1, rfl, n1, e1⟩
  go_wp2_with fail
  refine (rint_yes _ _ q n1 lq (by omega)).mono ?_
  rintro _ _ ⟨rfl, rfl⟩
  go_wp2_with fail
  refine (rshl_all _ _ q _ K rfl (by omega) n1 lq).mono ?_
  rintro _ w2 ⟨v2, rfl, n2, e2⟩
  go_wp2_with fail
  refine (rsub_yes _ _ _ m (q * 2 ^ K) (h.ext (e1.trans e2)) n2 hm hle).mono ?_
  rintro _ w3 ⟨v3, rfl, n3, e3⟩
  rw [hsub] at n3
  go_wp2_with fail
  refine (rshl_all _ _ (m % 2 ^ K) 1 1 rfl (by omega) n3 lr).mono ?_
  rintro _ w4 ⟨v4, rfl, n4, e4⟩
  rw [Nat.pow_one] at n4
  go_wp2_with fail
  refine (rshl_one w4 _ K (by omega)).mono ?_
  rintro _ w5 ⟨v5, rfl, n5, f5⟩
  have e5 : Ext w4 w5 := ((Ext.refl w4).alloc _).trans f5
  go_wp2_with fail
  refine (HC.out _ _ _ (n4.ext e5) n5).mono ?_
  rintro _ w6 ⟨rfl, q6⟩
  go_wp2
  go_ret
  exact ⟨rfl, ((((e1.trans e2).trans e3).trans e4).trans e5).trans q6.ext⟩


set_option maxHeartbeats 1000000 in
theorem rrounded_even (w : World) (v : Value) (m K q : Nat) (t : Int) (hK0 : 0 < K) (hK : K ≤ 8000) (h : N w v m) (hm : Lt 400 m) (hq : m / 2 ^ K = q) (hqb : q < 4611686018427387903) (ht : cmpI ((m % 2 ^ K * 2 : Nat) : Int) ((2 ^ K : Nat) : Int) = t) (h0 : t = 0) (hp : q % 2 = 0) :
    Calls Try.prog 50 #[v, .int .i64 K] w (RetE w (.int .i64 (q : Int))) := by
  have hsub : m - q * 2 ^ K = m % 2 ^ K := by rw [← hq]; have := Nat.div_add_mod m (2 ^ K); rw [Nat.mul_comm] at this; omega
  have hle : q * 2 ^ K ≤ m := by rw [← hq]; exact Nat.div_mul_le_self m (2 ^ K)
  have lq : Lt 400 q := lt_natof _ (by omega)
  have lr : Lt 400 (m % 2 ^ K) := hm.of_le (Nat.mod_le _ _)
  have HR := Lib.hid (rshr_nat w v m K hK0 (by omega) h hm)
  rw [hq] at HR
  have HC : Hid (∀ (w' : World) (a b : Value), N w' a (m % 2 ^ K * 2) → N w' b (2 ^ K) → Calls Try.prog 44 #[a, b] w' (RetQ w' (.int .i64 t))) := Lib.hid (fun w' a b ha hb => ht ▸ rcmp_nat w' a b _ _ ha hb)
  have hK1 : ¬ ((K : Int) ≤ 0) := by omega
  clear hq ht
  have hp2 : (q : Int) % 2 = 0 := by omega
  subst h0
  go_enter Try.func50, Try.ntmps50
  go_wp2_with fail
  refine HR.out.mono ?_
  rintro _ w1 ⟨v1, rfl, n1, e1⟩
  go_wp2_with fail
  refine (rint_yes _ _ q n1 lq (by omega)).mono ?_
  rintro _ _ ⟨rfl, rfl⟩
  go_wp2_with fail
  refine (rshl_all _ _ q _ K rfl (by omega) n1 lq).mono ?_
  rintro _ w2 ⟨v2, rfl, n2, e2⟩
  go_wp2_with fail
  refine (rsub_yes _ _ _ m (q * 2 ^ K) (h.ext (e1.trans e2)) n2 hm hle).mono ?_
  rintro _ w3 ⟨v3, rfl, n3, e3⟩
  rw [hsub] at n3
  go_wp2_with fail
  refine (rshl_all _ _ (m % 2 ^ K) 1 1 rfl (by omega) n3 lr).mono ?_
  rintro _ w4 ⟨v4, rfl, n4, e4⟩
  rw [Nat.pow_one] at n4
  go_wp2_with fail
  refine (rshl_one w4 _ K (by omega)).mono ?_
  rintro _ w5 ⟨v5, rfl, n5, f5⟩
  have e5 : Ext w4 w5 := ((Ext.refl w4).alloc _).trans f5
  go_wp2_with fail
  refine (HC.out _ _ _ (n4.ext e5) n5).mono ?_
  rintro _ w6 ⟨rfl, q6⟩
  go_wp2
  go_ret
  exact ⟨rfl, ((((e1.trans e2).trans e3).trans e4).trans e5).trans q6.ext⟩


set_option maxHeartbeats 1000000 in
theorem rrounded_lt (w : World) (v : Value) (m K q : Nat) (t : Int) (hK0 : 0 < K) (hK : K ≤ 8000) (h : N w v m) (hm : Lt 400 m) (hq : m / 2 ^ K = q) (hqb : q < 4611686018427387903) (ht : cmpI ((m % 2 ^ K * 2 : Nat) : Int) ((2 ^ K : Nat) : Int) = t) (h0 : t < 0) :
    Calls Try.prog 50 #[v, .int .i64 K] w (RetE w (.int .i64 (q : Int))) := by
  have hsub : m - q * 2 ^ K = m % 2 ^ K := by rw [← hq]; have := Nat.div_add_mod m (2 ^ K); rw [Nat.mul_comm] at this; omega
  have hle : q * 2 ^ K ≤ m := by rw [← hq]; exact Nat.div_mul_le_self m (2 ^ K)
  have lq : Lt 400 q := lt_natof _ (by omega)
  have lr : Lt 400 (m % 2 ^ K) := hm.of_le (Nat.mod_le _ _)
  have HR := Lib.hid (rshr_nat w v m K hK0 (by omega) h hm)
  rw [hq] at HR
  have HC : Hid (∀ (w' : World) (a b : Value), N w' a (m % 2 ^ K * 2) → N w' b (2 ^ K) → Calls Try.prog 44 #[a, b] w' (RetQ w' (.int .i64 t))) := Lib.hid (fun w' a b ha hb => ht ▸ rcmp_nat w' a b _ _ ha hb)
  have hK1 : ¬ ((K : Int) ≤ 0) := by omega
  clear hq ht
  have h00 : (t == 0) = false := beq_eq_false_iff_ne.2 (by omega)
  go_enter Try.func50, Try.ntmps50
  go_wp2_with fail
  refine HR.out.mono ?_
  rintro _ w1 ⟨v1, rfl, n1, e1⟩
  go_wp2_with fail
  refine (rint_yes _ _ q n1 lq (by omega)).mono ?_
  rintro _ _ ⟨rfl, rfl⟩
  go_wp2_with fail
  refine (rshl_all _ _ q _ K rfl (by omega) n1 lq).mono ?_
  rintro _ w2 ⟨v2, rfl, n2, e2⟩
  go_wp2_with fail
  refine (rsub_yes _ _ _ m (q * 2 ^ K) (h.ext (e1.trans e2)) n2 hm hle).mono ?_
  rintro _ w3 ⟨v3, rfl, n3, e3⟩
  rw [hsub] at n3
  go_wp2_with fail
  refine (rshl_all _ _ (m % 2 ^ K) 1 1 rfl (by omega) n3 lr).mono ?_
  rintro _ w4 ⟨v4, rfl, n4, e4⟩
  rw [Nat.pow_one] at n4
  go_wp2_with fail
  refine (rshl_one w4 _ K (by omega)).mono ?_
  rintro _ w5 ⟨v5, rfl, n5, f5⟩
  have e5 : Ext w4 w5 := ((Ext.refl w4).alloc _).trans f5
  go_wp2_with fail
  refine (HC.out _ _ _ (n4.ext e5) n5).mono ?_
  rintro _ w6 ⟨rfl, q6⟩
  go_wp2
  go_ret
  exact ⟨rfl, ((((e1.trans e2).trans e3).trans e4).trans e5).trans q6.ext⟩


theorem rrounded_any (w : World) (v : Value) (m K : Nat) (hK0 : 0 < K) (hK : K ≤ 8000) (h : N w v m) (hm : Lt 400 m) (hqb : m / 2 ^ K < 4611686018427387903) :
    Calls Try.prog 50 #[v, .int .i64 K] w (RetE w (.int .i64 (rne m K))) := by
  unfold rne
  rcases Int.lt_trichotomy (((m % 2 ^ K * 2 : Nat) : Int)) ((2 ^ K : Nat) : Int) with c | c | c
  · have k : m % 2 ^ K * 2 < 2 ^ K := by exact_mod_cast c
    rw [if_neg (by omega)]
    exact rrounded_lt w v m K _ (-1) hK0 hK h hm rfl hqb (cmpI_lt c) (by omega)
  · have k : m % 2 ^ K * 2 = 2 ^ K := by exact_mod_cast c
    rcases Nat.mod_two_eq_zero_or_one (m / 2 ^ K) with p | p
    · rw [if_neg (by omega)]
      exact rrounded_even w v m K _ 0 hK0 hK h hm rfl hqb (cmpI_eq c) rfl p
    · rw [if_pos (.inr ⟨by omega, p⟩)]
      exact rrounded_odd w v m K _ 0 hK0 hK h hm rfl hqb (cmpI_eq c) rfl p
  · have k : 2 ^ K < m % 2 ^ K * 2 := by exact_mod_cast c
    rw [if_pos (.inl (by omega))]
    exact rrounded_gt w v m K _ 1 hK0 hK h hm rfl hqb (cmpI_gt c) (by omega)

end Go.Proofs.Ytfghcfeldpcgcaa

/- The walk of the document's Near. -/
namespace Go.Proofs.Ytfghcfeldpcgcaa
open Go.RowKit
set_option linter.unusedVariables false

theorem xor_top {b : Nat} (h : b < 9223372036854775808) : b ^^^ 9223372036854775808 = 9223372036854775808 + b := by
  have h1 := Nat.two_pow_add_eq_or_of_lt (i := 63) (b := b) h 1
  have e1 : 2 ^ 63 * 1 = 9223372036854775808 := by decide
  rw [e1] at h1
  rw [h1]
  apply Nat.eq_of_testBit_eq
  intro i
  rw [Nat.testBit_xor, Nat.testBit_or]
  have e2 : (9223372036854775808 : Nat) = 2 ^ 63 := by decide
  rw [e2, Nat.testBit_two_pow]
  by_cases hi : 63 = i
  · subst hi
    have : b.testBit 63 = false := Nat.testBit_lt_two_pow h
    simp [this]
  · simp [hi]
/-- The opposite of a double that is not below 0. -/
theorem opp_rn {x : Dyadic} {b : Nat} (h : Rn x b) (hn : fneg b = false) (h0 : 0 ≤ x) : Rn (-x) (9223372036854775808 + b) := by
  have hlt := h.nr.lt63
  have hw := word_of h.lt
  rw [hn, word_eq] at hw
  simp only [Bool.false_eq_true, if_false] at hw
  have hw2 : 9223372036854775808 + b = Ieee.double.word true (frung b) := by rw [word_eq, hw]; rfl
  rw [hw2]
  refine ⟨word_lt64 true hlt, by rw [frung_word true hlt, absD_neg]; exact h.nr, fun _ _ => fneg_word true hlt, fun k => by grind⟩
theorem neg_word (b : Nat) (h : b < 9223372036854775808) : Op.negFloat .f64 b = 9223372036854775808 + b := xor_top h
theorem zero_rn {x : Dyadic} (h1 : absD x < mid 0) : Rn x 0 := by
  have hr : frung 0 = 0 := by decide
  refine ⟨by omega, ?_, fun _ k => absurd hr k, fun _ k => absurd hr k⟩
  rw [hr]
  exact ⟨by omega, fun _ => .inl h1, fun q hq => by omega⟩
theorem mid_zero : mid 0 = dy 1 (-1075) := by unfold mid; rw [rV_small (by omega), rU_small (by omega)]; rfl
theorem kept_bounds (neg : Bool) {mag c L : Nat} {place last : Int} (h0 : mag ≠ 0) (hlast : max (place + (mag.log2 : Nat) - 52) (-1074) = last) (hL : last = -1074 + (L : Int)) (hc : Ieee.Toward.even.cut neg (mag <<< (place - last).toNat) (last - place).toNat = c) :
    (L = 0 ∨ 4503599627370496 ≤ c) ∧ c ≤ 2 * 4503599627370496 := by
  obtain ⟨c', hc', hu, hd⟩ := cut_spec neg (mag <<< (place - last).toNat) (last - place).toNat
  obtain rfl : c' = c := hc'.symm.trans hc
  have hlg1 : 2 ^ mag.log2 ≤ mag := Nat.log2_self_le h0
  have hlg2 : mag < 2 ^ (mag.log2 + 1) := (Nat.log2_lt h0).1 (Nat.lt_succ_self _)
  clear hc hc'
  rcases Int.lt_or_le place last with hp | hp
  · obtain ⟨dr, hdr⟩ : ∃ dr : Nat, last = place + (dr : Int) ∧ 1 ≤ dr := ⟨(last - place).toNat, by omega⟩
    have e1 : (place - last).toNat = 0 := by omega
    have e2 : (last - place).toNat = dr := by omega
    rw [e1, Nat.shiftLeft_zero, e2] at hu hd
    have hP := Nat.two_pow_pos dr
    have hhi : mag < 9007199254740992 * 2 ^ dr := by
      have h1 := Nat.pow_le_pow_right (show 0 < 2 by omega) (show mag.log2 + 1 ≤ 53 + dr by omega)
      have h2 : 2 ^ (53 + dr) = 9007199254740992 * 2 ^ dr := by rw [Nat.pow_add]
      omega
    have hlo : L ≠ 0 → 4503599627370496 * 2 ^ dr ≤ mag := fun hL0 => by
      have h1 : mag.log2 = 52 + dr := by omega
      rw [h1, Nat.pow_add] at hlg1
      omega
    constructor
    · by_cases hL0 : L = 0
      · exact .inl hL0
      · right
        have h1 := hlo hL0
        rcases Nat.lt_or_ge c' 4503599627370496 with h | h
        · exfalso
          have h2 : (2 * c' + 1) * 2 ^ dr ≤ (2 * 4503599627370495 + 1) * 2 ^ dr := Nat.mul_le_mul_right _ (by omega)
          omega
        · exact h
    · rcases Nat.lt_or_ge (2 * 4503599627370496) c' with h | h
      · exfalso
        obtain ⟨b, rfl⟩ : ∃ b, c' = b + 1 := ⟨c' - 1, by omega⟩
        have h1 := hd b rfl
        have h2 : (2 * 9007199254740992 + 1) * 2 ^ dr ≤ (2 * b + 1) * 2 ^ dr := Nat.mul_le_mul_right _ (by omega)
        omega
      · exact h
  · obtain ⟨t, ht⟩ : ∃ t : Nat, place = last + (t : Int) := ⟨(place - last).toNat, by omega⟩
    have e1 : (place - last).toNat = t := by omega
    have e2 : (last - place).toNat = 0 := by omega
    rw [e1, Nat.shiftLeft_eq, e2, Nat.pow_zero] at hu hd
    have hcn : c' = mag * 2 ^ t := by
      have h1 : mag * 2 ^ t ≤ c' := by omega
      by_cases hc0 : c' = 0
      · omega
      · have := hd (c' - 1) (by omega)
        omega
    have hhi : mag * 2 ^ t < 9007199254740992 := by
      have h1 : mag * 2 ^ t < 2 ^ (mag.log2 + 1) * 2 ^ t := Nat.mul_lt_mul_of_pos_right hlg2 (Nat.two_pow_pos t)
      rw [← Nat.pow_add] at h1
      have h2 := Nat.pow_le_pow_right (show 0 < 2 by omega) (show mag.log2 + 1 + t ≤ 53 by omega)
      have h3 : 2 ^ 53 = 9007199254740992 := by decide
      omega
    have hlo : L ≠ 0 → 4503599627370496 ≤ mag * 2 ^ t := fun hL0 => by
      have h1 : 2 ^ mag.log2 * 2 ^ t ≤ mag * 2 ^ t := Nat.mul_le_mul_right _ hlg1
      rw [← Nat.pow_add, show mag.log2 + t = 52 by omega] at h1
      have h3 : 2 ^ 52 = 4503599627370496 := by decide
      omega
    rw [hcn]
    exact ⟨(Decidable.em (L = 0)).elim .inl (fun hL0 => .inr (hlo hL0)), by omega⟩
/-- What is rounded to the places that a double has, and is then near, is near. -/
theorem near_through {m b : Nat} {e q : Int} (hm : m ≠ 0) (hq : q = max (e + (m.log2 : Nat) - 52) (-1074)) (h : Rn (dy ((Ieee.Toward.even.cut false (m <<< (e - q).toNat) (q - e).toNat : Nat) : Int) q) b) (hn : fneg b = false) : Rn (dy (m : Int) e) b := by
  obtain ⟨r, hr, hN⟩ := nearest_spec false m e
  have hx : absD (dy (m : Int) e) = dy (m : Int) e := by rw [absD_dy]; rfl
  have hfr : frung b = r := by
    have h1 : Ieee.double.nearest false m e = Ieee.double.word false (min ((q + 1074).toNat * 4503599627370496 + Ieee.Toward.even.cut false (m <<< (e - q).toNat) (q - e).toNat) 9218868437227405312) := by
      unfold Ieee.Format.nearest
      rw [if_neg hm, d_fb, d_lp, d_bn, d_in]
      dsimp only
      have e1 : max (e + (m.log2 : Nat) - ((52 : Nat) : Int)) (-1074) = q := hq.symm
      rw [e1, show q - -1074 = q + 1074 by omega]
    obtain ⟨c, hc⟩ : ∃ c, Ieee.Toward.even.cut false (m <<< (e - q).toNat) (q - e).toNat = c := ⟨_, rfl⟩
    rw [hc] at h h1
    rw [hr] at h1
    have h2 : r = min ((q + 1074).toNat * 4503599627370496 + c) 9218868437227405312 := by
      have := congrArg frung h1
      rwa [frung_word false hN.lt63, frung_word false (by omega)] at this
    obtain ⟨L, hL⟩ : ∃ L : Nat, q = -1074 + (L : Int) := ⟨(q + 1074).toNat, by omega⟩
    have eL : (q + 1074).toNat = L := by omega
    obtain ⟨k1, k2⟩ := kept_bounds false hm hq.symm hL hc
    have hv : dy (c : Int) q = rval (L * 4503599627370496 + c) := by
      unfold rval
      rw [rV_kept k1 k2, hL]
      have h3 := dy_up (c : Int) (-1074) L
      rw [← h3, Int.natCast_mul, Int.natCast_pow]
      rfl
    have ha : absD (dy (c : Int) q) = rval (L * 4503599627370496 + c) := by rw [absD_of (by rw [hv]; exact rval_nonneg _), hv]
    have hnr := h.nr
    rw [ha] at hnr
    rw [hnr.uniq (Nr0.cap (Nr0.rval _)), h2, eL]
  have hpos : 0 < dy (m : Int) e := by rw [← dy_zero e]; exact dy_lt.2 (by omega)
  refine ⟨h.lt, by rw [hx, hfr]; exact hN, fun k => by grind, fun _ _ => hn⟩

end Go.Proofs.Ytfghcfeldpcgcaa

/- The walk of the document's Near. -/
namespace Go.Proofs.Ytfghcfeldpcgcaa
open Go.RowKit
set_option linter.unusedVariables false

theorem ldexp_zero (w : World) (q : Int) : Calls Try.prog 56 #[.float .f64 0, .int .i64 q] w fun x w' => x = .returned (.float .f64 0) ∧ w = w' := by
  have hf : FloatKind.f64.format = Ieee.double := rfl
  have h1 : (Ieee.double.order 0 0 == some .eq) = true := by decide
  go_enter Try.func56, Try.ntmps56
  go_wp2
  go_ret
  exact ⟨rfl, rfl⟩
theorem ldexp_all (w : World) (n : Nat) (q : Int) (h2 : n ≤ 9007199254740992) (hq : -1074 ≤ q ∧ q ≤ 971) :
    Calls Try.prog 56 #[.float .f64 (Ieee.double.nearest false n 0), .int .i64 q] w (RetF w (dy (n : Int) q)) := by
  by_cases h0 : n = 0
  · subst h0
    have hz : Ieee.double.nearest false 0 0 = 0 := by decide
    rw [hz]
    refine (ldexp_zero w q).mono ?_
    rintro _ _ ⟨rfl, rfl⟩
    refine ⟨0, rfl, zero_rn ?_, by decide, rfl⟩
    rw [show dy ((0 : Nat) : Int) q = 0 from dy_zero q, mid_zero]
    decide +kernel
  · exact ldexp_any w n q (by omega) h2 hq
theorem Ldexp_all (w : World) (n : Nat) (q : Int) (h2 : n ≤ 9007199254740992) (hq : -1074 ≤ q ∧ q ≤ 971) :
    Calls Try.prog 41 #[.float .f64 (Ieee.double.nearest false n 0), .int .i64 q] w (RetF w (dy (n : Int) q)) := by
  have HL := Lib.hid (ldexp_all w n q h2 hq)
  generalize Ieee.double.nearest false n 0 = c at *
  go_enter Try.func41, Try.ntmps41
  go_wp2_with fail
  refine HL.out.mono ?_
  rintro _ _ ⟨b, rfl, h, hn, rfl⟩
  go_wp2
  go_ret
  exact ⟨b, rfl, h, hn, rfl⟩
theorem conv_int (n : Nat) : floatOfInt .f64 (n : Int) = Ieee.double.nearest false n 0 := by
  show Ieee.double.write (.number (decide ((n : Int) < 0)) (n : Int).natAbs 0) = _
  rw [decide_eq_false (by omega), Int.natAbs_natCast]; rfl
/-- It returned a double that is nearest to d. -/
def RetFE (w : World) (d : Dyadic) (e : Ending) (w' : World) : Prop := ∃ b, e = .returned (.float .f64 b) ∧ Rn d b ∧ Ext w w'

set_option maxHeartbeats 1000000 in
/-- The walk of Near, its callees' answers handed in. -/
theorem rnear_main (w : World) (A : Option Addr) (l c p C Bl : Nat) (nb : Bool) (e top q : Int) (x y : Dyadic) (hN : N w (.slice A l c) p) (hl : ((l : Int) == 0) = false)
    (hlen : ∀ w' v, N w' v p → Calls Try.prog 49 #[v] w' fun a w'' => a = .returned (.int .i64 (Bl : Int)) ∧ w' = w'')
    (hBl : Bl ≤ 10000) (he : -10000 ≤ e ∧ e ≤ 10000) (htop : e + (Bl : Int) - 1 = top)
    (hrnd : ∀ w' v (j : Int), j = q - e → N w' v p → Calls Try.prog 50 #[v, .int .i64 j] w' (RetE w' (.int .i64 (C : Int)))) (hC : C ≤ 9007199254740992)
    (hlo : -1080 ≤ top) (hhi : top ≤ 1023) (hq : max (top - 52) (-1074) = q) (hy : 0 ≤ y) (hx : x = if nb then -y else y) (hthrough : ∀ b, Rn (dy (C : Int) q) b → fneg b = false → Rn y b) :
    Calls Try.prog 33 #[.agg #[.bool nb, .slice A l c, .int .i64 e]] w (RetFE w x) := by
  have hqb : -1074 ≤ q ∧ q ≤ 971 := by omega
  have HL := Lib.hid hlen
  have HR := Lib.hid hrnd
  have HT := Lib.hid hthrough
  have HD : Hid (∀ w' : World, Calls Try.prog 41 #[.float .f64 (Ieee.double.nearest false C 0), .int .i64 q] w' (RetF w' (dy (C : Int) q))) := Lib.hid (fun w' => Ldexp_all w' C q hC hqb)
  have hconv := conv_int C
  have HQ := Lib.hid hq
  clear hlen hrnd hthrough hC
  generalize Ieee.double.nearest false C 0 = W at *
  go_enter Try.func33, Try.ntmps33
  go_wp2
  generalize hW0 : (w.alloc (.cells #[.bool nb, .slice A l c, .int .i64 e] 31)) = W0
  have B1 : Box W0 w.heap.size (.bool nb) (.slice A l c) (.int .i64 e) := by rw [← hW0]; exact Box.at (Ext.refl _) rfl
  have E0 : Ext w W0 := by rw [← hW0]; exact (Ext.refl w).alloc _
  clear hW0
  replace hN := hN.ext E0
  obtain ⟨a0, a1, a2⟩ := id B1
  have hw1 : IntKind.i64.wrap (e + (Bl : Int)) = e + (Bl : Int) := IntWalk.i64_in _ (by omega)
  have hw2 : IntKind.i64.wrap (e + (Bl : Int) - 1) = top := by rw [IntWalk.i64_in _ (by omega)]; exact htop
  clear htop
  go_region_held3 (fun w' => w'.cell? ⟨w.heap.size, 0, none⟩ = some (.bool nb) ∧ w'.cell? ⟨w.heap.size, 1, none⟩ = some (.slice A l c) ∧ w'.cell? ⟨w.heap.size, 2, none⟩ = some (.int .i64 e)) (first | (with_reducible exact ⟨(B1.ext (Ext.refl _).drew).c0, (B1.ext (Ext.refl _).drew).c1, (B1.ext (Ext.refl _).drew).c2⟩) | go_keep) (first | ((go_at_call 49); (refine (HL.out _ _ (hN.ext (Ext.refl _).drew)).mono ?_); (rintro _ _ ⟨rfl, rfl⟩)))
  clear hw1 hw2
  replace B1 := B1.ext (Ext.refl W0).drew
  replace E0 := E0.drew
  replace hN := hN.ext (Ext.refl W0).drew
  clear a0 a1 a2
  generalize W0.drew = W1 at *
  obtain ⟨a0, a1, a2⟩ := id B1
  have HX := Lib.hid hx
  clear hx hq
  rcases Int.lt_trichotomy (-1074) (top - 52) with hh | hh | hh
  · obtain rfl : q = top - 52 := by have := HQ.out; omega
    have hmx : max (top - 52) (-1074) = top - 52 := by omega
    go_wp2_with fail
    refine (HR.out _ _ _ (by omega) hN).mono ?_
    rintro _ w2 ⟨rfl, e2⟩
    go_wp2_with fail
    refine (HD.out _).mono ?_
    rintro _ _ ⟨b, rfl, hb, hn, rfl⟩
    obtain ⟨d0, d1, d2⟩ := B1.ext e2
    have hby := HT.out b hb hn
    have hb63 : b < 9223372036854775808 := by
      have hw := word_of hby.lt
      rw [hn, word_eq] at hw
      have := hby.nr.lt63
      simp only [Bool.false_eq_true, if_false] at hw
      omega
    have hun : Op.unary .neg (.float .f64 b) = pure (.float .f64 (9223372036854775808 + b)) := by rw [← neg_word b hb63]; rfl
    have HO := Lib.hid (opp_rn hby hn hy)
    have HB := Lib.hid hby
    clear hby
    cases nb
    · go_wp2
      go_ret
      exact ⟨b, rfl, by rw [HX.out]; exact HB.out, E0.trans e2⟩
    · go_wp2
      go_ret
      exact ⟨_, rfl, by rw [HX.out]; exact HO.out, E0.trans e2⟩
  · obtain rfl : q = -1074 := by have := HQ.out; omega
    obtain rfl : top = -1022 := by omega
    go_wp2_with fail
    refine (HR.out _ _ _ (by omega) hN).mono ?_
    rintro _ w2 ⟨rfl, e2⟩
    go_wp2_with fail
    refine (HD.out _).mono ?_
    rintro _ _ ⟨b, rfl, hb, hn, rfl⟩
    obtain ⟨d0, d1, d2⟩ := B1.ext e2
    have hby := HT.out b hb hn
    have hb63 : b < 9223372036854775808 := by
      have hw := word_of hby.lt
      rw [hn, word_eq] at hw
      have := hby.nr.lt63
      simp only [Bool.false_eq_true, if_false] at hw
      omega
    have hun : Op.unary .neg (.float .f64 b) = pure (.float .f64 (9223372036854775808 + b)) := by rw [← neg_word b hb63]; rfl
    have HO := Lib.hid (opp_rn hby hn hy)
    have HB := Lib.hid hby
    clear hby
    cases nb
    · go_wp2
      go_ret
      exact ⟨b, rfl, by rw [HX.out]; exact HB.out, E0.trans e2⟩
    · go_wp2
      go_ret
      exact ⟨_, rfl, by rw [HX.out]; exact HO.out, E0.trans e2⟩
  · obtain rfl : q = -1074 := by have := HQ.out; omega
    have hmx : max (top - 52) (-1074) = -1074 := by omega
    go_wp2_with fail
    refine (HR.out _ _ _ (by omega) hN).mono ?_
    rintro _ w2 ⟨rfl, e2⟩
    go_wp2_with fail
    refine (HD.out _).mono ?_
    rintro _ _ ⟨b, rfl, hb, hn, rfl⟩
    obtain ⟨d0, d1, d2⟩ := B1.ext e2
    have hby := HT.out b hb hn
    have hb63 : b < 9223372036854775808 := by
      have hw := word_of hby.lt
      rw [hn, word_eq] at hw
      have := hby.nr.lt63
      simp only [Bool.false_eq_true, if_false] at hw
      omega
    have hun : Op.unary .neg (.float .f64 b) = pure (.float .f64 (9223372036854775808 + b)) := by rw [← neg_word b hb63]; rfl
    have HO := Lib.hid (opp_rn hby hn hy)
    have HB := Lib.hid hby
    clear hby
    cases nb
    · go_wp2
      go_ret
      exact ⟨b, rfl, by rw [HX.out]; exact HB.out, E0.trans e2⟩
    · go_wp2
      go_ret
      exact ⟨_, rfl, by rw [HX.out]; exact HO.out, E0.trans e2⟩

end Go.Proofs.Ytfghcfeldpcgcaa

/- The document's Near, whole. -/
namespace Go.Proofs.Ytfghcfeldpcgcaa
open Go.RowKit
set_option linter.unusedVariables false

set_option maxHeartbeats 1000000 in
theorem rnear_high (w : World) (A : Option Addr) (l c p Bl : Nat) (nb : Bool) (e top : Int) (x y : Dyadic) (hN : N w (.slice A l c) p) (hl : ((l : Int) == 0) = false)
    (hlen : ∀ w' v, N w' v p → Calls Try.prog 49 #[v] w' fun a w'' => a = .returned (.int .i64 (Bl : Int)) ∧ w' = w'')
    (hBl : Bl ≤ 10000) (he : -10000 ≤ e ∧ e ≤ 10000) (htop : e + (Bl : Int) - 1 = top) (hhi : 1023 < top) (hx : x = if nb then -y else y) (hy : Rn y 9218868437227405312) (hny : Rn (-y) 18442240474082181120) :
    Calls Try.prog 33 #[.agg #[.bool nb, .slice A l c, .int .i64 e]] w (RetFE w x) := by
  have HL := Lib.hid hlen
  have HX := Lib.hid (And.intro hx (And.intro hy hny))
  clear hlen hx hy hny
  go_enter Try.func33, Try.ntmps33
  go_wp2
  generalize hW0 : (w.alloc (.cells #[.bool nb, .slice A l c, .int .i64 e] 31)) = W0
  have B1 : Box W0 w.heap.size (.bool nb) (.slice A l c) (.int .i64 e) := by rw [← hW0]; exact Box.at (Ext.refl _) rfl
  have E0 : Ext w W0 := by rw [← hW0]; exact (Ext.refl w).alloc _
  clear hW0
  replace hN := hN.ext E0
  obtain ⟨a0, a1, a2⟩ := id B1
  have hw1 : IntKind.i64.wrap (e + (Bl : Int)) = e + (Bl : Int) := IntWalk.i64_in _ (by omega)
  have hw2 : IntKind.i64.wrap (e + (Bl : Int) - 1) = top := by rw [IntWalk.i64_in _ (by omega)]; exact htop
  clear htop
  go_region_held3 (fun w' => w'.cell? ⟨w.heap.size, 0, none⟩ = some (.bool nb) ∧ w'.cell? ⟨w.heap.size, 1, none⟩ = some (.slice A l c) ∧ w'.cell? ⟨w.heap.size, 2, none⟩ = some (.int .i64 e)) (first | (with_reducible exact ⟨(B1.ext (Ext.refl _).drew).c0, (B1.ext (Ext.refl _).drew).c1, (B1.ext (Ext.refl _).drew).c2⟩) | go_keep) (first | ((go_at_call 49); (refine (HL.out _ _ (hN.ext (Ext.refl _).drew)).mono ?_); (rintro _ _ ⟨rfl, rfl⟩)))
  clear hw1 hw2
  replace B1 := B1.ext (Ext.refl W0).drew
  replace E0 := E0.drew
  replace hN := hN.ext (Ext.refl W0).drew
  clear a0 a1 a2
  generalize W0.drew = W1 at *
  obtain ⟨a0, a1, a2⟩ := id B1
  cases nb
  · go_wp2_with fail
    refine (inf_any _).mono ?_
    rintro _ _ ⟨rfl, rfl⟩
    go_wp2
    go_ret
    exact ⟨_, rfl, by rw [HX.out.1]; exact HX.out.2.1, E0⟩
  · go_wp2_with fail
    refine (ninf_any _).mono ?_
    rintro _ _ ⟨rfl, rfl⟩
    go_wp2
    go_ret
    exact ⟨_, rfl, by rw [HX.out.1]; exact HX.out.2.2, E0⟩

set_option maxHeartbeats 1000000 in
theorem rnear_low (w : World) (A : Option Addr) (l c p Bl : Nat) (nb : Bool) (e top : Int) (x : Dyadic) (hN : N w (.slice A l c) p) (hl : ((l : Int) == 0) = false)
    (hlen : ∀ w' v, N w' v p → Calls Try.prog 49 #[v] w' fun a w'' => a = .returned (.int .i64 (Bl : Int)) ∧ w' = w'')
    (hBl : Bl ≤ 10000) (he : -10000 ≤ e ∧ e ≤ 10000) (htop : e + (Bl : Int) - 1 = top) (hlo : top < -1080) (hx : Rn x 0) :
    Calls Try.prog 33 #[.agg #[.bool nb, .slice A l c, .int .i64 e]] w (RetFE w x) := by
  have HL := Lib.hid hlen
  have HX := Lib.hid hx
  clear hlen hx
  go_enter Try.func33, Try.ntmps33
  go_wp2
  generalize hW0 : (w.alloc (.cells #[.bool nb, .slice A l c, .int .i64 e] 31)) = W0
  have B1 : Box W0 w.heap.size (.bool nb) (.slice A l c) (.int .i64 e) := by rw [← hW0]; exact Box.at (Ext.refl _) rfl
  have E0 : Ext w W0 := by rw [← hW0]; exact (Ext.refl w).alloc _
  clear hW0
  replace hN := hN.ext E0
  obtain ⟨a0, a1, a2⟩ := id B1
  have hw1 : IntKind.i64.wrap (e + (Bl : Int)) = e + (Bl : Int) := IntWalk.i64_in _ (by omega)
  have hw2 : IntKind.i64.wrap (e + (Bl : Int) - 1) = top := by rw [IntWalk.i64_in _ (by omega)]; exact htop
  clear htop
  go_region_held3 (fun w' => w'.cell? ⟨w.heap.size, 0, none⟩ = some (.bool nb) ∧ w'.cell? ⟨w.heap.size, 1, none⟩ = some (.slice A l c) ∧ w'.cell? ⟨w.heap.size, 2, none⟩ = some (.int .i64 e)) (first | (with_reducible exact ⟨(B1.ext (Ext.refl _).drew).c0, (B1.ext (Ext.refl _).drew).c1, (B1.ext (Ext.refl _).drew).c2⟩) | go_keep) (first | ((go_at_call 49); (refine (HL.out _ _ (hN.ext (Ext.refl _).drew)).mono ?_); (rintro _ _ ⟨rfl, rfl⟩)))
  clear hw1 hw2
  replace B1 := B1.ext (Ext.refl W0).drew
  replace E0 := E0.drew
  replace hN := hN.ext (Ext.refl W0).drew
  clear a0 a1 a2
  generalize W0.drew = W1 at *
  obtain ⟨a0, a1, a2⟩ := id B1
  go_wp2
  go_ret
  exact ⟨_, rfl, HX.out, E0⟩

theorem rne_zero (m : Nat) : rne m 0 = m := by
  unfold rne
  rw [Nat.pow_zero, Nat.div_one, Nat.mod_one, if_neg (by omega)]
  rfl
theorem bl_log {p : Nat} (h : p ≠ 0) : bl p = p.log2 + 1 := by unfold bl; rw [if_neg h]
/-- The float nearest to a number. -/
theorem rnear_any (w : World) (v : Value) (z e : Int) (h : Dn w v (dy z e)) (hc : Canon z e) (hL : Lt 200 z.natAbs) (he : -7000 ≤ e ∧ e ≤ 7000) : Calls Try.prog 33 #[v] w (RetFE w (dy z e)) := by
  obtain ⟨A, l, c, z', e', rfl, hN, hc', hd, hl, _⟩ := h.parts
  obtain ⟨rfl, rfl⟩ := hc.uniq hc' hd
  clear hd hc' h
  by_cases hz : z = 0
  · obtain rfl : l = 0 := hl.2 hz
    have hx : Rn (dy z e) 0 := by
      apply zero_rn
      rw [hz, dy_zero, mid_zero]
      decide +kernel
    have HX := Lib.hid hx
    clear hx hN hc
    generalize dy z e = x at *
    generalize decide (z < 0) = nb at *
    go_enter Try.func33, Try.ntmps33
    go_wp2
    go_ret
    exact ⟨_, rfl, HX.out, (Ext.refl w).alloc _⟩
  · have hl0 : ((l : Int) == 0) = false := beq_eq_false_iff_ne.2 (by have := mt hl.1 hz; omega)
    have hp : z.natAbs ≠ 0 := by omega
    have hb := bl_log hp
    have hbits := hL.bits
    have hlen : ∀ (w' : World) (v : Value), N w' v z.natAbs → Calls Try.prog 49 #[v] w' fun a w'' => a = .returned (.int .i64 ((bl z.natAbs : Nat) : Int)) ∧ w' = w'' := fun w' v hv => rlen_any w' v _ hv (hL.mono (by omega))
    have hval : dy z e = if decide (z < 0) then -(dy (z.natAbs : Int) e) else dy (z.natAbs : Int) e := by
      by_cases hn : z < 0
      · rw [decide_eq_true hn]; simp only [if_true]; rw [dy_neg]; congr 1; omega
      · rw [decide_eq_false hn]; simp only [Bool.false_eq_true, if_false]; congr 1; omega
    have hlg1 : 2 ^ z.natAbs.log2 ≤ z.natAbs := Nat.log2_self_le hp
    have hlg2 : z.natAbs < 2 ^ (z.natAbs.log2 + 1) := (Nat.log2_lt hp).1 (Nat.lt_succ_self _)
    have hy0 : 0 ≤ dy (z.natAbs : Int) e := by rw [← dy_zero e]; exact dy_le.2 (by omega)
    rcases Int.lt_or_le 1023 (e + (bl z.natAbs : Int) - 1) with hh | hh
    · have hbig : rval 9218868437227405312 ≤ dy (z.natAbs : Int) e := by
        have hi : rval 9218868437227405312 = dy 1 1024 := by decide +kernel
        have h1 : dy 1 (e + (z.natAbs.log2 : Int)) ≤ dy (z.natAbs : Int) e := by
          rw [← dy_up]
          apply dy_le.2
          have : ((2 ^ z.natAbs.log2 : Nat) : Int) ≤ z.natAbs := by exact_mod_cast hlg1
          push_cast at this
          omega
        have h2 : dy 1 1024 ≤ dy 1 (e + (z.natAbs.log2 : Int)) := by
          obtain ⟨t, ht⟩ : ∃ t : Nat, e + (z.natAbs.log2 : Int) = 1024 + (t : Int) := ⟨(e + (z.natAbs.log2 : Int) - 1024).toNat, by omega⟩
          rw [ht, ← dy_up]
          apply dy_le.2
          have := pow2_pos t
          omega
        rw [hi]
        grind
      have hpos := inf_rn hbig
      have hneg := opp_rn hpos (by decide) hy0
      exact rnear_high w A l c z.natAbs (bl z.natAbs) (decide (z < 0)) e _ (dy z e) (dy (z.natAbs : Int) e) hN hl0 hlen (by omega) (by omega) rfl hh hval hpos hneg
    · rcases Int.lt_or_le (e + (bl z.natAbs : Int) - 1) (-1080) with hw | hw
      · refine rnear_low w A l c z.natAbs (bl z.natAbs) (decide (z < 0)) e _ (dy z e) hN hl0 hlen (by omega) (by omega) rfl hw (zero_rn ?_)
        rw [absD_dy, mid_zero]
        have h1 : dy (z.natAbs : Int) e < dy 1 (e + ((z.natAbs.log2 + 1 : Nat) : Int)) := by
          rw [← dy_up]
          apply dy_lt.2
          have : (z.natAbs : Int) < ((2 ^ (z.natAbs.log2 + 1) : Nat) : Int) := by exact_mod_cast hlg2
          push_cast at this
          omega
        have h2 : dy 1 (e + ((z.natAbs.log2 + 1 : Nat) : Int)) ≤ dy 1 (-1075) := by
          obtain ⟨t, ht⟩ : ∃ t : Nat, (-1075 : Int) = e + ((z.natAbs.log2 + 1 : Nat) : Int) + (t : Int) := ⟨(-1075 - (e + ((z.natAbs.log2 + 1 : Nat) : Int))).toNat, by omega⟩
          rw [ht]
          generalize e + ((z.natAbs.log2 + 1 : Nat) : Int) = f
          rw [← dy_up 1 f t]
          apply dy_le.2
          have := pow2_pos t
          omega
        grind
      · obtain ⟨q, hq⟩ : ∃ q, max (e + (bl z.natAbs : Int) - 1 - 52) (-1074) = q := ⟨_, rfl⟩
        have hq2 : q = max (e + (z.natAbs.log2 : Nat) - 52) (-1074) := by omega
        obtain ⟨C, hC⟩ : ∃ C, Ieee.Toward.even.cut false (z.natAbs <<< (e - q).toNat) (q - e).toNat = C := ⟨_, rfl⟩
        obtain ⟨L, hLq⟩ : ∃ L : Nat, q = -1074 + (L : Int) := ⟨(q + 1074).toNat, by omega⟩
        obtain ⟨_, hC2⟩ := kept_bounds false hp hq2.symm hLq hC
        refine rnear_main w A l c z.natAbs C (bl z.natAbs) (decide (z < 0)) e _ q (dy z e) (dy (z.natAbs : Int) e) hN hl0 hlen (by omega) (by omega) rfl ?_ (by omega) hw hh hq hy0 hval (fun b hR hn => near_through hp hq2 (by rw [hC]; exact hR) hn)
        intro w' v j hj hv
        rcases Int.lt_or_le e q with hk | hk
        · obtain ⟨K, hK⟩ : ∃ K : Nat, q - e = (K : Int) := ⟨(q - e).toNat, by omega⟩
          have e1 : (e - q).toNat = 0 := by omega
          have e2 : (q - e).toNat = K := by omega
          rw [e1, Nat.shiftLeft_zero, e2, ← rne_cut] at hC
          rw [hj, hK, ← hC]
          refine rrounded_any w' v z.natAbs K (by omega) (by omega) hv (hL.mono (by omega)) ?_
          have : z.natAbs / 2 ^ K ≤ rne z.natAbs K := Nat.le_add_right _ _
          omega
        · obtain ⟨K, hK⟩ : ∃ K : Nat, e - q = (K : Int) := ⟨(e - q).toNat, by omega⟩
          have e1 : (e - q).toNat = K := by omega
          have e2 : (q - e).toNat = 0 := by omega
          rw [e1, Nat.shiftLeft_eq, e2, ← rne_cut, rne_zero] at hC
          rw [← hC]
          exact rrounded_up w' v z.natAbs K j (by omega) (by omega) hv (hL.mono (by omega)) (by omega)

end Go.Proofs.Ytfghcfeldpcgcaa

