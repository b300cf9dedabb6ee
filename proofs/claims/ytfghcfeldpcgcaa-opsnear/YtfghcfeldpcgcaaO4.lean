/- The walk of math.Ldexp at any finite double; package ops: Scale. -/
import Derived.Test.YtfghcfeldpcgcaaO3
namespace Go.Proofs.Ytfghcfeldpcgcaa
open Go.RowKit
set_option linter.unusedVariables false

/-- A word's sign, as a number. -/
def sgw (neg : Bool) : Nat := if neg then 9223372036854775808 else 0
theorem or_top (neg : Bool) {r : Nat} (h : r < 9223372036854775808) : sgw neg ||| r = sgw neg + r := by
  cases neg
  · simp [sgw]
  · have := Nat.two_pow_add_eq_or_of_lt (i := 63) (b := r) h 1
    simp only [Nat.mul_one] at this
    show 9223372036854775808 ||| r = 9223372036854775808 + r
    rw [show (9223372036854775808 : Nat) = 2 ^ 63 by decide, this]
theorem andNot_nat (c m k : Nat) (hc : c < 18446744073709551616) (hm : (~~~ BitVec.ofInt 64 (m : Int)).toNat = k) : bits .andNot .u64 (c : Int) (m : Int) = ((c &&& k : Nat) : Int) := by
  show IntKind.u64.wrap ((BitVec.ofInt 64 (c : Int) &&& ~~~ BitVec.ofInt 64 (m : Int)).toNat : Int) = _
  rw [BitVec.toNat_and, bv_nat c hc, hm, IntKind.wrap_u64]
  have := Nat.and_le_left (n := c) (m := k)
  omega
theorem and_nat (c m : Nat) (hc : c < 18446744073709551616) (hm : m < 18446744073709551616) : bits .and .u64 (c : Int) (m : Int) = ((c &&& m : Nat) : Int) := by
  show IntKind.u64.wrap ((BitVec.ofInt 64 (c : Int) &&& BitVec.ofInt 64 (m : Int)).toNat : Int) = _
  rw [BitVec.toNat_and, bv_nat c hc, bv_nat m hm, IntKind.wrap_u64]
  have := Nat.and_le_left (n := c) (m := m)
  omega
theorem or_nat (c m : Nat) (hc : c < 18446744073709551616) (hm : m < 18446744073709551616) (h : c ||| m < 18446744073709551616) : bits .or .u64 (c : Int) (m : Int) = ((c ||| m : Nat) : Int) := by
  show IntKind.u64.wrap ((BitVec.ofInt 64 (c : Int) ||| BitVec.ofInt 64 (m : Int)).toNat : Int) = _
  rw [BitVec.toNat_or, bv_nat c hc, bv_nat m hm, IntKind.wrap_u64]
  omega
theorem abs_word (b : Nat) (hb : b < 18446744073709551616) : bits .andNot .u64 (b : Int) 9223372036854775808 = ((frung b : Nat) : Int) := by
  have := andNot_nat b 9223372036854775808 (2 ^ 63 - 1) hb (by decide)
  rw [Nat.and_two_pow_sub_one_eq_mod] at this
  exact this
theorem low_word (neg : Bool) (r : Nat) (h : r < 9223372036854775808) : bits .andNot .u64 ((sgw neg + r : Nat) : Int) 9218868437227405312 = ((sgw neg + r % 4503599627370496 : Nat) : Int) := by
  have hs : sgw neg + r < 18446744073709551616 := by cases neg <;> simp [sgw] <;> omega
  have h1 := andNot_nat (sgw neg + r) 9218868437227405312 9227875636482146303 hs (by decide)
  have h2 : sgw neg + r &&& 9227875636482146303 = sgw neg + r % 4503599627370496 := by
    rw [← or_top neg h, Nat.and_or_distrib_right, and_low (a := r) 9227875636482146303 63 h, show 9227875636482146303 % 2 ^ 63 = 2 ^ 52 - 1 by decide, Nat.and_two_pow_sub_one_eq_mod]
    have h3 : sgw neg &&& 9227875636482146303 = sgw neg := by cases neg <;> decide
    rw [h3]
    exact or_top neg (by omega)
  rw [h2] at h1
  exact h1
theorem or_word (neg : Bool) (s E : Nat) (hs : s < 4503599627370496) (hE : E < 2048) : bits .or .u64 ((sgw neg + s : Nat) : Int) ((E : Int) * 4503599627370496) = ((sgw neg + (E * 4503599627370496 + s) : Nat) : Int) := by
  have h1 := Nat.two_pow_add_eq_or_of_lt (i := 52) (b := s) hs E
  have e1 : 2 ^ 52 * E = E * 4503599627370496 := by rw [Nat.mul_comm]
  rw [e1] at h1
  have h2 : (sgw neg + s) ||| (E * 4503599627370496) = sgw neg + (E * 4503599627370496 + s) := by
    rw [← or_top neg (by omega), Nat.or_assoc, Nat.or_comm s, ← h1]
    exact or_top neg (by omega)
  have hb : sgw neg ≤ 9223372036854775808 := by cases neg <;> simp [sgw]
  have h3 := or_nat (sgw neg + s) (E * 4503599627370496) (by omega) (by omega) (by rw [h2]; omega)
  rw [h2, Int.natCast_mul] at h3
  exact h3
theorem sign_word (neg : Bool) (r : Nat) (h : r < 9223372036854775808) : bits .and .u64 ((sgw neg + r : Nat) : Int) 9223372036854775808 = ((sgw neg : Nat) : Int) := by
  have hs : sgw neg + r < 18446744073709551616 := by cases neg <;> simp [sgw] <;> omega
  have h1 := and_nat (sgw neg + r) 9223372036854775808 hs (by omega)
  have h2 : sgw neg + r &&& 9223372036854775808 = sgw neg := by
    rw [← or_top neg h, Nat.and_or_distrib_right, and_low (a := r) 9223372036854775808 63 h]
    cases neg <;> simp [sgw]
  rw [h2] at h1
  exact h1
theorem absF (w : World) (b : Nat) (hb : b < 18446744073709551616) : Calls Try.prog 62 #[.float .f64 b] w (RetC w (frung b)) := by
  have hfb := fbits_run
  have hff := ffrom_run
  have h1 := abs_word b hb
  go_enter Try.func62, Try.ntmps62
  go_wp2
  go_ret
  exact ⟨by simp, rfl⟩
theorem isinfF (w : World) (b : Nat) (hb : b < 18446744073709551616) (h : Fin64 b) : Calls Try.prog 58 #[.float .f64 b, .int .i64 0] w fun e w' => e = .returned (.bool false) ∧ w = w' := by
  have hf : FloatKind.f64.format = Ieee.double := rfl
  have h2 := not_big (frung b) h.out
  have HA := Lib.hid (absF w b hb)
  clear h
  go_enter Try.func58, Try.ntmps58
  go_wp2_with fail
  refine HA.out.mono ?_
  rintro _ _ ⟨rfl, rfl⟩
  go_wp2
  go_ret
  exact ⟨rfl, rfl⟩
theorem isinfI (w : World) (b : Nat) (hb : b < 18446744073709551616) (h : Inf64 b) : Calls Try.prog 58 #[.float .f64 b, .int .i64 0] w fun e w' => e = .returned (.bool true) ∧ w = w' := by
  have hf : FloatKind.f64.format = Ieee.double := rfl
  have h2 : (Ieee.double.order 9218868437227405312 9218868437227405311 == some .gt) = true := by decide
  have HA := absF w b hb
  rw [h.out] at HA
  replace HA := Lib.hid HA
  clear h
  go_enter Try.func58, Try.ntmps58
  go_wp2_with fail
  refine HA.out.mono ?_
  rintro _ _ ⟨rfl, rfl⟩
  go_wp2
  go_ret
  exact ⟨rfl, rfl⟩
theorem isinfN (w : World) (b : Nat) (hb : b < 18446744073709551616) (h : Nan64 b) : Calls Try.prog 58 #[.float .f64 b, .int .i64 0] w fun e w' => e = .returned (.bool false) ∧ w = w' := by
  have hf : FloatKind.f64.format = Ieee.double := rfl
  have h2 : (Ieee.double.order (frung b) 9218868437227405311 == some .gt) = false := by
    rw [order_nan (.inl (by have := h.out; unfold frung at *; omega))]; rfl
  have HA := Lib.hid (absF w b hb)
  clear h
  go_enter Try.func58, Try.ntmps58
  go_wp2_with fail
  refine HA.out.mono ?_
  rintro _ _ ⟨rfl, rfl⟩
  go_wp2
  go_ret
  exact ⟨rfl, rfl⟩
theorem isnanN (w : World) (c : Nat) (h : Nan64 c) : Calls Try.prog 59 #[.float .f64 c] w fun e w' => e = .returned (.bool true) ∧ w = w' := by
  have hf : FloatKind.f64.format = Ieee.double := rfl
  have h1 : (Ieee.double.order c c != some .eq) = true := ord_nan h.out
  go_enter Try.func59, Try.ntmps59
  go_wp2
  go_ret
  exact ⟨rfl, rfl⟩
theorem copysign0 (w : World) (neg : Bool) (r : Nat) (h : r < 9223372036854775808) : Calls Try.prog 61 #[.float .f64 0, .float .f64 (sgw neg + r)] w (RetC w (sgw neg)) := by
  have hfb := fbits_run
  have hff := ffrom_run
  have h1 := sign_word neg r h
  have h2 : bits .andNot .u64 0 9223372036854775808 = 0 := by decide
  have h3 : bits .or .u64 0 ((sgw neg : Nat) : Int) = ((sgw neg : Nat) : Int) := by cases neg <;> decide
  generalize sgw neg + r = c at *
  generalize sgw neg = z at *
  clear h
  go_enter Try.func61, Try.ntmps61
  go_wp2
  go_ret
  exact ⟨by simp, rfl⟩

/-- A finite double that is not 0: brought to a full length. -/
structure Norm (c c' : Nat) (e0 : Int) (neg : Bool) (E s : Nat) : Prop where
  word : c' = sgw neg + (E * 4503599627370496 + s)
  low : s < 4503599627370496
  expo : 1 ≤ E ∧ E ≤ 2046
  less : e0 = 0 ∨ e0 = -52
  val : fval c = (if neg then -(dy ((4503599627370496 + s : Nat) : Int) ((E : Int) - 1075 + e0)) else dy ((4503599627370496 + s : Nat) : Int) ((E : Int) - 1075 + e0))
theorem word_sgw (neg : Bool) (r : Nat) : Ieee.double.word neg r = sgw neg + r := by rw [word_eq]; cases neg <;> simp [sgw]
theorem norm_of {b : Nat} (hb : b < 18446744073709551616) (h : Fin64 b) (h0 : 4503599627370496 ≤ frung b) : Norm b b 0 (fneg b) (frung b / 4503599627370496) (frung b % 4503599627370496) := by
  have hf := h.out
  have hw := word_of hb
  rw [word_sgw] at hw
  obtain ⟨E, hE⟩ : ∃ E, frung b / 4503599627370496 = E + 1 := ⟨frung b / 4503599627370496 - 1, by omega⟩
  obtain ⟨s, hs⟩ : ∃ s, frung b % 4503599627370496 = s := ⟨_, rfl⟩
  have hr : frung b = (E + 1) * 4503599627370496 + s := by omega
  rw [hE, hs]
  refine ⟨by rw [← hr]; exact hw.symm, by omega, by omega, .inl rfl, ?_⟩
  unfold fval
  rw [hr, rung_val (by omega), show ((E + 1 : Nat) : Int) - 1075 + 0 = (E : Int) - 1074 by omega]
theorem normalize_big (w : World) (b : Nat) (hb : b < 18446744073709551616) (h : Fin64 b) (h0 : 4503599627370496 ≤ frung b) : Calls Try.prog 60 #[.float .f64 b] w fun e w' => e = .returned (.tuple #[.float .f64 b, .int .i64 0]) ∧ w = w' := by
  have hf : FloatKind.f64.format = Ieee.double := rfl
  have h2 := not_small (frung b) h0 h.out
  have HA := Lib.hid (absF w b hb)
  clear h h0
  go_enter Try.func60, Try.ntmps60
  go_wp2_with fail
  refine HA.out.mono ?_
  rintro _ _ ⟨rfl, rfl⟩
  go_wp2
  go_ret2
  exact ⟨rfl, rfl⟩
theorem c52_fin : Fin64 4841369599423283200 := ⟨by decide⟩
theorem c52_val : fval 4841369599423283200 = dy 1 52 := by decide +kernel
theorem normalize_small (w : World) (b c : Nat) (hb : b < 18446744073709551616) (h0 : frung b < 4503599627370496) (hm : Ieee.double.mul b 4841369599423283200 = some c) : Calls Try.prog 60 #[.float .f64 b] w fun e w' => e = .returned (.tuple #[.float .f64 c, .int .i64 (-52)]) ∧ w = w' := by
  have hf : FloatKind.f64.format = Ieee.double := rfl
  have h2 : (Ieee.double.order (frung b) 4503599627370496 == some .lt) = true := by
    rw [order_num (pos_num (frung b) (by omega)) small_key.2, small_key.1, pos_key (frung b) (by omega), Int.compare_eq_lt.2 (by omega)]; rfl
  have HA := Lib.hid (absF w b hb)
  have hmul : ∀ w' : World, (binOp .mul 22 (.float .f64 b) (.float .f64 4841369599423283200)).run Try.prog w' = .ok (.float .f64 c) w' := fun w' => run_float_arith w' .mul _ .f64 _ _ _ hm
  clear h0 hm
  go_enter Try.func60, Try.ntmps60
  go_wp2_with fail
  refine HA.out.mono ?_
  rintro _ _ ⟨rfl, rfl⟩
  go_wp2
  go_ret2
  exact ⟨rfl, rfl⟩
theorem norm_small {b : Nat} (hb : b < 18446744073709551616) (h0 : frung b < 4503599627370496) (hz : frung b ≠ 0) : ∃ c E s, Ieee.double.mul b 4841369599423283200 = some c ∧ Norm b c (-52) (fneg b) E s := by
  obtain ⟨c, h1, h2, h3⟩ := mul_fin (x := b) ⟨by omega⟩ c52_fin
  rw [show fneg 4841369599423283200 = false by decide, Bool.xor_false] at h3
  obtain ⟨E, s, hs, hE1, hE2, hd⟩ := sig_of (frung b) (by omega) (by omega)
  obtain ⟨F, hF⟩ : ∃ F, E = F + 1023 := ⟨E - 1023, by omega⟩
  have hle : F ≤ 51 := by
    rcases Nat.lt_or_ge 51 F with k | k
    · exfalso
      obtain ⟨t, ht⟩ : ∃ t : Nat, (E : Int) - 1075 = 0 + (t : Int) := ⟨((E : Int) - 1075).toNat, by omega⟩
      rw [ht, ← dy_up] at hd
      have := dy_inj hd
      have hp := pow2_pos t
      have h5 : ((4503599627370496 + s : Nat) : Int) * 1 ≤ ((4503599627370496 + s : Nat) : Int) * 2 ^ t := Int.mul_le_mul_of_nonneg_left (by omega) (by omega)
      omega
    · exact k
  have hab : absD (fval b * fval 4841369599423283200) = rval ((F + 1) * 4503599627370496 + s) := by
    rw [c52_val, absD_mul]
    have e1 : absD (fval b) = dy ((frung b : Nat) : Int) (-1074) := by
      have hp : absD (rval (frung b)) = rval (frung b) := absD_of (rval_nonneg _)
      have e2 : rval (frung b) = dy ((frung b : Nat) : Int) (-1074) := by unfold rval; rw [rV_small h0]
      unfold fval
      split
      · rw [absD_neg, hp, e2]
      · rw [hp, e2]
    have e3 : dy ((frung b : Nat) : Int) (-1074) = dy ((frung b : Nat) : Int) 0 * dy 1 (-1074) := by rw [dy_mul, Int.mul_one, Int.zero_add]
    rw [e1, e3, hd, dy_mul, dy_mul, Int.mul_one, Int.mul_one, rung_val hs]
    congr 1
    omega
  have hn := h2.nr
  rw [hab] at hn
  have hr := hn.uniq (Nr.rval (by omega))
  refine ⟨c, F + 1, s, h1, ?_, hs, by omega, .inr rfl, ?_⟩
  · rw [← word_of h2.lt, word_sgw, h3, hr]
  · unfold fval
    have e2 : rval (frung b) = dy ((frung b : Nat) : Int) 0 * dy 1 (-1074) := by unfold rval; rw [rV_small h0, dy_mul, Int.mul_one, Int.zero_add]
    rw [e2, hd, dy_mul, Int.mul_one, show (E : Int) - 1075 + -1074 = ((F + 1 : Nat) : Int) - 1075 + -52 by omega]

/-- The way of ldexp up to the first of its tests. -/
structure LdPre (w : World) (c c' : Nat) (e0 q X : Int) (K E : Nat) : Prop where
  nz : (Ieee.double.order c 0 == some .eq) = false
  inf : Calls Try.prog 58 #[.float .f64 c, .int .i64 0] w fun e w' => e = .returned (.bool false) ∧ w = w'
  nan : Calls Try.prog 59 #[.float .f64 c] w fun e w' => e = .returned (.bool false) ∧ w = w'
  nrm : Calls Try.prog 60 #[.float .f64 c] w fun e w' => e = .returned (.tuple #[.float .f64 c', .int .i64 e0]) ∧ w = w'
  sh : (c' : Int) / 4503599627370496 = (K : Int)
  kb : K ≤ 4095
  an : bits .and .i64 (K : Int) 2047 = (E : Int)
  eb : E ≤ 2046
  q1 : -5000 ≤ q ∧ q ≤ 5000
  e1 : -52 ≤ e0 ∧ e0 ≤ 0
  x : q + e0 + ((E : Int) - 1023) = X

set_option maxRecDepth 10000 in
set_option maxHeartbeats 1000000 in
theorem ldF_under (w : World) (c c' z : Nat) (e0 q X : Int) (K E : Nat) (P : LdPre w c c' e0 q X K E) (hC : Calls Try.prog 61 #[.float .f64 0, .float .f64 c'] w (RetC w z)) (hx : X < -1075) : Calls Try.prog 56 #[.float .f64 c, .int .i64 q] w (RetC w z) := by
  have hf : FloatKind.f64.format = Ieee.double := rfl
  have hfb := fbits_run
  obtain ⟨h1, h2, h3, h4, h5, h6, h7, h8, ⟨h9, h9'⟩, ⟨h10, h10'⟩, h11⟩ := P
  have H2 := Lib.hid h2; have H3 := Lib.hid h3; have H4 := Lib.hid h4; have HC := Lib.hid hC
  clear h2 h3 h4 hC
  go_enter Try.func56, Try.ntmps56
  go_wp2_with fail
  refine H2.out.mono ?_
  rintro _ _ ⟨rfl, rfl⟩
  go_wp2_with fail
  refine H3.out.mono ?_
  rintro _ _ ⟨rfl, rfl⟩
  go_wp2_with fail
  refine H4.out.mono ?_
  rintro _ _ ⟨rfl, rfl⟩
  go_wp2_with fail
  refine HC.out.mono ?_
  rintro _ _ ⟨rfl, rfl⟩
  go_wp2
  go_ret
  exact ⟨rfl, rfl⟩
set_option maxRecDepth 10000 in
set_option maxHeartbeats 1000000 in
theorem ldF_pos (w : World) (c c' : Nat) (e0 q X : Int) (K E : Nat) (P : LdPre w c c' e0 q X K E) (hs : (Ieee.double.order c' 0 == some .lt) = false) (hx : 1023 < X) : Calls Try.prog 56 #[.float .f64 c, .int .i64 q] w (RetC w 9218868437227405312) := by
  have hf : FloatKind.f64.format = Ieee.double := rfl
  have hfb := fbits_run
  obtain ⟨h1, h2, h3, h4, h5, h6, h7, h8, ⟨h9, h9'⟩, ⟨h10, h10'⟩, h11⟩ := P
  have H2 := Lib.hid h2; have H3 := Lib.hid h3; have H4 := Lib.hid h4
  clear h2 h3 h4
  go_enter Try.func56, Try.ntmps56
  go_wp2_with fail
  refine H2.out.mono ?_
  rintro _ _ ⟨rfl, rfl⟩
  go_wp2_with fail
  refine H3.out.mono ?_
  rintro _ _ ⟨rfl, rfl⟩
  go_wp2_with fail
  refine H4.out.mono ?_
  rintro _ _ ⟨rfl, rfl⟩
  go_wp2_with fail
  refine (inf_any _).mono ?_
  rintro _ _ ⟨rfl, rfl⟩
  go_wp2
  go_ret
  exact ⟨rfl, rfl⟩
set_option maxRecDepth 10000 in
set_option maxHeartbeats 1000000 in
theorem ldF_neg (w : World) (c c' : Nat) (e0 q X : Int) (K E : Nat) (P : LdPre w c c' e0 q X K E) (hs : (Ieee.double.order c' 0 == some .lt) = true) (hx : 1023 < X) : Calls Try.prog 56 #[.float .f64 c, .int .i64 q] w (RetC w 18442240474082181120) := by
  have hf : FloatKind.f64.format = Ieee.double := rfl
  have hfb := fbits_run
  obtain ⟨h1, h2, h3, h4, h5, h6, h7, h8, ⟨h9, h9'⟩, ⟨h10, h10'⟩, h11⟩ := P
  have H2 := Lib.hid h2; have H3 := Lib.hid h3; have H4 := Lib.hid h4
  clear h2 h3 h4
  go_enter Try.func56, Try.ntmps56
  go_wp2_with fail
  refine H2.out.mono ?_
  rintro _ _ ⟨rfl, rfl⟩
  go_wp2_with fail
  refine H3.out.mono ?_
  rintro _ _ ⟨rfl, rfl⟩
  go_wp2_with fail
  refine H4.out.mono ?_
  rintro _ _ ⟨rfl, rfl⟩
  go_wp2_with fail
  refine (ninf_any _).mono ?_
  rintro _ _ ⟨rfl, rfl⟩
  go_wp2
  go_ret
  exact ⟨rfl, rfl⟩
set_option maxRecDepth 10000 in
set_option maxHeartbeats 1000000 in
theorem ldF_mid (w : World) (c c' T Y F r : Nat) (e0 q X : Int) (K E : Nat) (P : LdPre w c c' e0 q X K E) (hT : bits .andNot .u64 (c' : Int) 9218868437227405312 = (T : Int)) (hF : X + 1023 = (F : Int)) (hY : bits .or .u64 (T : Int) ((F : Int) * 4503599627370496) = (Y : Int)) (hlo : -1022 ≤ X) (hhi : X ≤ 1023)
    (hm : floatBits .mul .f64 4607182418800017408 Y = some r) : Calls Try.prog 56 #[.float .f64 c, .int .i64 q] w (RetC w r) := by
  have hf : FloatKind.f64.format = Ieee.double := rfl
  have hfb := fbits_run
  have hff := ffrom_run
  have hmul : ∀ w' : World, (binOp .mul 22 (.float .f64 4607182418800017408) (.float .f64 Y)).run Try.prog w' = .ok (.float .f64 r) w' := fun w' => run_float_arith w' .mul _ .f64 _ _ _ hm
  obtain ⟨h1, h2, h3, h4, h5, h6, h7, h8, ⟨h9, h9'⟩, ⟨h10, h10'⟩, h11⟩ := P
  have H2 := Lib.hid h2; have H3 := Lib.hid h3; have H4 := Lib.hid h4
  clear h2 h3 h4 hm
  go_enter Try.func56, Try.ntmps56
  go_wp2_with fail
  refine H2.out.mono ?_
  rintro _ _ ⟨rfl, rfl⟩
  go_wp2_with fail
  refine H3.out.mono ?_
  rintro _ _ ⟨rfl, rfl⟩
  go_wp2_with fail
  refine H4.out.mono ?_
  rintro _ _ ⟨rfl, rfl⟩
  go_wp2
  go_ret
  exact ⟨rfl, rfl⟩
set_option maxRecDepth 10000 in
set_option maxHeartbeats 1000000 in
theorem ldF_low (w : World) (c c' T Y F r : Nat) (e0 q X : Int) (K E : Nat) (P : LdPre w c c' e0 q X K E) (hT : bits .andNot .u64 (c' : Int) 9218868437227405312 = (T : Int)) (hF : X + 53 + 1023 = (F : Int)) (hY : bits .or .u64 (T : Int) ((F : Int) * 4503599627370496) = (Y : Int)) (hlo : -1075 ≤ X) (hhi : X < -1022)
    (hm : floatBits .mul .f64 4368491638549381120 Y = some r) : Calls Try.prog 56 #[.float .f64 c, .int .i64 q] w (RetC w r) := by
  have hf : FloatKind.f64.format = Ieee.double := rfl
  have hfb := fbits_run
  have hff := ffrom_run
  have hmul : ∀ w' : World, (binOp .mul 22 (.float .f64 4368491638549381120) (.float .f64 Y)).run Try.prog w' = .ok (.float .f64 r) w' := fun w' => run_float_arith w' .mul _ .f64 _ _ _ hm
  obtain ⟨h1, h2, h3, h4, h5, h6, h7, h8, ⟨h9, h9'⟩, ⟨h10, h10'⟩, h11⟩ := P
  have H2 := Lib.hid h2; have H3 := Lib.hid h3; have H4 := Lib.hid h4
  clear h2 h3 h4 hm
  go_enter Try.func56, Try.ntmps56
  go_wp2_with fail
  refine H2.out.mono ?_
  rintro _ _ ⟨rfl, rfl⟩
  go_wp2_with fail
  refine H3.out.mono ?_
  rintro _ _ ⟨rfl, rfl⟩
  go_wp2_with fail
  refine H4.out.mono ?_
  rintro _ _ ⟨rfl, rfl⟩
  go_wp2
  go_ret
  exact ⟨rfl, rfl⟩

theorem sgw_le (neg : Bool) : sgw neg ≤ 9223372036854775808 := by cases neg <;> simp [sgw]
theorem sgw_rung (neg : Bool) {r : Nat} (h : r < 9223372036854775808) : frung (sgw neg + r) = r := by rw [← word_sgw]; exact frung_word neg h
theorem sgw_neg (neg : Bool) {r : Nat} (h : r < 9223372036854775808) : fneg (sgw neg + r) = neg := by rw [← word_sgw]; exact fneg_word neg h
theorem norm_sh (neg : Bool) (E s : Nat) (hs : s < 4503599627370496) (hE : E ≤ 2046) : ∃ K : Nat, ((sgw neg + (E * 4503599627370496 + s) : Nat) : Int) / 4503599627370496 = (K : Int) ∧ K ≤ 4095 ∧ bits .and .i64 (K : Int) 2047 = (E : Int) := by
  cases neg
  · refine ⟨E, ?_, by omega, ?_⟩
    · simp only [sgw]; simp; omega
    · rw [i64_and11]; omega
  · refine ⟨2048 + E, ?_, by omega, ?_⟩
    · simp only [sgw]; simp; omega
    · rw [i64_and11]; omega
/-- The value of a word of full length. -/
theorem full_val (neg : Bool) {E s : Nat} (hs : s < 4503599627370496) (h1 : 1 ≤ E) (h2 : E ≤ 2046) : fval (sgw neg + (E * 4503599627370496 + s)) = (if neg then -(dy ((4503599627370496 + s : Nat) : Int) ((E : Int) - 1075)) else dy ((4503599627370496 + s : Nat) : Int) ((E : Int) - 1075)) := by
  obtain ⟨k, rfl⟩ : ∃ k, E = k + 1 := ⟨E - 1, by omega⟩
  unfold fval
  rw [sgw_rung neg (by omega), sgw_neg neg (by omega), rung_val hs, show ((k + 1 : Nat) : Int) - 1075 = (k : Int) - 1074 by omega]
theorem full_fin (neg : Bool) {E s : Nat} (hs : s < 4503599627370496) (h2 : E ≤ 2046) : Fin64 (sgw neg + (E * 4503599627370496 + s)) := ⟨by rw [sgw_rung neg (by omega)]; omega⟩
theorem full_lt (neg : Bool) {E s : Nat} (hs : s < 4503599627370496) (h1 : 1 ≤ E) (h2 : E ≤ 2046) : (Ieee.double.order (sgw neg + (E * 4503599627370496 + s)) 0 == some .lt) = neg := by
  have hF := full_fin neg hs h2
  have hk : fkey (sgw neg + (E * 4503599627370496 + s)) = if neg then -((E * 4503599627370496 + s : Nat) : Int) else ((E * 4503599627370496 + s : Nat) : Int) := by
    unfold fkey; rw [sgw_rung neg (by omega), sgw_neg neg (by omega)]
  cases neg
  · refine ord_not_lt hF.num zero_key.2 ?_
    rw [hk, zero_key.1]; simp; omega
  · refine ord_lt hF.num zero_key.2 ?_
    rw [hk, zero_key.1]; simp; omega
theorem sgn_mul (neg : Bool) (x y : Dyadic) : x * (if neg then -y else y) = if neg then -(x * y) else x * y := by cases neg <;> simp <;> grind
theorem mul_sgn (neg : Bool) (x y : Dyadic) : (if neg then -y else y) * x = if neg then -(y * x) else y * x := by cases neg <;> simp <;> grind
theorem ninf_rn {x : Dyadic} (h : rval 9218868437227405312 ≤ x) : Rn (-x) 18442240474082181120 := by
  have h0 : (0 : Dyadic) < rval 9218868437227405312 := rval_pos (by omega)
  exact opp_rn (inf_rn h) (by decide) (by grind)
/-- A number below half of the least double's. -/
theorem small_rn {d : Dyadic} {b : Nat} (hb : b < 18446744073709551616) (h : frung b = 0) (hd : absD d < mid 0) : Rn d b := by
  refine ⟨hb, ?_, fun _ k => absurd h k, fun _ k => absurd h k⟩
  rw [h]
  exact ⟨by omega, fun _ => .inl hd, fun q hq => by omega⟩
/-- math.ldexp at a finite double that is not 0. -/
theorem ldF_fin (w : World) (c : Nat) (q : Int) (hc : c < 18446744073709551616) (hF : Fin64 c) (hz : frung c ≠ 0) (hq : -5000 ≤ q ∧ q ≤ 5000) : Calls Try.prog 56 #[.float .f64 c, .int .i64 q] w (RetW w (Rn (fval c * dy 1 q))) := by
  have hnz : (Ieee.double.order c 0 == some .eq) = false := ord_neq hF.num zero_key.2 (by rw [zero_key.1]; exact fun e => hz (key_zero.1 e))
  obtain ⟨c', e0, neg, E, s, hN, hnrm⟩ : ∃ c' e0 neg E s, Norm c c' e0 neg E s ∧ Calls Try.prog 60 #[.float .f64 c] w fun e w' => e = .returned (.tuple #[.float .f64 c', .int .i64 e0]) ∧ w = w' := by
    rcases Nat.lt_or_ge (frung c) 4503599627370496 with h | h
    · obtain ⟨c', E, s, h1, h2⟩ := norm_small hc h hz
      exact ⟨c', _, _, E, s, h2, normalize_small w c c' hc h h1⟩
    · exact ⟨c, _, _, _, _, norm_of hc hF h, normalize_big w c hc hF h⟩
  obtain ⟨hw, hs, ⟨hE1, hE2⟩, he0, hv⟩ := hN
  subst hw
  obtain ⟨K, k1, k2, k3⟩ := norm_sh neg E s hs hE2
  obtain ⟨X, hX⟩ : ∃ X, q + e0 + ((E : Int) - 1023) = X := ⟨_, rfl⟩
  have P : LdPre w c (sgw neg + (E * 4503599627370496 + s)) e0 q X K E := ⟨hnz, isinfF w c hc hF, isnan_no w c hF.num, hnrm, k1, k2, k3, hE2, hq, by omega, hX⟩
  have hval : fval c * dy 1 q = if neg then -(dy ((4503599627370496 + s : Nat) : Int) (X - 52)) else dy ((4503599627370496 + s : Nat) : Int) (X - 52) := by
    rw [hv, mul_sgn, dy_mul, Int.mul_one, show (E : Int) - 1075 + e0 + q = X - 52 by omega]
  rw [hval]
  rcases Int.lt_or_le X (-1075) with a | a
  · refine (ldF_under w c _ (sgw neg) e0 q X K E P (copysign0 w neg _ (by omega)) a).mono ?_
    rintro _ _ ⟨rfl, rfl⟩
    have hb := sgw_le neg
    have hr0 : frung (sgw neg) = 0 := by cases neg <;> decide
    refine ⟨_, rfl, by omega, small_rn (by omega) hr0 ?_, Ext.refl _⟩
    have e1 : absD (if neg = true then -(dy ((4503599627370496 + s : Nat) : Int) (X - 52)) else dy ((4503599627370496 + s : Nat) : Int) (X - 52)) = dy ((4503599627370496 + s : Nat) : Int) (X - 52) := by
      have : absD (dy ((4503599627370496 + s : Nat) : Int) (X - 52)) = dy ((4503599627370496 + s : Nat) : Int) (X - 52) := by rw [absD_dy, Int.natAbs_natCast]
      cases neg
      · exact this
      · simp only [if_true]; rw [absD_neg]; exact this
    rw [e1, mid_zero]
    obtain ⟨t, ht⟩ : ∃ t : Nat, (-1075 : Int) = (X - 52) + ((53 + t : Nat) : Int) := ⟨(-1075 - (X - 52) - 53).toNat, by omega⟩
    rw [ht, ← dy_up, dy_lt, Int.pow_add]
    have hp := pow2_pos t
    have h5 : (9007199254740992 : Int) * 1 ≤ 9007199254740992 * 2 ^ t := Int.mul_le_mul_of_nonneg_left (by omega) (by omega)
    have h6 : (2 : Int) ^ 53 = 9007199254740992 := by decide
    rw [h6]
    omega
  · rcases Int.lt_or_le 1023 X with b | b
    · have hlt := full_lt neg hs hE1 hE2
      have hbig : rval 9218868437227405312 ≤ dy ((4503599627370496 + s : Nat) : Int) (X - 52) := by
        have hi : rval 9218868437227405312 = dy 1 1024 := by decide +kernel
        obtain ⟨t, ht⟩ : ∃ t : Nat, X - 52 = 972 + (t : Int) := ⟨(X - 52 - 972).toNat, by omega⟩
        have h4 := dy_up 1 972 52
        rw [hi, show (1024 : Int) = 972 + ((52 : Nat) : Int) by decide, ← h4, ht, ← dy_up, dy_le]
        have hp := pow2_pos t
        have h5 : ((4503599627370496 + s : Nat) : Int) * 1 ≤ ((4503599627370496 + s : Nat) : Int) * 2 ^ t := Int.mul_le_mul_of_nonneg_left (by omega) (by omega)
        have : (1 : Int) * 2 ^ 52 = 4503599627370496 := by decide
        omega
      cases neg
      · refine (ldF_pos w c _ e0 q X K E P hlt b).mono ?_
        rintro _ _ ⟨rfl, rfl⟩
        exact ⟨_, rfl, by omega, inf_rn hbig, Ext.refl _⟩
      · refine (ldF_neg w c _ e0 q X K E P hlt b).mono ?_
        rintro _ _ ⟨rfl, rfl⟩
        exact ⟨_, rfl, by omega, ninf_rn hbig, Ext.refl _⟩
    · have hT := low_word neg (E * 4503599627370496 + s) (by omega)
      rw [show (E * 4503599627370496 + s) % 4503599627370496 = s by omega] at hT
      rcases Int.lt_or_le X (-1022) with d | d
      · obtain ⟨F, hF1⟩ : ∃ F : Nat, X + 53 + 1023 = (F : Int) := ⟨(X + 53 + 1023).toNat, by omega⟩
        have hY := or_word neg s F hs (by omega)
        obtain ⟨r, hr, hR, _⟩ := mul_fin tiny_fin (full_fin neg hs (show F ≤ 2046 by omega))
        refine (ldF_low w c _ _ _ F r e0 q X K E P hT hF1 hY a d hr).mono ?_
        rintro _ _ ⟨rfl, rfl⟩
        refine ⟨_, rfl, hR.lt, ?_, Ext.refl _⟩
        rw [tiny_val, full_val neg hs (by omega) (by omega), sgn_mul, dy_mul, Int.one_mul, show (-53 : Int) + ((F : Int) - 1075) = X - 52 by omega] at hR
        exact hR
      · obtain ⟨F, hF1⟩ : ∃ F : Nat, X + 1023 = (F : Int) := ⟨(X + 1023).toNat, by omega⟩
        have hY := or_word neg s F hs (by omega)
        obtain ⟨r, hr, hR, _⟩ := mul_fin one_fin (full_fin neg hs (show F ≤ 2046 by omega))
        refine (ldF_mid w c _ _ _ F r e0 q X K E P hT hF1 hY d b hr).mono ?_
        rintro _ _ ⟨rfl, rfl⟩
        refine ⟨_, rfl, hR.lt, ?_, Ext.refl _⟩
        rw [one_val, full_val neg hs (by omega) (by omega), sgn_mul, dy_mul, Int.one_mul, show (0 : Int) + ((F : Int) - 1075) = X - 52 by omega] at hR
        exact hR
/-- c is a times 2^k. -/
def ScaleS (a : Nat) (k : Int) (c : Nat) : Prop := (Fin64 a ∧ Rn (fval a * dy 1 k) c) ∨ (9218868437227405312 ≤ frung a ∧ c = a)
theorem ldF_zero (w : World) (c : Nat) (q : Int) (hF : Fin64 c) (hz : frung c = 0) : Calls Try.prog 56 #[.float .f64 c, .int .i64 q] w (RetC w c) := by
  have hf : FloatKind.f64.format = Ieee.double := rfl
  have h1 : (Ieee.double.order c 0 == some .eq) = true := order_key hF.num zero_key.2 (by rw [zero_key.1]; exact key_zero.2 hz)
  clear hF hz
  go_enter Try.func56, Try.ntmps56
  go_wp2
  go_ret
  exact ⟨rfl, rfl⟩
theorem ldF_inf (w : World) (c : Nat) (q : Int) (hc : c < 18446744073709551616) (hI : Inf64 c) : Calls Try.prog 56 #[.float .f64 c, .int .i64 q] w (RetC w c) := by
  have hf : FloatKind.f64.format = Ieee.double := rfl
  have h1 : (Ieee.double.order c 0 == some .eq) = false := ord_neq hI.num zero_key.2 (by rw [zero_key.1]; exact inf_key_ne hI)
  have H2 := Lib.hid (isinfI w c hc hI)
  clear hI
  go_enter Try.func56, Try.ntmps56
  go_wp2_with fail
  refine H2.out.mono ?_
  rintro _ _ ⟨rfl, rfl⟩
  go_wp2
  go_ret
  exact ⟨rfl, rfl⟩
theorem ldF_nan (w : World) (c : Nat) (q : Int) (hc : c < 18446744073709551616) (hI : Nan64 c) : Calls Try.prog 56 #[.float .f64 c, .int .i64 q] w (RetC w c) := by
  have hf : FloatKind.f64.format = Ieee.double := rfl
  have h1 : (Ieee.double.order c 0 == some .eq) = false := by rw [order_nan (.inl hI.out)]; rfl
  have H2 := Lib.hid (isinfN w c hc hI)
  have H3 := Lib.hid (isnanN w c hI)
  clear hI
  go_enter Try.func56, Try.ntmps56
  go_wp2_with fail
  refine H2.out.mono ?_
  rintro _ _ ⟨rfl, rfl⟩
  go_wp2_with fail
  refine H3.out.mono ?_
  rintro _ _ ⟨rfl, rfl⟩
  go_wp2
  go_ret
  exact ⟨rfl, rfl⟩
theorem ldF_any (w : World) (c : Nat) (q : Int) (hc : c < 18446744073709551616) (hq : -5000 ≤ q ∧ q ≤ 5000) : Calls Try.prog 56 #[.float .f64 c, .int .i64 q] w (RetW w (ScaleS c q)) := by
  rcases kinds c with h | h | h
  · exact (ldF_nan w c q hc h).mono fun _ _ ⟨he, hw⟩ => ⟨c, he, hc, .inr ⟨by have := h.out; omega, rfl⟩, by rw [← hw]; exact Ext.refl _⟩
  · exact (ldF_inf w c q hc h).mono fun _ _ ⟨he, hw⟩ => ⟨c, he, hc, .inr ⟨by have := h.out; omega, rfl⟩, by rw [← hw]; exact Ext.refl _⟩
  · by_cases hz : frung c = 0
    · refine (ldF_zero w c q h hz).mono fun _ _ ⟨he, hw⟩ => ⟨c, he, hc, .inl ⟨h, ?_⟩, by rw [← hw]; exact Ext.refl _⟩
      refine small_rn hc hz ?_
      have : fval c = 0 := by unfold fval; rw [hz, rval_zero]; cases fneg c <;> simp
      rw [this, show (0 : Dyadic) * dy 1 q = 0 by grind, mid_zero]
      decide +kernel
    · exact (ldF_fin w c q hc h hz hq).mono fun _ _ ⟨b, he, hb, hr, hE⟩ => ⟨b, he, hb, .inl ⟨h, hr⟩, hE⟩
theorem LdexpF (w : World) (c : Nat) (q : Int) (hc : c < 18446744073709551616) (hq : -5000 ≤ q ∧ q ≤ 5000) : Calls Try.prog 41 #[.float .f64 c, .int .i64 q] w (RetW w (ScaleS c q)) := by
  have HL := Lib.hid (fun w' => ldF_any w' c q hc hq)
  clear hc hq
  go_enter Try.func41, Try.ntmps41
  go_wp2_with fail
  refine (HL.out _).mono ?_
  rintro _ w1 ⟨b, rfl, hb, hr, e1⟩
  go_wp2
  go_ret
  exact ⟨b, rfl, hb, hr, e1⟩
theorem scalep_any (w : World) (c : Nat) (q : Int) (hc : c < 18446744073709551616) (hq : -5000 ≤ q ∧ q ≤ 5000) : Calls Try.prog 19 #[.float .f64 c, .int .i64 q] w (RetW w (ScaleS c q)) := by
  have HL := Lib.hid (fun w' => LdexpF w' c q hc hq)
  clear hc hq
  go_enter Try.func19, Try.ntmps19
  go_wp2_with fail
  refine (HL.out _).mono ?_
  rintro _ w1 ⟨b, rfl, hb, hr, e1⟩
  go_wp2
  go_ret
  exact ⟨b, rfl, hb, hr, e1⟩

end Go.Proofs.Ytfghcfeldpcgcaa
