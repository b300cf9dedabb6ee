/- The walk of law OpsTells. -/
import Derived.Test.YtfghcfeldpcgcaaWOpsEither
import Derived.Test.YtfghcfeldpcgcaaO9
namespace Go.Proofs.Ytfghcfeldpcgcaa
open Go.RowKit
set_option linter.unusedVariables false

theorem SubS.uniq {a b c d : Nat} (h : SubS a b c) (k : SubS a b d) : Al c d := by
  obtain ⟨x, h1, h2, h3⟩ := h
  obtain ⟨y, k1, k2, k3⟩ := k
  have : Al x y := by
    rcases nan_or_num b with n | n
    · exact Nan64.al ⟨by rw [h1]; exact n.out⟩ ⟨by rw [k1]; exact n.out⟩
    · exact .num ⟨by rw [h1]; exact n.out⟩ ⟨by rw [k1]; exact n.out⟩ (by rw [opp_key h1 h2, opp_key k1 k2])
  exact (h3.move (Al.refl _) this).uniq k3
theorem ScaleS.uniq {a c d : Nat} {k : Int} (h : ScaleS a k c) (q : ScaleS a k d) : Al c d := by
  rcases h with ⟨h1, h2⟩ | ⟨h1, rfl⟩
  · rcases q with ⟨_, q2⟩ | ⟨q1, _⟩
    · exact Al.of_rn h2 q2
    · have := h1.out; omega
  · rcases q with ⟨q1, _⟩ | ⟨_, rfl⟩
    · have := q1.out; omega
    · exact Al.refl _

set_option maxRecDepth 10000 in
set_option maxHeartbeats 2000000 in
theorem tells4_lo (w : World) (a : Nat) (ha : a < 18446744073709551616) (b : Nat) (hb : b < 18446744073709551616) (k : Int) (hk : -9223372036854775808 ≤ k ∧ k ≤ 9223372036854775807) (k1 : k < -5000) : Calls Try.prog 3 #[.float .f64 a, .float .f64 b, .int .i64 k] w (RetE w (.bool true)) := by
  have hf0 : FloatKind.f64.format = Ieee.double := rfl
  have A1 := Lib.hid (fun w' => raddF_any w' a b ha hb)
  have A2 := Lib.hid (fun w' => subp_any w' a b hb)
  have A3 := Lib.hid (fun w' => rsubF_any w' a b ha hb)
  have A4 := Lib.hid (fun w' => rmulF_any w' a b ha hb)
  have A5 := Lib.hid (fun w' => rrootF_any w' a ha)
  clear ha hb
  go_enter Try.func3, Try.ntmps3
  go_wp2_with fail
  refine (headO_any _).mono ?_
  rintro _ w1 ⟨rfl, f1⟩
  have e1 : Ext w w1 := (Ext.refl w).trans f1
  have E1 : Ext w w1 := (Ext.refl w).trans e1
  clear f1 e1
  go_wp2_with fail
  refine (addp_any _ a b).mono ?_
  rintro _ w2 ⟨x0, rfl, _, sx0, f2⟩
  have e2 : Ext w1 w2 := (Ext.refl w1).trans f2
  have E2 : Ext w w2 := E1.trans e2
  clear f2 e2 E1
  go_wp2_with fail
  refine (A1.out _).mono ?_
  rintro _ w3 ⟨y0, rfl, _, sy0, f3⟩
  have e3 : Ext w2 w3 := (Ext.refl w2).trans f3
  have E3 : Ext w w3 := E2.trans e3
  clear f3 e3 E2
  go_wp2_with fail
  refine (same_al _ (sx0.uniq sy0)).mono ?_
  rintro _ _ ⟨rfl, rfl⟩
  clear sx0 sy0
  go_wp2_with fail
  refine (A2.out _).mono ?_
  rintro _ w4 ⟨x1, rfl, _, sx1, f4⟩
  have e4 : Ext w3 w4 := (Ext.refl w3).trans f4
  have E4 : Ext w w4 := E3.trans e4
  clear f4 e4 E3
  go_wp2_with fail
  refine (A3.out _).mono ?_
  rintro _ w5 ⟨y1, rfl, _, sy1, f5⟩
  have e5 : Ext w4 w5 := (Ext.refl w4).trans f5
  have E5 : Ext w w5 := E4.trans e5
  clear f5 e5 E4
  go_wp2_with fail
  refine (same_al _ (sx1.uniq sy1)).mono ?_
  rintro _ _ ⟨rfl, rfl⟩
  clear sx1 sy1
  go_wp2_with fail
  refine (mulp_any _ a b).mono ?_
  rintro _ w6 ⟨x2, rfl, _, sx2, f6⟩
  have e6 : Ext w5 w6 := (Ext.refl w5).trans f6
  have E6 : Ext w w6 := E5.trans e6
  clear f6 e6 E5
  go_wp2_with fail
  refine (A4.out _).mono ?_
  rintro _ w7 ⟨y2, rfl, _, sy2, f7⟩
  have e7 : Ext w6 w7 := (Ext.refl w6).trans f7
  have E7 : Ext w w7 := E6.trans e7
  clear f7 e7 E6
  go_wp2_with fail
  refine (same_al _ (sx2.uniq sy2)).mono ?_
  rintro _ _ ⟨rfl, rfl⟩
  clear sx2 sy2
  go_wp2_with fail
  refine (rootp_any _ a).mono ?_
  rintro _ w8 ⟨x3, rfl, _, sx3, f8⟩
  have e8 : Ext w7 w8 := (Ext.refl w7).trans f8
  have E8 : Ext w w8 := E7.trans e8
  clear f8 e8 E7
  go_wp2_with fail
  refine (A5.out _).mono ?_
  rintro _ w9 ⟨y3, rfl, _, sy3, f9⟩
  have e9 : Ext w8 w9 := (Ext.refl w8).trans f9
  have E9 : Ext w w9 := E8.trans e9
  clear f9 e9 E8
  go_wp2_with fail
  refine (same_al _ (sx3.uniq sy3)).mono ?_
  rintro _ _ ⟨rfl, rfl⟩
  clear sx3 sy3
  go_wp2
  go_ret
  exact ⟨rfl, E9⟩
set_option maxRecDepth 10000 in
set_option maxHeartbeats 2000000 in
theorem tells4_hi (w : World) (a : Nat) (ha : a < 18446744073709551616) (b : Nat) (hb : b < 18446744073709551616) (k : Int) (hk : -9223372036854775808 ≤ k ∧ k ≤ 9223372036854775807) (k1 : ¬ k < -5000) (k2 : 5000 < k) : Calls Try.prog 3 #[.float .f64 a, .float .f64 b, .int .i64 k] w (RetE w (.bool true)) := by
  have hf0 : FloatKind.f64.format = Ieee.double := rfl
  have A1 := Lib.hid (fun w' => raddF_any w' a b ha hb)
  have A2 := Lib.hid (fun w' => subp_any w' a b hb)
  have A3 := Lib.hid (fun w' => rsubF_any w' a b ha hb)
  have A4 := Lib.hid (fun w' => rmulF_any w' a b ha hb)
  have A5 := Lib.hid (fun w' => rrootF_any w' a ha)
  clear ha hb
  go_enter Try.func3, Try.ntmps3
  go_wp2_with fail
  refine (headO_any _).mono ?_
  rintro _ w1 ⟨rfl, f1⟩
  have e1 : Ext w w1 := (Ext.refl w).trans f1
  have E1 : Ext w w1 := (Ext.refl w).trans e1
  clear f1 e1
  go_wp2_with fail
  refine (addp_any _ a b).mono ?_
  rintro _ w2 ⟨x0, rfl, _, sx0, f2⟩
  have e2 : Ext w1 w2 := (Ext.refl w1).trans f2
  have E2 : Ext w w2 := E1.trans e2
  clear f2 e2 E1
  go_wp2_with fail
  refine (A1.out _).mono ?_
  rintro _ w3 ⟨y0, rfl, _, sy0, f3⟩
  have e3 : Ext w2 w3 := (Ext.refl w2).trans f3
  have E3 : Ext w w3 := E2.trans e3
  clear f3 e3 E2
  go_wp2_with fail
  refine (same_al _ (sx0.uniq sy0)).mono ?_
  rintro _ _ ⟨rfl, rfl⟩
  clear sx0 sy0
  go_wp2_with fail
  refine (A2.out _).mono ?_
  rintro _ w4 ⟨x1, rfl, _, sx1, f4⟩
  have e4 : Ext w3 w4 := (Ext.refl w3).trans f4
  have E4 : Ext w w4 := E3.trans e4
  clear f4 e4 E3
  go_wp2_with fail
  refine (A3.out _).mono ?_
  rintro _ w5 ⟨y1, rfl, _, sy1, f5⟩
  have e5 : Ext w4 w5 := (Ext.refl w4).trans f5
  have E5 : Ext w w5 := E4.trans e5
  clear f5 e5 E4
  go_wp2_with fail
  refine (same_al _ (sx1.uniq sy1)).mono ?_
  rintro _ _ ⟨rfl, rfl⟩
  clear sx1 sy1
  go_wp2_with fail
  refine (mulp_any _ a b).mono ?_
  rintro _ w6 ⟨x2, rfl, _, sx2, f6⟩
  have e6 : Ext w5 w6 := (Ext.refl w5).trans f6
  have E6 : Ext w w6 := E5.trans e6
  clear f6 e6 E5
  go_wp2_with fail
  refine (A4.out _).mono ?_
  rintro _ w7 ⟨y2, rfl, _, sy2, f7⟩
  have e7 : Ext w6 w7 := (Ext.refl w6).trans f7
  have E7 : Ext w w7 := E6.trans e7
  clear f7 e7 E6
  go_wp2_with fail
  refine (same_al _ (sx2.uniq sy2)).mono ?_
  rintro _ _ ⟨rfl, rfl⟩
  clear sx2 sy2
  go_wp2_with fail
  refine (rootp_any _ a).mono ?_
  rintro _ w8 ⟨x3, rfl, _, sx3, f8⟩
  have e8 : Ext w7 w8 := (Ext.refl w7).trans f8
  have E8 : Ext w w8 := E7.trans e8
  clear f8 e8 E7
  go_wp2_with fail
  refine (A5.out _).mono ?_
  rintro _ w9 ⟨y3, rfl, _, sy3, f9⟩
  have e9 : Ext w8 w9 := (Ext.refl w8).trans f9
  have E9 : Ext w w9 := E8.trans e9
  clear f9 e9 E8
  go_wp2_with fail
  refine (same_al _ (sx3.uniq sy3)).mono ?_
  rintro _ _ ⟨rfl, rfl⟩
  clear sx3 sy3
  go_wp2
  go_ret
  exact ⟨rfl, E9⟩
set_option maxRecDepth 10000 in
set_option maxHeartbeats 2000000 in
theorem tells4_mid (w : World) (a : Nat) (ha : a < 18446744073709551616) (b : Nat) (hb : b < 18446744073709551616) (k : Int) (hk : -9223372036854775808 ≤ k ∧ k ≤ 9223372036854775807) (k1 : ¬ k < -5000) (k2 : ¬ 5000 < k) : Calls Try.prog 3 #[.float .f64 a, .float .f64 b, .int .i64 k] w (RetE w (.bool true)) := by
  have hf0 : FloatKind.f64.format = Ieee.double := rfl
  have A1 := Lib.hid (fun w' => raddF_any w' a b ha hb)
  have A2 := Lib.hid (fun w' => subp_any w' a b hb)
  have A3 := Lib.hid (fun w' => rsubF_any w' a b ha hb)
  have A4 := Lib.hid (fun w' => rmulF_any w' a b ha hb)
  have A5 := Lib.hid (fun w' => rrootF_any w' a ha)
  have A6 := Lib.hid (fun w' => scalep_any w' a k ha (by omega))
  have A7 := Lib.hid (fun w' => rscaleF_any w' a k ha (by omega))
  clear ha hb
  go_enter Try.func3, Try.ntmps3
  go_wp2_with fail
  refine (headO_any _).mono ?_
  rintro _ w1 ⟨rfl, f1⟩
  have e1 : Ext w w1 := (Ext.refl w).trans f1
  have E1 : Ext w w1 := (Ext.refl w).trans e1
  clear f1 e1
  go_wp2_with fail
  refine (addp_any _ a b).mono ?_
  rintro _ w2 ⟨x0, rfl, _, sx0, f2⟩
  have e2 : Ext w1 w2 := (Ext.refl w1).trans f2
  have E2 : Ext w w2 := E1.trans e2
  clear f2 e2 E1
  go_wp2_with fail
  refine (A1.out _).mono ?_
  rintro _ w3 ⟨y0, rfl, _, sy0, f3⟩
  have e3 : Ext w2 w3 := (Ext.refl w2).trans f3
  have E3 : Ext w w3 := E2.trans e3
  clear f3 e3 E2
  go_wp2_with fail
  refine (same_al _ (sx0.uniq sy0)).mono ?_
  rintro _ _ ⟨rfl, rfl⟩
  clear sx0 sy0
  go_wp2_with fail
  refine (A2.out _).mono ?_
  rintro _ w4 ⟨x1, rfl, _, sx1, f4⟩
  have e4 : Ext w3 w4 := (Ext.refl w3).trans f4
  have E4 : Ext w w4 := E3.trans e4
  clear f4 e4 E3
  go_wp2_with fail
  refine (A3.out _).mono ?_
  rintro _ w5 ⟨y1, rfl, _, sy1, f5⟩
  have e5 : Ext w4 w5 := (Ext.refl w4).trans f5
  have E5 : Ext w w5 := E4.trans e5
  clear f5 e5 E4
  go_wp2_with fail
  refine (same_al _ (sx1.uniq sy1)).mono ?_
  rintro _ _ ⟨rfl, rfl⟩
  clear sx1 sy1
  go_wp2_with fail
  refine (mulp_any _ a b).mono ?_
  rintro _ w6 ⟨x2, rfl, _, sx2, f6⟩
  have e6 : Ext w5 w6 := (Ext.refl w5).trans f6
  have E6 : Ext w w6 := E5.trans e6
  clear f6 e6 E5
  go_wp2_with fail
  refine (A4.out _).mono ?_
  rintro _ w7 ⟨y2, rfl, _, sy2, f7⟩
  have e7 : Ext w6 w7 := (Ext.refl w6).trans f7
  have E7 : Ext w w7 := E6.trans e7
  clear f7 e7 E6
  go_wp2_with fail
  refine (same_al _ (sx2.uniq sy2)).mono ?_
  rintro _ _ ⟨rfl, rfl⟩
  clear sx2 sy2
  go_wp2_with fail
  refine (rootp_any _ a).mono ?_
  rintro _ w8 ⟨x3, rfl, _, sx3, f8⟩
  have e8 : Ext w7 w8 := (Ext.refl w7).trans f8
  have E8 : Ext w w8 := E7.trans e8
  clear f8 e8 E7
  go_wp2_with fail
  refine (A5.out _).mono ?_
  rintro _ w9 ⟨y3, rfl, _, sy3, f9⟩
  have e9 : Ext w8 w9 := (Ext.refl w8).trans f9
  have E9 : Ext w w9 := E8.trans e9
  clear f9 e9 E8
  go_wp2_with fail
  refine (same_al _ (sx3.uniq sy3)).mono ?_
  rintro _ _ ⟨rfl, rfl⟩
  clear sx3 sy3
  go_wp2_with fail
  refine (A6.out _).mono ?_
  rintro _ w10 ⟨x4, rfl, _, sx4, f10⟩
  have e10 : Ext w9 w10 := (Ext.refl w9).trans f10
  have E10 : Ext w w10 := E9.trans e10
  clear f10 e10 E9
  go_wp2_with fail
  refine (A7.out _).mono ?_
  rintro _ w11 ⟨y4, rfl, _, sy4, f11⟩
  have e11 : Ext w10 w11 := (Ext.refl w10).trans f11
  have E11 : Ext w w11 := E10.trans e11
  clear f11 e11 E10
  go_wp2_with fail
  refine (same_al _ (sx4.uniq sy4)).mono ?_
  rintro _ _ ⟨rfl, rfl⟩
  clear sx4 sy4
  go_wp2
  go_ret
  exact ⟨rfl, E11⟩
theorem walk_OpsTells (w : World) (a : Nat) (ha : a < 18446744073709551616) (b : Nat) (hb : b < 18446744073709551616) (k : Int) (hk : -9223372036854775808 ≤ k ∧ k ≤ 9223372036854775807) : Calls Try.prog 3 #[.float .f64 a, .float .f64 b, .int .i64 k] w (RetE w (.bool true)) := by
  by_cases k1 : k < -5000
  · exact tells4_lo w a ha b hb k hk k1
  · by_cases k2 : 5000 < k
    · exact tells4_hi w a ha b hb k hk k1 k2
    · exact tells4_mid w a ha b hb k hk k1 k2

end Go.Proofs.Ytfghcfeldpcgcaa
