/- The walk of the law NatInt. -/
import Derived.Test.YtafmolljmceadaaL2
namespace Go.Proofs.Ytafmolljmceadaa
open Go.RowKit

set_option maxRecDepth 100000 in
set_option maxHeartbeats 4000000 in
theorem walk_NatInt (w : World) (m : Int) (hm : -9223372036854775808 ≤ m ∧ m ≤ 9223372036854775807) (n : Int) (hn : -9223372036854775808 ≤ n ∧ n ≤ 9223372036854775807) : Calls Try.prog 8 #[.int .i64 m, .int .i64 n] w (RetE w (.bool true)) := by
  obtain ⟨hm0, hm1⟩ := hm
  obtain ⟨hn0, hn1⟩ := hn
  by_cases c1 : m < 0
  · skip
    go_enter Try.func8, Try.ntmps8
    go_wp2_with fail
    refine (head_any w).mono ?_
    rintro e w1 ⟨rfl, e1⟩
    have E1 := e1
    clear e1
    go_wp2_with fail
    refine (of_any w1 m (by omega)).mono ?_
    rintro e w2 ⟨v2, rfl, n2, e2⟩
    have E2 := E1.trans e2
    clear E1
    clear e2
    rw [show m.toNat = 0 by omega] at n2
    go_wp2_with fail
    refine (int_lit w2 v2 0 0 n2 ((lt_int (by omega)).mono (by omega)) (by omega) rfl).mono ?_
    rintro e w' ⟨rfl, rfl⟩
    clear n2
    go_wp2
    go_ret
    exact ⟨rfl, E2⟩
  · by_cases c2 : n < 0 ∨ 1073741824 < m ∨ 1073741824 < n
    · by_cases c3 : m < 4611686018427387904
      · by_cases d1 : n < 0
        · skip
          go_enter Try.func8, Try.ntmps8
          go_wp2_with fail
          refine (head_any w).mono ?_
          rintro e w1 ⟨rfl, e1⟩
          have E1 := e1
          clear e1
          go_wp2_with fail
          refine (of_any w1 m (by omega)).mono ?_
          rintro e w2 ⟨v2, rfl, n2, e2⟩
          have E2 := E1.trans e2
          clear E1
          clear e2
          go_wp2_with fail
          refine (int_lit w2 v2 m.toNat m n2 ((lt_int (by omega)).mono (by omega)) (by omega) (by omega)).mono ?_
          rintro e w' ⟨rfl, rfl⟩
          clear n2
          go_wp2
          go_ret
          exact ⟨rfl, E2⟩
        · by_cases d2 : 1073741824 < m
          · skip
            go_enter Try.func8, Try.ntmps8
            go_wp2_with fail
            refine (head_any w).mono ?_
            rintro e w1 ⟨rfl, e1⟩
            have E1 := e1
            clear e1
            go_wp2_with fail
            refine (of_any w1 m (by omega)).mono ?_
            rintro e w2 ⟨v2, rfl, n2, e2⟩
            have E2 := E1.trans e2
            clear E1
            clear e2
            go_wp2_with fail
            refine (int_lit w2 v2 m.toNat m n2 ((lt_int (by omega)).mono (by omega)) (by omega) (by omega)).mono ?_
            rintro e w' ⟨rfl, rfl⟩
            clear n2
            go_wp2
            go_ret
            exact ⟨rfl, E2⟩
          · have d3 : 1073741824 < n := by omega
            go_enter Try.func8, Try.ntmps8
            go_wp2_with fail
            refine (head_any w).mono ?_
            rintro e w1 ⟨rfl, e1⟩
            have E1 := e1
            clear e1
            go_wp2_with fail
            refine (of_any w1 m (by omega)).mono ?_
            rintro e w2 ⟨v2, rfl, n2, e2⟩
            have E2 := E1.trans e2
            clear E1
            clear e2
            go_wp2_with fail
            refine (int_lit w2 v2 m.toNat m n2 ((lt_int (by omega)).mono (by omega)) (by omega) (by omega)).mono ?_
            rintro e w' ⟨rfl, rfl⟩
            clear n2
            go_wp2
            go_ret
            exact ⟨rfl, E2⟩
      · by_cases d1 : n < 0
        · skip
          go_enter Try.func8, Try.ntmps8
          go_wp2_with fail
          refine (head_any w).mono ?_
          rintro e w1 ⟨rfl, e1⟩
          have E1 := e1
          clear e1
          go_wp2_with fail
          refine (of_any w1 m (by omega)).mono ?_
          rintro e w2 ⟨v2, rfl, n2, e2⟩
          have E2 := E1.trans e2
          clear E1
          clear e2
          go_wp2_with fail
          refine (int_no w2 v2 m.toNat n2 ((lt_int (by omega)).mono (by omega)) (by omega)).mono ?_
          rintro e w' ⟨rfl, rfl⟩
          clear n2
          go_wp2
          go_ret
          exact ⟨rfl, E2⟩
        · have d2 : 1073741824 < m := by omega
          go_enter Try.func8, Try.ntmps8
          go_wp2_with fail
          refine (head_any w).mono ?_
          rintro e w1 ⟨rfl, e1⟩
          have E1 := e1
          clear e1
          go_wp2_with fail
          refine (of_any w1 m (by omega)).mono ?_
          rintro e w2 ⟨v2, rfl, n2, e2⟩
          have E2 := E1.trans e2
          clear E1
          clear e2
          go_wp2_with fail
          refine (int_no w2 v2 m.toNat n2 ((lt_int (by omega)).mono (by omega)) (by omega)).mono ?_
          rintro e w' ⟨rfl, rfl⟩
          clear n2
          go_wp2
          go_ret
          exact ⟨rfl, E2⟩
    · have d0 : ¬ n < 0 := by omega
      have d1 : ¬ 1073741824 < m := by omega
      have d2 : ¬ 1073741824 < n := by omega
      obtain ⟨a, rfl⟩ := Int.eq_ofNat_of_zero_le (show 0 ≤ m by omega)
      obtain ⟨b, rfl⟩ := Int.eq_ofNat_of_zero_le (show 0 ≤ n by omega)
      have la : Lt 3 a := lt_int (by omega)
      have lb : Lt 3 b := lt_int (by omega)
      have hab : a * b ≤ 1152921504606846976 := by have := Nat.mul_le_mul (show a ≤ 1073741824 by omega) (show b ≤ 1073741824 by omega); omega
      have hmul : (a : Int) * (b : Int) = ((a * b : Nat) : Int) := by push_cast; rfl
      have hm1 : (0 : Int) ≤ (a : Int) * (b : Int) := by omega
      have hm2 : (a : Int) * (b : Int) ≤ 1152921504606846976 := by omega
      have HM := Lib.hid hmul
      clear hmul c1 c2
      rcases Nat.lt_trichotomy a b with h | h | h
      · have H := Lib.hid h
        go_enter Try.func8, Try.ntmps8
        go_wp2_with fail
        refine (head_any w).mono ?_
        rintro e w1 ⟨rfl, e1⟩
        have E1 := e1
        clear e1
        go_wp2_with fail
        refine (of_any w1 a (by omega)).mono ?_
        rintro e w2 ⟨v2, rfl, n2, e2⟩
        rw [Int.toNat_natCast] at n2
        have E2 := E1.trans e2
        clear E1
        clear e2
        go_wp2_with fail
        refine (of_any w2 b (by omega)).mono ?_
        rintro e w3 ⟨v3, rfl, n3, e3⟩
        rw [Int.toNat_natCast] at n3
        replace n2 := n2.ext e3
        have E3 := E2.trans e3
        clear E2
        clear e3
        go_wp2_with fail
        refine (add_any w3 v2 v3 a b n2 n3 (la.mono (by omega)) (lb.mono (by omega))).mono ?_
        rintro e w4 ⟨v4, rfl, n4, e4⟩
        replace n2 := n2.ext e4
        replace n3 := n3.ext e4
        have E4 := E3.trans e4
        clear E3
        clear e4
        go_wp2_with fail
        refine (int_lit w4 v4 (a + b) ((a : Int) + (b : Int)) n4 ((la.add lb).mono (by omega)) (by omega) (by omega)).mono ?_
        rintro e w' ⟨rfl, rfl⟩
        clear n4
        go_wp2_with fail
        refine (mul_any w4 v2 v3 a b n2 n3 (la.mono (by omega)) (lb.mono (by omega))).mono ?_
        rintro e w5 ⟨v5, rfl, n5, e5⟩
        replace n2 := n2.ext e5
        replace n3 := n3.ext e5
        have E5 := E4.trans e5
        clear E4
        clear e5
        go_wp2_with fail
        refine (int_lit w5 v5 (a * b) ((a : Int) * (b : Int)) n5 ((la.mul lb).mono (by omega)) (by omega) HM.out.symm).mono ?_
        rintro e w' ⟨rfl, rfl⟩
        clear n5
        go_wp2_with fail
        refine (cmp_lit w5 v2 v3 a b (-1) n2 n3 (cmpI_lt (by have := H.out; omega))).mono ?_
        rintro e w6 ⟨rfl, q6⟩
        have e6 := q6.ext
        replace n2 := n2.ext e6
        replace n3 := n3.ext e6
        have E6 := E5.trans e6
        clear E5
        clear e6 q6
        go_wp2_with fail
        refine (rright_nat w6 v2 a n2 (la.mono (by omega))).mono ?_
        rintro e w' ⟨rfl, rfl⟩
        go_wp2
        go_ret
        exact ⟨rfl, E6⟩
      · have H := Lib.hid h
        have h1 : ¬ (a : Int) < (b : Int) := by omega
        have h2 : ¬ (b : Int) < (a : Int) := by omega
        clear h
        go_enter Try.func8, Try.ntmps8
        go_wp2_with fail
        refine (head_any w).mono ?_
        rintro e w1 ⟨rfl, e1⟩
        have E1 := e1
        clear e1
        go_wp2_with fail
        refine (of_any w1 a (by omega)).mono ?_
        rintro e w2 ⟨v2, rfl, n2, e2⟩
        rw [Int.toNat_natCast] at n2
        have E2 := E1.trans e2
        clear E1
        clear e2
        go_wp2_with fail
        refine (of_any w2 b (by omega)).mono ?_
        rintro e w3 ⟨v3, rfl, n3, e3⟩
        rw [Int.toNat_natCast] at n3
        replace n2 := n2.ext e3
        have E3 := E2.trans e3
        clear E2
        clear e3
        go_wp2_with fail
        refine (add_any w3 v2 v3 a b n2 n3 (la.mono (by omega)) (lb.mono (by omega))).mono ?_
        rintro e w4 ⟨v4, rfl, n4, e4⟩
        replace n2 := n2.ext e4
        replace n3 := n3.ext e4
        have E4 := E3.trans e4
        clear E3
        clear e4
        go_wp2_with fail
        refine (int_lit w4 v4 (a + b) ((a : Int) + (b : Int)) n4 ((la.add lb).mono (by omega)) (by omega) (by omega)).mono ?_
        rintro e w' ⟨rfl, rfl⟩
        clear n4
        go_wp2_with fail
        refine (mul_any w4 v2 v3 a b n2 n3 (la.mono (by omega)) (lb.mono (by omega))).mono ?_
        rintro e w5 ⟨v5, rfl, n5, e5⟩
        replace n2 := n2.ext e5
        replace n3 := n3.ext e5
        have E5 := E4.trans e5
        clear E4
        clear e5
        go_wp2_with fail
        refine (int_lit w5 v5 (a * b) ((a : Int) * (b : Int)) n5 ((la.mul lb).mono (by omega)) (by omega) HM.out.symm).mono ?_
        rintro e w' ⟨rfl, rfl⟩
        clear n5
        go_wp2_with fail
        refine (cmp_lit w5 v2 v3 a b (0) n2 n3 (cmpI_eq (by have := H.out; omega))).mono ?_
        rintro e w6 ⟨rfl, q6⟩
        have e6 := q6.ext
        replace n2 := n2.ext e6
        replace n3 := n3.ext e6
        have E6 := E5.trans e6
        clear E5
        clear e6 q6
        go_wp2_with fail
        refine (rright_nat w6 v2 a n2 (la.mono (by omega))).mono ?_
        rintro e w' ⟨rfl, rfl⟩
        go_wp2
        go_ret
        exact ⟨rfl, E6⟩
      · have H := Lib.hid h
        go_enter Try.func8, Try.ntmps8
        go_wp2_with fail
        refine (head_any w).mono ?_
        rintro e w1 ⟨rfl, e1⟩
        have E1 := e1
        clear e1
        go_wp2_with fail
        refine (of_any w1 a (by omega)).mono ?_
        rintro e w2 ⟨v2, rfl, n2, e2⟩
        rw [Int.toNat_natCast] at n2
        have E2 := E1.trans e2
        clear E1
        clear e2
        go_wp2_with fail
        refine (of_any w2 b (by omega)).mono ?_
        rintro e w3 ⟨v3, rfl, n3, e3⟩
        rw [Int.toNat_natCast] at n3
        replace n2 := n2.ext e3
        have E3 := E2.trans e3
        clear E2
        clear e3
        go_wp2_with fail
        refine (add_any w3 v2 v3 a b n2 n3 (la.mono (by omega)) (lb.mono (by omega))).mono ?_
        rintro e w4 ⟨v4, rfl, n4, e4⟩
        replace n2 := n2.ext e4
        replace n3 := n3.ext e4
        have E4 := E3.trans e4
        clear E3
        clear e4
        go_wp2_with fail
        refine (int_lit w4 v4 (a + b) ((a : Int) + (b : Int)) n4 ((la.add lb).mono (by omega)) (by omega) (by omega)).mono ?_
        rintro e w' ⟨rfl, rfl⟩
        clear n4
        go_wp2_with fail
        refine (mul_any w4 v2 v3 a b n2 n3 (la.mono (by omega)) (lb.mono (by omega))).mono ?_
        rintro e w5 ⟨v5, rfl, n5, e5⟩
        replace n2 := n2.ext e5
        replace n3 := n3.ext e5
        have E5 := E4.trans e5
        clear E4
        clear e5
        go_wp2_with fail
        refine (int_lit w5 v5 (a * b) ((a : Int) * (b : Int)) n5 ((la.mul lb).mono (by omega)) (by omega) HM.out.symm).mono ?_
        rintro e w' ⟨rfl, rfl⟩
        clear n5
        go_wp2_with fail
        refine (cmp_lit w5 v2 v3 a b (1) n2 n3 (cmpI_gt (by have := H.out; omega))).mono ?_
        rintro e w6 ⟨rfl, q6⟩
        have e6 := q6.ext
        replace n2 := n2.ext e6
        replace n3 := n3.ext e6
        have E6 := E5.trans e6
        clear E5
        clear e6 q6
        go_wp2_with fail
        refine (rright_nat w6 v2 a n2 (la.mono (by omega))).mono ?_
        rintro e w' ⟨rfl, rfl⟩
        go_wp2
        go_ret
        exact ⟨rfl, E6⟩

end Go.Proofs.Ytafmolljmceadaa
