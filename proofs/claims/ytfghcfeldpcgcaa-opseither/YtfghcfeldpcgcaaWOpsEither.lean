/- The walk of law OpsEither. -/
import Derived.Test.YtfghcfeldpcgcaaO6
namespace Go.Proofs.Ytfghcfeldpcgcaa
open Go.RowKit
set_option linter.unusedVariables false

theorem same_al (w : World) {a b : Nat} (h : Al a b) : Calls Try.prog 10 #[.float .f64 a, .float .f64 b] w fun e w' => e = .returned (.bool true) ∧ w = w' := by
  have := rsameF_any w a b
  rwa [h.same] at this
theorem fin0 : Fin64 0 := ⟨by decide⟩
theorem val0 : fval 0 = 0 := by decide +kernel
theorem addS_zero {a c : Nat} (ha : a < 18446744073709551616) (h : AddS a 0 c) : Al c a := by
  cases h with
  | nanl h n => exact n.al h
  | nanr h n => exact (h.not fin0.num).elim
  | apart _ h _ _ => exact (h.not fin0).elim
  | infl _ _ _ h => exact h
  | infr _ h _ => exact (h.not fin0).elim
  | fin h _ n => rw [val0, show fval a + 0 = fval a by grind] at n; exact Al.of_rn n (Rn.self h ha)
theorem fin1 : Fin64 4607182418800017408 := ⟨by decide⟩
theorem val1 : fval 4607182418800017408 = 1 := by decide +kernel
theorem key1 : fkey 4607182418800017408 = 4607182418800017408 := by decide
theorem mulS_one {a c : Nat} (ha : a < 18446744073709551616) (h : MulS a 4607182418800017408 c) : Al c a := by
  cases h with
  | nanl h n => exact n.al h
  | nanr h n => exact (h.not fin1.num).elim
  | zerl _ _ h _ => exact (h.not fin1).elim
  | zerr _ _ h _ => exact absurd h (by decide)
  | inf h1 h2 h3 h4 h5 h6 h7 =>
    rcases h3 with h3 | h3
    · refine .num h6 h1 ?_
      rw [h7, key1, h3.key]
      cases fneg a <;> simp
    · exact (h3.not fin1).elim
  | fin h _ n => rw [val1, show fval a * 1 = fval a by grind] at n; exact Al.of_rn n (Rn.self h ha)
theorem finm : Fin64 13830554455654793216 := ⟨by decide⟩
theorem valm : fval 13830554455654793216 = -1 := by decide +kernel
theorem keym : fkey 13830554455654793216 = -4607182418800017408 := by decide
/-- b is the opposite of a. -/
structure Opp (a b : Nat) : Prop where
  lt : b < 18446744073709551616
  rung : frung b = frung a
  neg : fneg b = !fneg a
theorem Opp.key {a b : Nat} (h : Opp a b) : fkey b = -fkey a := opp_key h.rung h.neg
theorem Opp.nan {a b : Nat} (h : Opp a b) (k : Nan64 a) : Nan64 b := ⟨by rw [h.rung]; exact k.out⟩
theorem Opp.num {a b : Nat} (h : Opp a b) (k : Num64 a) : Num64 b := ⟨by rw [h.rung]; exact k.out⟩
theorem Opp.fin {a b : Nat} (h : Opp a b) (k : Fin64 a) : Fin64 b := ⟨by rw [h.rung]; exact k.out⟩
theorem Opp.val {a b : Nat} (h : Opp a b) : fval b = -fval a := by rw [fval_key, fval_key, h.key, kval_neg]
theorem Opp.al {a b c : Nat} (h : Opp a b) (k : Opp a c) : Al b c := by
  rcases nan_or_num a with n | n
  · exact (h.nan n).al (k.nan n)
  · exact .num (h.num n) (k.num n) (by rw [h.key, k.key])
theorem mulS_neg {a b c : Nat} (ho : Opp a b) (h : MulS a 13830554455654793216 c) : Al c b := by
  cases h with
  | nanl h n => exact n.al (ho.nan h)
  | nanr h n => exact (h.not finm.num).elim
  | zerl _ _ h _ => exact (h.not finm).elim
  | zerr _ _ h _ => exact absurd h (by decide)
  | inf h1 h2 h3 h4 h5 h6 h7 =>
    rcases h3 with h3 | h3
    · refine .num h6 (ho.num h1) ?_
      rw [h7, keym, ho.key, h3.key]
      cases fneg a <;> simp
    · exact (h3.not finm).elim
  | fin h _ n =>
    rw [valm, show fval a * -1 = -fval a by grind, ← ho.val] at n
    exact Al.of_rn n (Rn.self (ho.fin h) ho.lt)
theorem fin2 : Fin64 4611686018427387904 := ⟨by decide⟩
theorem val2 : fval 4611686018427387904 = 2 := by decide +kernel
theorem key2 : fkey 4611686018427387904 = 4611686018427387904 := by decide
theorem twice {a c d : Nat} (h : AddS a a c) (k : MulS a 4611686018427387904 d) : Al c d := by
  cases k with
  | nanl k m => cases h with
    | nanl _ n => exact n.al m
    | nanr _ n => exact n.al m
    | apart h _ _ _ => exact (k.not h.num).elim
    | infl h _ _ _ => exact (k.not h.num).elim
    | infr h _ _ => exact (k.not h.num).elim
    | fin h _ _ => exact (k.not h.num).elim
  | nanr k m => exact (k.not fin2.num).elim
  | zerl _ _ k _ => exact (k.not fin2).elim
  | zerr _ _ k _ => exact absurd k (by decide)
  | inf h1 h2 h3 h4 h5 h6 h7 =>
    rcases h3 with h3 | h3
    · have hd : Al d a := by
        refine .num h6 h1 ?_
        rw [h7, key2, h3.key]
        cases fneg a <;> simp
      cases h with
      | nanl h _ => exact (h.not h1).elim
      | nanr h _ => exact (h.not h1).elim
      | apart _ _ h _ => exact (h rfl).elim
      | infl _ _ _ n => exact n.trans hd.symm
      | infr h _ _ => exact (h3.not h).elim
      | fin h _ _ => exact (h3.not h).elim
    · exact (h3.not fin2).elim
  | fin k _ m => cases h with
    | nanl h _ => exact (h.not k.num).elim
    | nanr h _ => exact (h.not k.num).elim
    | apart h _ _ _ => exact (h.not k).elim
    | infl h _ _ _ => exact (h.not k).elim
    | infr _ h _ => exact (h.not k).elim
    | fin _ _ n => rw [val2, show fval a * 2 = fval a + fval a by grind] at m; exact Al.of_rn n m
theorem SubS.al {a b b' c d : Nat} (ho : Opp b b') (h : SubS a b c) (k : AddS a b' d) : Al c d := by
  obtain ⟨b'', h1, h2, h3⟩ := h
  have : Al b'' b' := by
    rcases nan_or_num b with n | n
    · exact Nan64.al ⟨by rw [h1]; exact n.out⟩ (ho.nan n)
    · exact .num ⟨by rw [h1]; exact n.out⟩ (ho.num n) (by rw [opp_key h1 h2, ho.key])
  exact (h3.move (Al.refl _) this).uniq k

set_option maxRecDepth 10000 in
set_option maxHeartbeats 2000000 in
theorem walk_OpsEither (w : World) (a : Nat) (ha : a < 18446744073709551616) (b : Nat) (hb : b < 18446744073709551616) : Calls Try.prog 4 #[.float .f64 a, .float .f64 b] w (RetE w (.bool true)) := by
  obtain ⟨a', ua, ra, na, la⟩ := opp_word a ha
  obtain ⟨b', ub, rb, nb, lb⟩ := opp_word b hb
  have OA := Lib.hid (Opp.mk la ra na)
  have OB := Lib.hid (Opp.mk lb rb nb)
  have HS := Lib.hid (fun w' => subp_any w' a b hb)
  have HA := Lib.hid ha
  clear ra na la rb nb lb ha hb
  go_enter Try.func4, Try.ntmps4
  go_wp2_with fail
  refine (headO_any _).mono ?_
  rintro _ w1 ⟨rfl, e1⟩
  go_wp2_with fail
  refine (addp_any _ a b).mono ?_
  rintro _ w2 ⟨c2, rfl, l2, s2, e2⟩
  go_wp2_with fail
  refine (addp_any _ b a).mono ?_
  rintro _ w3 ⟨c3, rfl, l3, s3, e3⟩
  go_wp2_with fail
  refine (same_al _ (s2.swap.uniq s3)).mono ?_
  rintro _ _ ⟨rfl, rfl⟩
  replace e3 := (e1.trans e2).trans e3
  clear e1 e2 s2 s3 l2 l3
  go_wp2_with fail
  refine (mulp_any _ a b).mono ?_
  rintro _ w4 ⟨c4, rfl, l4, s4, e4⟩
  go_wp2_with fail
  refine (mulp_any _ b a).mono ?_
  rintro _ w5 ⟨c5, rfl, l5, s5, e5⟩
  go_wp2_with fail
  refine (same_al _ (s4.swap.uniq s5)).mono ?_
  rintro _ _ ⟨rfl, rfl⟩
  replace e5 := (e3.trans e4).trans e5
  clear e3 e4 s4 s5 l4 l5
  go_wp2_with fail
  refine (HS.out _).mono ?_
  rintro _ w6 ⟨c6, rfl, l6, s6, e6⟩
  go_wp2_with fail
  refine (addp_any _ a b').mono ?_
  rintro _ w7 ⟨c7, rfl, l7, s7, e7⟩
  go_wp2_with fail
  refine (same_al _ (s6.al OB.out s7)).mono ?_
  rintro _ _ ⟨rfl, rfl⟩
  replace e7 := (e5.trans e6).trans e7
  clear e5 e6 s6 s7 l6 l7
  go_wp2_with fail
  refine (addp_any _ a 0).mono ?_
  rintro _ w8 ⟨c8, rfl, l8, s8, e8⟩
  go_wp2_with fail
  refine (same_al _ (addS_zero HA.out s8)).mono ?_
  rintro _ _ ⟨rfl, rfl⟩
  go_wp2_with fail
  refine (mulp_any _ a _).mono ?_
  rintro _ w9 ⟨c9, rfl, l9, s9, e9⟩
  go_wp2_with fail
  refine (same_al _ (mulS_one HA.out s9)).mono ?_
  rintro _ _ ⟨rfl, rfl⟩
  replace e9 := (e7.trans e8).trans e9
  clear e7 e8 s8 s9 l8 l9
  go_wp2_with fail
  refine (mulp_any _ a _).mono ?_
  rintro _ w10 ⟨c10, rfl, l10, s10, e10⟩
  go_wp2_with fail
  refine (same_al _ (mulS_neg OA.out s10)).mono ?_
  rintro _ _ ⟨rfl, rfl⟩
  go_wp2_with fail
  refine (addp_any _ a a).mono ?_
  rintro _ w11 ⟨c11, rfl, l11, s11, e11⟩
  go_wp2_with fail
  refine (mulp_any _ a _).mono ?_
  rintro _ w12 ⟨c12, rfl, l12, s12, e12⟩
  go_wp2_with fail
  refine (same_al _ (twice s11 s12)).mono ?_
  rintro _ _ ⟨rfl, rfl⟩
  go_wp2
  go_ret
  exact ⟨rfl, ((e9.trans e10).trans e11).trans e12⟩

end Go.Proofs.Ytfghcfeldpcgcaa
