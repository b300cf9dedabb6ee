/- What the laws on circ ask first: is an angle good, how many bits. -/
import Derived.Test.YtomdbmjfehoodaaGreatDoorLM
import Derived.Test.YtomdbmjfehoodaaGreatDoorTL
import Derived.LoopN
set_option maxRecDepth 8000
namespace Go.Proofs.YtomdbmjfehoodaaGreatDoor
open Go.RowKit
set_option linter.unusedVariables false
/-- Is an angle right, and not too fine? -/
def goodT (K Q : Int) : Bool := rightT K Q && decide (Q ≤ 14)
theorem goodT_iff {K Q : Int} : goodT K Q = true ↔ (0 ≤ Q ∧ Q ≤ 14) ∧ -1099511627776 ≤ K ∧ K ≤ 1099511627776 := by
  unfold goodT
  rw [Bool.and_eq_true, rightT_iff, decide_eq_true_eq]
  omega
theorem rright_lit (w : World) (K Q : Int) (r : Bool) (hr : rightT K Q = r) (hK : -9223372036854775808 ≤ K ∧ K ≤ 9223372036854775807) (hQ : -9223372036854775808 ≤ Q ∧ Q ≤ 9223372036854775807) : Calls Tryz.prog 40 #[.agg #[.int .i64 K, .int .i64 Q]] w (RetE w (.bool r)) := by
  subst hr; exact rrightT_any w K Q hK hQ
set_option maxRecDepth 8000 in
set_option maxHeartbeats 2000000 in
theorem good1_any (w : World) (g : Nat) (K Q : Int) (r : Bool) (hr : goodT K Q = r) (hK : -9223372036854775808 ≤ K ∧ K ≤ 9223372036854775807) (hQ : -9223372036854775808 ≤ Q ∧ Q ≤ 9223372036854775807) (B : B2 w g (.int .i64 K) (.int .i64 Q)) :
    Calls Tryz.prog 10 #[.slice (some ⟨g, 0, none⟩) 1 1] w (RetE w (.bool r)) := by
  unfold goodT at hr
  obtain ⟨c0, c1⟩ := id B
  have hlt := World.block_lt_of_cell? _ _ c0
  cases hp : rightT K Q with
  | false =>
    rw [hp, Bool.false_and] at hr
    subst hr
    have HR := Lib.hid (fun w' => rright_lit w' K Q false hp hK hQ)
    clear hp hK hQ
    go_enter Tryz.func10, Tryz.ntmps10
    go_wp2
    refine wp_loop_rounds 3 ?_
    rw [rounds_succ]
    go_wp2_with fail
    refine (HR.out _).mono ?_
    rintro _ w1 ⟨rfl, e1⟩
    go_wp2
    go_ret
    exact ⟨rfl, e1⟩
  | true =>
    rw [hp, Bool.true_and] at hr
    have HR := Lib.hid (fun w' => rright_lit w' K Q true hp hK hQ)
    clear hp hK hQ
    go_enter Tryz.func10, Tryz.ntmps10
    go_wp2
    refine wp_loop_rounds 3 ?_
    rw [rounds_succ]
    go_wp2_with fail
    refine (HR.out _).mono ?_
    rintro _ w1 ⟨rfl, e1⟩
    replace B := B.ext e1
    clear c0 c1
    obtain ⟨c0, c1⟩ := id B
    by_cases h14 : Q ≤ 14
    · have h14' : ¬ 14 < Q := by omega
      rw [decide_eq_true h14] at hr
      subst hr
      go_wp2
      rw [rounds_succ]
      go_wp2
      go_ret
      exact ⟨rfl, e1⟩
    · have h14' : 14 < Q := by omega
      rw [decide_eq_false h14] at hr
      subst hr
      go_wp2
      go_ret
      exact ⟨rfl, e1⟩
set_option maxRecDepth 8000 in
theorem bits_any (w : World) (n j : Int) (hn : 0 ≤ n ∧ n ≤ 255) (hj : n % 70 + 1 = j) : Calls Tryz.prog 12 #[.int .u8 n] w (RetE w (.int .i64 j)) := by
  have h1 : n.tmod 70 = n % 70 := Int.tmod_eq_emod_of_nonneg hn.1
  have h2 : IntKind.i64.wrap n = n := IntWalk.i64_in _ (by omega)
  have h3 : wrap64 n = n := by unfold wrap64; omega
  have h4 : wrap64 (n % 70 + 1) = j := by unfold wrap64; omega
  have h5 : wrap64 (n % 70) = n % 70 := by unfold wrap64; omega
  go_enter Tryz.func12, Tryz.ntmps12
  go_wp2
  go_ret
  refine ⟨?_, Ext.refl w⟩
  simp
/-- An angle that is a multiple of a part of 2^14 has no finer form. -/
theorem fm_fine {v k : Int} {q : Nat} (h : Fm v k q) (hv : v % 67108864 = 0) : q ≤ 14 := by
  rcases h.out with ⟨_, _, rfl⟩ | ⟨o1, o2, o3, o4, o5⟩
  · omega
  · rcases Nat.lt_or_ge 14 q with g | g
    · exfalso
      obtain ⟨d, hd⟩ := Int.dvd_of_emod_eq_zero hv
      have e : (67108864 : Int) = 2 ^ (40 - q) * 2 ^ (q - 14) := by rw [← p2_add, show 40 - q + (q - 14) = 26 by omega]; decide
      rw [o5, e, Int.mul_comm k, Int.mul_assoc] at hd
      have := Int.eq_of_mul_eq_mul_left (Int.ne_of_gt (p2_pos (40 - q))) hd
      obtain ⟨t, ht⟩ : ∃ t, q - 14 = t + 1 := ⟨q - 15, by omega⟩
      rw [ht, Int.pow_succ, Int.mul_comm (2 ^ t), Int.mul_assoc] at this
      omega
    · exact g
theorem tv_fine {K : Int} {Q : Nat} (h : Q ≤ 14) : tv K Q % 67108864 = 0 := by
  unfold tv
  have e : (2 : Int) ^ (40 - Q) = 67108864 * 2 ^ (14 - Q) := by rw [show (67108864 : Int) = 2 ^ 26 by decide, ← p2_add]; congr 1; omega
  rw [e, show K * (67108864 * 2 ^ (14 - Q)) = 67108864 * (K * 2 ^ (14 - Q)) by grind]
  generalize K * 2 ^ (14 - Q) = X
  omega
theorem fm_good {v : Int} (h0 : 0 ≤ v) (h1 : v < 1099511627776) (hv : v % 67108864 = 0) : ∃ k q, Fm v k q ∧ q ≤ 14 := by
  obtain ⟨k, q, h⟩ := fm_there h0 h1
  exact ⟨k, q, h, fm_fine h hv⟩
/-- A quarter back, the cosine is the sine. -/
theorem cv_back (v : Int) : (cv ((v - 274877906944) % 1099511627776)).1 = (cv v).2 := by
  have e : cv ((v - 274877906944) % 1099511627776) = cm (cv v) (cv (-274877906944)) := by
    rw [← cv_add]
    apply cv_mod
    omega
  rw [e, cv_neg, cv_quarter]
  unfold cm conj
  simp
  grind
/-- Sines of good angles. -/
theorem csin_good (w : World) (K : Int) (Q n : Nat) (j : Int) (l h : Dyadic) (hj : j = (n : Int)) (hl : tlo n (cv (tv K Q)).2 = l) (hh : thi n (cv (tv K Q)).2 = h) (hK : -1099511627776 ≤ K ∧ K ≤ 1099511627776) (hQ : Q ≤ 14) (hn1 : 1 ≤ n) (hn110 : n ≤ 110) (T : Tb w) (P : Pl w) :
    Calls Tryz.prog 16 #[.agg #[.int .i64 K, .int .i64 (Q : Int)], .int .i64 j] w (RetI w l h) := by
  have h0 := tv_fine (K := K) hQ
  have hr := tv_range K Q
  obtain ⟨k, q, hfm, hq⟩ := fm_good (v := (tv K Q - 274877906944) % 1099511627776) (by omega) (by omega) (by omega)
  rw [← cv_back] at hl hh
  exact csin_lit w K Q j k _ Q q n l h rfl hj hl hh hK (by omega) rfl hfm hq hn1 hn110 T P
theorem ccos_good (w : World) (K : Int) (Q n : Nat) (j : Int) (l h : Dyadic) (hj : j = (n : Int)) (hl : tlo n (cv (tv K Q)).1 = l) (hh : thi n (cv (tv K Q)).1 = h) (hK : -1099511627776 ≤ K ∧ K ≤ 1099511627776) (hQ : Q ≤ 14) (hn1 : 1 ≤ n) (hn110 : n ≤ 110) (T : Tb w) (P : Pl w) :
    Calls Tryz.prog 14 #[.agg #[.int .i64 K, .int .i64 (Q : Int)], .int .i64 j] w (RetI w l h) := by
  have h0 := tv_fine (K := K) hQ
  have hr := tv_range K Q
  obtain ⟨k, q, hfm, hq⟩ := fm_good (v := tv K Q) (by omega) (by omega) (by omega)
  exact ccos_lit w K Q j k _ Q q n l h rfl hj hl hh hK (by omega) rfl hfm hq hn1 hn110 T P
/-- How many limbs a number's natural has. -/
theorem dn_limbs {w : World} {b : Bool} {A : Option Addr} {l c : Nat} {e : Int} {d : Dyadic} {P Q : Nat} (h : Dn w (.agg #[.bool b, .slice A l c, .int .i64 e]) d) (r : Rg P Q d) (hb : P + Q ≤ 216) : l ≤ 9 := by
  obtain ⟨M, z, e', hv, hN, hc, rfl⟩ := h
  simp only [Value.agg.injEq, Array.mk.injEq, List.cons.injEq, Value.int.injEq, and_true] at hv
  obtain ⟨_, rfl, _⟩ := hv
  obtain ⟨b1, b2, b3⟩ := r.canon hc
  obtain ⟨xs, ⟨A', c', hv', _⟩, nf, ev⟩ := hN
  simp only [Value.slice.injEq] at hv'
  obtain ⟨_, rfl, _⟩ := hv'
  exact N.len (k := 9) (Lt.of_bits (Nat.le_trans (bl_of_lt b3) (by omega))) nf ev
theorem riright_lit (w : World) (va : Value) (l h : Dyadic) (P Q : Nat) (r : Bool) (hr : decide (l ≤ h) = r) (ha : In w va l h) (r1 : Rg P Q l) (r2 : Rg P Q h) (hp : P + Q ≤ 1440) : Calls Tryz.prog 21 #[va] w (RetE w (.bool r)) := by
  subst hr; exact riright_any w va l h P Q ha r1 r2 hp
theorem rhas_lit7 (w : World) (va vb : Value) (l h x : Dyadic) (P Q : Nat) (r : Bool) (hr : hasB l h x = r) (ha : In w va l h) (hb : Dn w vb x) (r1 : Rg P Q l) (r2 : Rg P Q h) (r3 : Rg P Q x) (hp : P + Q ≤ 7200) : Calls Tryz.prog 29 #[va, vb] w (RetE w (.bool r)) := by
  subst hr; exact rhas_any w va vb l h x P Q ha hb r1 r2 r3 hp
theorem has_of {l h x : Dyadic} (h1 : l ≤ x) (h2 : x ≤ h) : hasB l h x = true := by
  unfold hasB


  simp [h1, h2]
theorem rg_min4 {P Q : Nat} {a b c d : Dyadic} (h1 : Rg P Q a) (h2 : Rg P Q b) (h3 : Rg P Q c) (h4 : Rg P Q d) : Rg P Q (min4 a b c d) ∧ Rg P Q (max4 a b c d) :=
  ⟨rg_dmin (rg_dmin (rg_dmin h1 h2) h3) h4, rg_dmax (rg_dmax (rg_dmax h1 h2) h3) h4⟩
theorem rg_mul4 {P Q P' Q' : Nat} {a b c d : Dyadic} (h1 : Rg P Q a) (h2 : Rg P Q b) (h3 : Rg P' Q' c) (h4 : Rg P' Q' d) : Rg (P + P') (Q + Q') (mlo a b c d) ∧ Rg (P + P') (Q + Q') (mhi a b c d) :=
  rg_min4 (h1.mul h3) (h1.mul h4) (h2.mul h3) (h2.mul h4)
end Go.Proofs.YtomdbmjfehoodaaGreatDoor
