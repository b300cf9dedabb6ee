/- Walks: guess, firstLimb, nextLimb, Root. -/
import Derived.Test.YtafmolljmceadaaW7
namespace Go.Proofs.Ytafmolljmceadaa
open Go.RowKit

/-- It returned v, and no old memory has turned. -/
def RetE (w : World) (v : Value) (e : Ending) (w' : World) : Prop := e = .returned v ∧ Ext w w'

theorem guess_word {X Y : Nat} (h : X < 4611686018427387904) : min (wrap64 ((X : Int) / (Y : Int))) 16777215 = ((min (X / Y) 16777215 : Nat) : Int) := by
  have e : (X : Int) / (Y : Int) = ((X / Y : Nat) : Int) := by rw [Int.natCast_ediv]
  have : X / Y ≤ X := Nat.div_le_self _ _
  rw [e]
  generalize X / Y = z at *
  unfold wrap64
  omega

set_option maxHeartbeats 1000000 in
theorem guess_any (w : World) (vl vd : Value) (L D d : Nat) (hl : N w vl L) (hd : N w vd D) (ll : Lt 400 L) (ld : Lt 400 D) (ed : d = bl D - 36)
    (h1 : L / 2 ^ d < 4611686018427387904) (h2 : D / 2 ^ d < 4611686018427387904) (h3 : 0 < D / 2 ^ d) :
    Calls Try.prog 54 #[vl, vd] w (RetE w (.int .i64 ((min (L / 2 ^ d / (D / 2 ^ d)) 16777215 : Nat) : Int))) := by
  have hb : bl D ≤ 9600 := ld.bits
  have em : max ((bl D : Int) - 36) 0 = (d : Int) := by omega
  have EM := Lib.hid em
  have HLen := Lib.hid (len_any w vd D hd ld)
  have hd9 : d ≤ 9600 := by omega
  have l1 : Lt 400 (L / 2 ^ d) := ll.of_le (Nat.div_le_self _ _)
  have l2 : Lt 400 (D / 2 ^ d) := ld.of_le (Nat.div_le_self _ _)
  generalize hX : L / 2 ^ d = X at *
  generalize hY : D / 2 ^ d = Y at *
  have HX := Lib.hid hX
  have HY := Lib.hid hY
  clear em hX hY ed
  go_enter Try.func54, Try.ntmps54
  go_wp2_with fail
  refine HLen.out.mono ?_
  rintro e w' ⟨rfl, rfl⟩
  go_wp2_with fail
  rw [EM.out]
  refine (shr_nat w vl L d (by omega) hl ll).mono ?_
  rintro e w1 ⟨v1, rfl, n1, e1⟩
  rw [HX.out] at n1
  go_wp2_with fail
  refine (int_yes w1 v1 X n1 l1 h1).mono ?_
  rintro e w' ⟨rfl, rfl⟩
  go_wp2_with fail
  refine (shr_nat w1 vd D d (by omega) (hd.ext e1) ld).mono ?_
  rintro e w2 ⟨v2, rfl, n2, e2⟩
  rw [HY.out] at n2
  go_wp2_with fail
  refine (int_yes w2 v2 Y n2 l2 h2).mono ?_
  rintro e w' ⟨rfl, rfl⟩
  go_wp2
  go_ret
  refine ⟨ret_int ?_, e1.trans e2⟩
  exact guess_word h1

/-- It returned the naturals r and s, in new memory. -/
def RetNN (w : World) (r s : Nat) (e : Ending) (w' : World) : Prop := ∃ v1 v2, e = .returned (.tuple #[v1, v2]) ∧ N w' v1 r ∧ N w' v2 s ∧ Ext w w'

def FirstPost (w : World) (n : Nat) (e : Ending) (w' : World) : Prop := ∃ r, Sq n r ∧ RetNN w r (n - r * r) e w'

set_option maxHeartbeats 1000000 in
theorem first_any (w : World) (n : Nat) (h1 : n < 281474976710656) (h0 : 0 < n) : Calls Try.prog 48 #[.int .i64 n] w (FirstPost w n) := by
  have hN : Calls Try.prog 48 #[.int .i64 n] w (FirstPost w n) := by
    go_enter Try.func48, Try.ntmps48
    go_wp2
    go_loop [4, 5] (fun root next => ∃ r q : Nat, 0 < r ∧ r ≤ 16777216 ∧ root = .int .i64 r ∧ next = .int .i64 (((r : Int) + q) / 2) ∧ Hid (q = n / r) ∧ Hid (∀ k, k * k ≤ n → k ≤ r)) (fun root _ => (intOf root).toNat)
    case atStart =>
      refine ⟨16777216, n / 16777216, by omega, by omega, rfl, by go_num, rfl, fun k hk => ?_⟩
      rcases Nat.lt_or_ge 16777216 k with e | e
      · have := Nat.mul_le_mul (show 16777217 ≤ k from e) (show 16777217 ≤ k from e); omega
      · exact e
    case round =>
      obtain ⟨r, q, hr0, hr1, rfl, rfl, hq, hk⟩ := hrel
      have hqn : q ≤ n := by rw [hq.out]; exact Nat.div_le_self _ _
      by_cases hlt : (r + q) / 2 < r
      · have hlt' : ((r : Int) + q) / 2 < (r : Int) := by omega
        obtain ⟨r', hr'⟩ : ∃ r', r' = (r + q) / 2 := ⟨_, rfl⟩
        have ern : ((r : Int) + q) / 2 = (r' : Int) := by omega
        have hr0' : 0 < r' := by
          have := newton_ge (n := n) (r := r) 1 hr0 (by omega)
          rw [← hq.out] at this; omega
        have hlr : r' < r := by omega
        have hk' : ∀ k, k * k ≤ n → k ≤ r' := fun k hkk => by
          have := newton_ge (n := n) (r := r) k hr0 hkk
          rw [← hq.out] at this; omega
        have hdiv : (n : Int) / (r' : Int) = ((n / r' : Nat) : Int) := by rw [Int.natCast_ediv]
        obtain ⟨q', hq'⟩ : ∃ q', q' = n / r' := ⟨_, rfl⟩
        rw [← hq'] at hdiv
        have hqn' : q' ≤ n := by rw [hq']; exact Nat.div_le_self _ _
        have HQ := Lib.hid hq'
        have HK := Lib.hid hk'
        rw [ern]
        clear hq' hk' hr' ern hlt hlt'
        have hlt2 : (r' : Int) < (r : Int) := by omega
        go_wp2
        go_round
        case rel => exact ⟨r', q', hr0', by omega, rfl, rfl, HQ.out, HK.out⟩
        case measure => simp [intOf]; omega
      · have hsq : r * r ≤ n := newton_stop hr0 (by rw [← hq.out]; omega)
        have hs : Sq n r := ⟨hsq, by
          rcases Nat.lt_or_ge n ((r + 1) * (r + 1)) with e | e
          · exact e
          · have := hk.out (r + 1) e; omega⟩
        have HS := Lib.hid hs
        have b1 : (0 : Int) ≤ (r : Int) * (r : Int) := Int.mul_nonneg (by omega) (by omega)
        have b2 : (r : Int) * (r : Int) ≤ (n : Int) := by exact_mod_cast hsq
        have hge : ¬ ((r : Int) + q) / 2 < (r : Int) := by omega
        clear hs hsq
        go_wp2_with fail
        refine (of_any w r (by omega)).mono ?_
        rintro e w1 ⟨v1, rfl, n1, e1⟩
        rw [Int.toNat_natCast] at n1
        go_wp2_with fail
        refine (of_any w1 _ (by omega)).mono ?_
        rintro e w2 ⟨v2, rfl, n2, e2⟩
        go_wp2
        go_ret2
        refine ⟨r, HS.out, _, _, rfl, n1.ext e2, ?_, e1.trans e2⟩
        have en : ((n : Int) - (r : Int) * (r : Int)).toNat = n - r * r := by
          have : (r : Int) * (r : Int) = ((r * r : Nat) : Int) := by push_cast; rfl
          omega
        rw [← en]; exact n2
  exact hN

/-- What 'nextLimb' leaves. -/
def NextPost (w : World) (r s h l : Nat) (e : Ending) (w' : World) : Prop :=
  ∃ q, Fit r (s * 281474976710656 + h * 16777216 + l) q ∧ ¬ Fit r (s * 281474976710656 + h * 16777216 + l) (q + 1) ∧
    RetNN w (r * 16777216 + q) (s * 281474976710656 + h * 16777216 + l - (2 * r * 16777216 + q) * q) e w'

set_option maxHeartbeats 1000000 in
theorem next_any (w : World) (vr vs : Value) (r s h l : Nat) (hr : N w vr r) (hs : N w vs s) (h0 : h < 16777216) (l0 : l < 16777216) (r0 : 0 < r) (s0 : s ≤ 2 * r) (lr : Lt 160 r) :
    Calls Try.prog 49 #[vr, vs, .int .i64 h, .int .i64 l] w (NextPost w r s h l) := by
  have l2r : Lt 161 (2 * r) := (lr.add lr).of_le (by omega)
  have ls : Lt 161 s := l2r.of_le s0
  have ll := ls.behind h0
  have la := ll.behind l0
  have eall : (s * 16777216 + h) * 16777216 + l = s * 281474976710656 + h * 16777216 + l := by omega
  rw [eall] at la
  obtain ⟨d, hd⟩ : ∃ d, d = bl (2 * r) - 36 := ⟨_, rfl⟩
  have gs := guess_small s0 h0 hd
  have gp := guess_pos r0 hd
  have gg := fun q => guess_ge (q := q) s0 h0 l0 gp
  obtain ⟨al, hal⟩ : ∃ al, al = s * 281474976710656 + h * 16777216 + l := ⟨_, rfl⟩
  obtain ⟨li, hli⟩ : ∃ li, li = s * 16777216 + h := ⟨_, rfl⟩
  have HP : Hid (NextPost w r s h l = fun e w' => ∃ q, Fit r al q ∧ ¬ Fit r al (q + 1) ∧ RetNN w (r * 16777216 + q) (al - (2 * r * 16777216 + q) * q) e w') := by
    show _ = _
    rw [hal]; rfl
  rw [← hal] at la eall gg
  rw [← hli] at ll eall gs gg
  obtain ⟨g, hg⟩ : ∃ g, g = min (li / 2 ^ d / (2 * r / 2 ^ d)) 16777215 := ⟨_, rfl⟩
  have HN : Hid (∀ x, g < x → ¬ Fit r al x) := fun x hx hf => by have := gg x hf; omega
  have hg1 : g ≤ 16777215 := by omega
  have HG := Lib.hid (fun (W : World) (vl vd : Value) (a : N W vl li) (b : N W vd (2 * r)) => guess_any W vl vd li (2 * r) d a b (ll.mono (by omega)) (l2r.mono (by omega)) hd gs.1 gs.2 gp)
  rw [← hg] at HG
  have HL := Lib.hid hli
  have HA := Lib.hid eall
  clear hg gg gs gp hd hal hli eall
  go_enter Try.func49, Try.ntmps49
  go_wp2_with fail
  refine (behind_any w vs s h hs (ls.mono (by omega)) (by omega) (by omega)).mono ?_
  rintro e w1 ⟨v1, rfl, n1, e1⟩
  rw [Int.toNat_natCast, ← HL.out] at n1
  go_wp2_with fail
  refine (behind_any w1 v1 li l n1 (ll.mono (by omega)) (by omega) (by omega)).mono ?_
  rintro e w2 ⟨v2, rfl, n2, e2⟩
  rw [Int.toNat_natCast, HA.out] at n2
  go_wp2_with fail
  refine (shl_nat w2 vr r 1 (by omega) (hr.ext (e1.trans e2)) (lr.mono (by omega))).mono ?_
  rintro e w3 ⟨v3, rfl, n3, e3⟩
  rw [Nat.pow_one, Nat.mul_comm] at n3
  go_wp2_with fail
  refine (HG.out w3 v1 v3 (n1.ext (e2.trans e3)) n3).mono ?_
  rintro e w4 ⟨rfl, e4⟩
  have E : Ext w w4 := ((e1.trans e2).trans e3).trans e4
  have N2 := n2.ext (e3.trans e4)
  have N3 := n3.ext e4
  clear n1 n2 n3 e1 e2 e3 e4 HG
  go_wp2
  go_loopw [13] (fun i wr => ∃ q : Nat, q ≤ 16777215 ∧ i = .int .i64 q ∧ Hid (∀ x, q < x → ¬ Fit r al x) ∧ Ext w4 wr) (fun i _ => (intOf i).toNat)
  case atStart => exact ⟨g, hg1, rfl, HN, Ext.refl _⟩
  case round =>
    obtain ⟨q, hq, rfl, hn, er⟩ := hrel
    have l5 : Lt 162 (2 * r * 16777216 + q) := l2r.behind (by omega)
    have l6 : Lt 1 q := Lt.limb (by omega)
    have l7 := l5.mul l6
    go_wp2_with fail
    refine (behind_any wr v3 (2 * r) q (N3.ext er) (l2r.mono (by omega)) (by omega) (by omega)).mono ?_
    rintro e w5 ⟨v5, rfl, n5, e5⟩
    rw [Int.toNat_natCast] at n5
    go_wp2_with fail
    refine (of_any w5 q (by omega)).mono ?_
    rintro e w6 ⟨v6, rfl, n6, e6⟩
    rw [Int.toNat_natCast] at n6
    go_wp2_with fail
    refine (mul_any w6 v5 v6 (2 * r * 16777216 + q) q (n5.ext e6) n6 (l5.mono (by omega)) (l6.mono (by omega))).mono ?_
    rintro e w7 ⟨v7, rfl, n7, e7⟩
    have E7 := ((er.trans e5).trans e6).trans e7
    clear n5 n6 e5 e6 e7
    by_cases hf : Fit r al q
    · go_wp2_with fail
      refine (sub_yes w7 v2 v7 al _ (N2.ext E7) n7 (la.mono (by omega)) hf).mono ?_
      rintro e w8 ⟨v8, rfl, n8, e8⟩
      go_wp2_with fail
      refine (behind_any w8 vr r q (hr.ext (E.trans (E7.trans e8))) (lr.mono (by omega)) (by omega) (by omega)).mono ?_
      rintro e w9 ⟨v9, rfl, n9, e9⟩
      rw [Int.toNat_natCast] at n9
      go_wp2
      go_ret2
      rw [HP.out]
      exact ⟨q, hf, hn.out _ (Nat.lt_succ_self _), _, _, rfl, n9, n8.ext e9, E.trans (E7.trans (e8.trans e9))⟩
    · have hq0 : q ≠ 0 := fun e => hf (by rw [e]; exact fit_zero _ _)
      go_wp2_with fail
      refine (sub_no w7 v2 v7 al _ (N2.ext E7) n7 (by unfold Fit at hf; omega)).mono ?_
      rintro e w8 ⟨v8, rfl, n8, e8⟩
      go_wp2
      go_roundw
      case rel => exact ⟨q - 1, by omega, by go_num, fun x hx hfx => by
        by_cases e : x = q
        · subst e; exact hf hfx
        · exact hn.out x (by omega) hfx, E7.trans e8⟩
      case measure => simp [intOf]; omega

end Go.Proofs.Ytafmolljmceadaa
