/- Walks of package dya: the place of a natural's lowest bit, and Make. -/
import Derived.Test.YtjnnodbejnmkmaaDoorD7
import Derived.Test.YtjnnodbejnmkmaaDoorW9
import Derived.Lib.TrailingZeros
namespace Go.Proofs.YtjnnodbejnmkmaaDoor
open Go.RowKit

/-- The table of math/bits lies where it was laid. -/
structure Tb (w : World) : Prop where
  out : ∀ i, i < 64 → w.cell? ⟨1, i, none⟩ = some (.int .u8 ((Lib.deBruijn64tab.getD i 0 : Nat) : Int))
theorem Tb.ext {w w' : World} (h : Tb w) (E : Ext w w') : Tb w' := ⟨fun i hi => (E.cell (World.block_lt_of_cell? w _ (h.out i hi))).trans (h.out i hi)⟩

theorem low_form {xs : List Int} {m k n : Nat} (nf : NF xs) (ev : val xs = (m : Int)) (hk : k < xs.length) (hz : ∀ j, j < k → nth xs j = 0) (hx : nth xs k = (n : Int)) (hn : n ≠ 0) :
    Even m (24 * k + Lib.ctz 64 n) ∧ m / 2 ^ (24 * k + Lib.ctz 64 n) % 2 ≠ 0 ∧ Lib.ctz 64 n < 24 := by
  have hb := nf.1.at k
  rw [hx] at hb
  obtain ⟨q, hq, _⟩ := Lib.ctzFrom_spec 64 n (by omega) (by omega)
  have e : Lib.ctz 64 n = Lib.ctzFrom 64 n := by simp [Lib.ctz, hn]
  rw [e]
  generalize Lib.ctzFrom 64 n = t at hq ⊢
  have ht : t < 24 := by
    rcases Nat.lt_or_ge t 24 with h | h
    · exact h
    · have h1 := Nat.pow_le_pow_right (show 0 < 2 by omega) h
      have h2 : 2 ^ t ≤ 2 ^ t * (2 * q + 1) := Nat.le_mul_of_pos_right _ (by omega)
      omega
  have hs := val_split (a := xs) k
  have hS : S (nth xs) k = 0 := by rw [S_congr k (k := fun _ => 0) hz]; exact S_zero k
  have hd := val_drop hk
  obtain ⟨v, hv⟩ := Int.eq_ofNat_of_zero_le (val_bounds (nf.1.drop (k + 1))).1
  rw [hS, hd, hx, hv, ev, bp_two] at hs
  have hm : m = 2 ^ (24 * k) * (n + 16777216 * v) := by
    have : (m : Int) = ((2 ^ (24 * k) * (n + 16777216 * v) : Nat) : Int) := by rw [hs, Int.natCast_mul, Int.natCast_add, Int.natCast_mul, Int.zero_add]; rfl
    exact_mod_cast this
  have hp : 16777216 = 2 ^ t * (2 * 2 ^ (23 - t)) := by
    rw [← Nat.pow_succ', ← Nat.pow_add, show t + (23 - t + 1) = 24 by omega]
  have hm2 : m = (2 * (q + 2 ^ (23 - t) * v) + 1) * 2 ^ (24 * k + t) := by
    rw [hm, hq, hp, Nat.pow_add]
    generalize 2 ^ t = a
    generalize 2 ^ (23 - t) = b
    generalize 2 ^ (24 * k) = c
    grind
  refine ⟨⟨_, hm2⟩, ?_, ht⟩
  rw [hm2, Nat.mul_div_cancel _ (Nat.two_pow_pos _)]
  omega

theorem u64_neg_and (n : Nat) (h0 : n ≠ 0) (h : n < 18446744073709551616) : bits .and .u64 (n : Int) (IntKind.u64.wrap (-(n : Int))) = ((2 ^ Lib.ctz 64 n : Nat) : Int) := by
  have hw : IntKind.u64.wrap (-(n : Int)) = ((18446744073709551616 - n : Nat) : Int) := by rw [IntKind.wrap_u64]; omega
  rw [hw]
  show IntKind.u64.wrap ((BitVec.ofInt 64 (n : Int) &&& BitVec.ofInt 64 ((18446744073709551616 - n : Nat) : Int)).toNat : Int) = _
  obtain ⟨h1, h2⟩ := Lib.lowest_bit 64 n h0 h
  have e1 : (BitVec.ofInt 64 (n : Int)).toNat = n := by rw [BitVec.toNat_ofInt]; omega
  have e2 : (BitVec.ofInt 64 ((18446744073709551616 - n : Nat) : Int)).toNat = 18446744073709551616 - n := by rw [BitVec.toNat_ofInt]; omega
  rw [BitVec.toNat_and, e1, e2, h1, IntKind.wrap_u64]
  have := Nat.pow_lt_pow_right (show 1 < 2 by omega) h2
  omega
theorem u64_top (n : Nat) (h0 : n ≠ 0) (h : n < 18446744073709551616) : ∃ i : Nat, i < 64 ∧ Lib.deBruijn64tab.getD i 0 = Lib.ctz 64 n ∧
    IntKind.u64.wrap (bits BinOp.and IntKind.u64 (n : Int) (IntKind.u64.wrap (-(n : Int))) * 285870213051353865) / 288230376151711744 = (i : Int) := by
  obtain ⟨_, h2⟩ := Lib.lowest_bit 64 n h0 h
  obtain ⟨k1, k2⟩ := Lib.deBruijn64_at _ h2
  refine ⟨_, k1, k2, ?_⟩
  rw [u64_neg_and n h0 h, IntKind.wrap_u64]
  generalize 2 ^ Lib.ctz 64 n = z
  omega

theorem tz64_any (w : World) (n : Nat) (h0 : n ≠ 0) (h : n < 16777216) (T : Tb w) :
    Calls Tryd.prog 79 #[.int .u64 (n : Int)] w fun e w' => e = .returned (.int .i64 (Lib.ctz 64 n)) ∧ w = w' := by
  have hn0 : ((n : Int) == 0) = false := beq_eq_false_iff_ne.2 (by omega)
  obtain ⟨i, hi, hv, hI⟩ := u64_top n h0 (by omega)
  have hc := T.out i hi
  rw [hv] at hc
  obtain ⟨_, hk⟩ := Lib.lowest_bit 64 n h0 (by omega)
  generalize Lib.ctz 64 n = k at hc hk ⊢
  clear hv
  go_enter Tryd.func79, Tryd.ntmps79
  go_wp2
  go_ret
  exact ⟨rfl, rfl⟩

theorem tz_any (w : World) (n : Nat) (h0 : n ≠ 0) (h : n < 16777216) (T : Tb w) :
    Calls Tryd.prog 73 #[.int .u64 (n : Int)] w fun e w' => e = .returned (.int .i64 (Lib.ctz 64 n)) ∧ w = w' := by
  have HT := Lib.hid (tz64_any w n h0 h T)
  clear T
  go_enter Tryd.func73, Tryd.ntmps73
  go_wp2_with fail
  refine HT.out.mono ?_
  rintro _ _ ⟨rfl, rfl⟩
  go_wp2
  go_ret
  exact ⟨rfl, rfl⟩

/-- What is told of the lowest bit of m: its place is k. -/
structure Low (m k : Nat) : Prop where
  zero : m = 0 → k = 0
  even : m ≠ 0 → Even m k
  odd : m ≠ 0 → m / 2 ^ k % 2 ≠ 0
def RetLow (w : World) (m : Nat) (e : Ending) (w' : World) : Prop := ∃ k : Nat, e = .returned (.int .i64 k) ∧ w = w' ∧ Low m k

theorem lowest_any (w : World) (v : Value) (m : Nat) (h : N w v m) (hm : Lt 400 m) (T : Tb w) : Calls Tryd.prog 55 #[v] w (RetLow w m) := by
  obtain ⟨a, ra, na, ea⟩ := h
  have la : a.length ≤ 400 := N.len hm na ea
  obtain ⟨A, c, rfl, h1, h2, h3⟩ := id ra
  have H3 := Lib.hid h3
  have NA := Lib.hid na
  have EA := Lib.hid ea
  have HT := Lib.hid T
  clear h3 na ea ra hm T
  go_enter Tryd.func55, Tryd.ntmps55
  go_wp2
  go_loop [7] (fun i => ∃ k : Nat, k ≤ a.length ∧ i = .int .i64 (k : Int) ∧ ∀ j, j < k → nth a j = 0) (fun i => (a.length - (intOf i)).toNat)
  case atStart => exact ⟨0, by omega, rfl, fun j hj => by omega⟩
  case round =>
    obtain ⟨k, hk, rfl, hz⟩ := hrel
    have HZ := Lib.hid hz
    clear hz
    by_cases hkl : k < a.length
    · obtain ⟨b1, off1, rfl, hb1, hc1⟩ := H3.out (by omega)
      have hcell := hc1 k hkl
      have hx := NA.out.1.at k
      obtain ⟨n, hn⟩ := Int.eq_ofNat_of_zero_le hx.1
      have HN := Lib.hid hn
      rw [hn] at hcell hx
      clear hn hc1
      by_cases hn0 : n = 0
      · subst hn0
        go_wp2
        go_round
        case rel => exact ⟨k + 1, by omega, by go_num, fun j hj => by
          rcases Nat.lt_or_ge j k with h | h
          · exact HZ.out j h
          · obtain rfl : j = k := by omega
            exact HN.out⟩
        case measure => simp [intOf]; omega
      · have hn1 : ((n : Int) == 0) = false := beq_eq_false_iff_ne.2 (by omega)
        have HF := Lib.hid (low_form NA.out EA.out hkl HZ.out HN.out hn0)
        have hlt := HF.out.2.2
        go_wp2_with fail
        refine (tz_any _ n hn0 (by omega) HT.out).mono ?_
        rintro _ _ ⟨rfl, rfl⟩
        go_wp2
        go_ret
        exact ⟨24 * k + Lib.ctz 64 n, by go_num, rfl, fun e => absurd (show m / 2 ^ _ % 2 = 0 by rw [e, Nat.zero_div]) HF.out.2.1, fun _ => HF.out.1, fun _ => HF.out.2.1⟩
    · have hka : k = a.length := by omega
      have hm0 : m = 0 := by
        have e := EA.out
        rw [val_S, S_congr _ (k := fun _ => 0) (fun j hj => HZ.out j (by omega)), S_zero] at e
        omega
      go_wp2
      go_ret
      exact ⟨0, rfl, rfl, fun _ => rfl, fun e => (e rfl).elim, fun e => (e rfl).elim⟩

theorem Low.form {m k : Nat} {e : Int} {neg : Bool} (h : Low m k) (hm : m ≠ 0) : m / 2 ^ k ≠ 0 ∧ k < bl m ∧ Canon (sg neg (m / 2 ^ k)) (e + k) ∧ dy (sg neg m) e = dy (sg neg (m / 2 ^ k)) (e + k) := by
  obtain ⟨h1, h2, _⟩ := (h.even hm).div hm
  exact ⟨h1, h2, (h.even hm).form hm (h.odd hm)⟩

set_option maxHeartbeats 1000000 in
theorem make_any (w : World) (neg : Bool) (v : Value) (m : Nat) (e : Int) (h : N w v m) (hm : Lt 400 m) (he : -1000000 ≤ e ∧ e ≤ 1000000) (T : Tb w) : Calls Tryd.prog 30 #[.bool neg, v, .int .i64 e] w (RetD w (dy (sg neg m) e)) := by
  have E0 : Ext w (w.alloc (Obj.cells #[Value.bool false, Value.slice none 0 0, Value.int IntKind.i64 0] 24)) := (Ext.refl w).alloc _
  have HL := Lib.hid (lowest_any _ v m (h.ext E0) hm (T.ext E0))
  have hN := h.ext E0
  have hbl := hm.bits
  clear T
  go_enter Tryd.func30, Tryd.ntmps30
  go_wp2_with fail
  refine HL.out.mono ?_
  rintro _ _ ⟨k, rfl, rfl, hk⟩
  by_cases h0 : m = 0
  · obtain rfl : k = 0 := hk.zero h0
    subst h0
    go_wp2_with fail
    refine (shr_nat _ _ 0 0 (by omega) hN hm).mono ?_
    rintro _ w2 ⟨v2, rfl, n2, e2⟩
    rw [Nat.zero_div] at n2
    obtain ⟨A, c, rfl, _⟩ := n2.form
    have Z2 := (Zd.new w _).ext e2
    have g0 := Z2.c0; have g1 := Z2.c1; have g2 := Z2.c2; have f0 := Z2.f 0; have f1 := Z2.f 1; have f2 := Z2.f 2
    go_wp2
    obtain ⟨k0, k1, k2, hD⟩ := Z2.done (Dn.zero w2) (E0.trans e2) (Nat.le_refl _)
    rw [sg_zero, dy_zero]
    exact bodyPost_ret (by simp [results, Tryd.results30, go_sem, k0, k1, k2]) rfl hD
  · obtain ⟨hq, hkb, hc, hd⟩ := hk.form (e := e) (neg := neg) h0
    have HC := Lib.hid hc
    have HD := Lib.hid hd
    clear hd hc
    go_wp2_with fail
    refine (shr_nat _ _ m k (by omega) hN hm).mono ?_
    rintro _ w2 ⟨v2, rfl, n2, e2⟩
    obtain ⟨b2, off2, len2, c2, x', rfl, hlen, _, _, _, _⟩ := n2.low hq
    have hl0 : ((len2 : Int) == 0) = false := beq_eq_false_iff_ne.2 (by omega)
    have Z2 := (Zd.new w _).ext e2
    have g0 := Z2.c0; have g1 := Z2.c1; have g2 := Z2.c2; have f0 := Z2.f 0; have f1 := Z2.f 1; have f2 := Z2.f 2
    go_wp2
    obtain ⟨k0, k1, k2, hD⟩ := Z2.done (x := .bool neg) (y := Value.slice (some { block := b2, off := off2 }) len2 c2) (z := .int .i64 (e + k)) ⟨_, sg neg (m / 2 ^ k), e + k, by rw [sg_neg hq], by rw [sg_abs]; exact n2, HC.out, rfl⟩ (E0.trans e2) (Nat.le_refl _)
    rw [← HD.out] at hD
    exact bodyPost_ret (by simp [results, Tryd.results30, go_sem, k0, k1, k2]) rfl hD

end Go.Proofs.YtjnnodbejnmkmaaDoor
