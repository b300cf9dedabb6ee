/- Walks: Cmp, Len, Int. -/
import Derived.Test.YtjnnodbejnmkmaaDoorW2
import Derived.Test.YtjnnodbejnmkmaaDoorBits
namespace Go.Proofs.YtjnnodbejnmkmaaDoor
open Go.RowKit

set_option maxHeartbeats 400000 in
theorem compare_any (x y : Int) (w : World) : Calls Tryd.prog 49 #[.int .i64 x, .int .i64 y] w fun e w' => e = .returned (.int .i64 (cmpI x y)) ∧ w = w' := by
  rcases Int.lt_trichotomy x y with h | h | h
  · rw [cmpI_lt h]
    go_enter Tryd.func49, Tryd.ntmps49
    go_wp2
    go_ret
    exact ⟨rfl, rfl⟩
  · rw [cmpI_eq h]
    subst h
    go_enter Tryd.func49, Tryd.ntmps49
    go_wp2
    go_ret
    exact ⟨rfl, rfl⟩
  · rw [cmpI_gt h]
    go_enter Tryd.func49, Tryd.ntmps49
    go_wp2
    go_ret
    exact ⟨rfl, rfl⟩

set_option maxHeartbeats 400000 in
theorem cmp_rows (w : World) (va vb : Value) (a b : List Int) (ra : Row w va a) (rb : Row w vb b) (na : NF a) (nb : NF b) :
    Calls Tryd.prog 62 #[va, vb] w (RetQ w (.int .i64 (cmpI (val a) (val b)))) := by
  have hl := ra.len_le
  have hl' := rb.len_le
  obtain ⟨A, c, rfl, h1, h2, h3⟩ := id ra
  obtain ⟨A', c', rfl, h1', h2', h3'⟩ := id rb
  have H3 := Lib.hid h3
  have H3' := Lib.hid h3'
  have NA := Lib.hid na
  have NB := Lib.hid nb
  clear h3 h3' na nb ra rb
  rcases Nat.lt_trichotomy a.length b.length with hlen | hlen | hlen
  · have e := cmpI_lt (val_short NA.out NB.out hlen)
    rw [e]
    have e1 : cmpI (a.length : Int) (b.length : Int) = -1 := cmpI_lt (by omega)
    clear e
    go_enter Tryd.func62, Tryd.ntmps62
    go_wp2_with fail
    refine (compare_any _ _ _).mono ?_
    rintro e w' ⟨rfl, rfl⟩
    rw [e1]
    go_wp2
    go_ret
    exact RetQ.same
  · have E := Lib.hid hlen
    have e1 : cmpI (a.length : Int) (b.length : Int) = 0 := cmpI_eq (by omega)
    clear hlen
    go_enter Tryd.func62, Tryd.ntmps62
    go_wp2_with fail
    refine (compare_any _ _ _).mono ?_
    rintro e w' ⟨rfl, rfl⟩
    rw [e1]
    clear e1
    go_wp2
    go_loopw [6] (fun i wr => ∃ k : Nat, k ≤ a.length ∧ i = .int .i64 ((k : Int) - 1) ∧ Hid (∀ j, k ≤ j → nth a j = nth b j) ∧ Qt w wr) (fun i _ => (intOf i + 1).toNat)
    case atStart => exact ⟨a.length, Nat.le_refl _, rfl, fun j hj => by rw [nth_past hj, nth_past (by have := E.out; omega)], Qt.refl _⟩
    case round =>
      obtain ⟨k, hk, rfl, hz, hq⟩ := hrel
      by_cases h0 : 0 < k
      · obtain ⟨b1, off1, rfl, hb1, hc1⟩ := H3.out (by omega)
        obtain ⟨b2, off2, rfl, hb2, hc2⟩ := H3'.out (by have := E.out; omega)
        have hcell1 := (hq.cell _).trans (hc1 (k - 1) (by omega))
        have hcell2 := (hq.cell _).trans (hc2 (k - 1) (by have := E.out; omega))
        have hkb : (k : Int) - 1 < (b.length : Int) := by have := E.out; omega
        have hka : (k : Int) - 1 < (a.length : Int) := by omega
        clear hc1 hc2 H3 H3'
        rcases Int.lt_trichotomy (nth a (k - 1)) (nth b (k - 1)) with hx | hx | hx
        · have ec := cmpI_lt hx
          have ev := cmpI_lt (val_lex NA.out.1 NB.out.1 E.out (by omega) (i := k - 1) (fun j hj => hz.out j (by omega)) hx)
          have EV := Lib.hid ev
          clear ev
          go_wp2
          go_quiet ((go_at_call 49; with_reducible exact quiet_left (compare_any _ _ _)))
          simp only [ec]
          clear ec hx
          go_wp2
          go_ret
          rw [EV.out]
          exact ⟨rfl, hq.drewN _⟩
        · have ec := cmpI_eq hx
          have HX := Lib.hid hx
          clear hx
          go_wp2
          go_quiet ((go_at_call 49; with_reducible exact quiet_left (compare_any _ _ _)))
          simp only [ec]
          clear ec
          go_wp2
          go_roundw
          case rel => exact ⟨k - 1, by omega, by go_num, fun j hj => by
            by_cases e : j = k - 1
            · subst e; exact HX.out
            · exact hz.out j (by omega), hq.drewN _⟩
          case measure => simp [intOf]; omega
        · have ec := cmpI_gt hx
          have ev := cmpI_gt (val_lex NB.out.1 NA.out.1 E.out.symm (by have := E.out; omega) (i := k - 1) (fun j hj => (hz.out j (by omega)).symm) hx)
          have EV := Lib.hid ev
          clear ev
          go_wp2
          go_quiet ((go_at_call 49; with_reducible exact quiet_left (compare_any _ _ _)))
          simp only [ec]
          clear ec hx
          go_wp2
          go_ret
          rw [EV.out]
          exact ⟨rfl, hq.drewN _⟩
      · have hk0 : k = 0 := by omega
        subst hk0
        have EV := Lib.hid (cmpI_eq (val_eq_of_nth E.out (fun j => hz.out j (Nat.zero_le _))))
        go_wp2
        go_ret
        rw [EV.out]
        exact ⟨rfl, hq⟩
  · have e := cmpI_gt (val_short NB.out NA.out hlen)
    rw [e]
    have e1 : cmpI (a.length : Int) (b.length : Int) = 1 := cmpI_gt (by omega)
    clear e
    go_enter Tryd.func62, Tryd.ntmps62
    go_wp2_with fail
    refine (compare_any _ _ _).mono ?_
    rintro e w' ⟨rfl, rfl⟩
    rw [e1]
    go_wp2
    go_ret
    exact RetQ.same

theorem bitLenAux_bl : ∀ (f x : Nat), x < 2 ^ f → Lib.bitLenAux f x = bl x
  | 0, x, h => by
    have : x = 0 := by simpa using h
    subst this; rfl
  | f + 1, x, h => by
    rw [Lib.bitLenAux]
    by_cases e : x = 0
    · rw [if_pos e, e]; rfl
    · rw [if_neg e, bitLenAux_bl f (x / 2) (by rw [Nat.pow_succ] at h; omega), bl_half e]; omega
theorem len8_bl (x : Nat) (h : x < 256) : Lib.len8 (x : Int) = (bl x : Int) := by
  rw [Lib.len8_of x (by omega) (by omega)]
  unfold Lib.bitLen
  rw [Int.toNat_natCast, bitLenAux_bl 64 x (by omega)]
theorem bl_div {x : Nat} (k : Nat) (h : 2 ^ k ≤ x) : bl x = k + bl (x / 2 ^ k) := by
  have hp := Nat.two_pow_pos k
  have h0 : x / 2 ^ k ≠ 0 := by have := Nat.div_pos h hp; omega
  have h1 := bl_lt (x / 2 ^ k)
  have h2 := bl_le h0
  have h3 : bl (x / 2 ^ k) ≠ 0 := by intro e0; rw [e0] at h1; simp at h1; omega
  obtain ⟨n, hn⟩ : ∃ n, bl (x / 2 ^ k) = n + 1 := ⟨bl (x / 2 ^ k) - 1, by omega⟩
  rw [hn] at h1 h2 ⊢
  rw [Nat.add_sub_cancel] at h2
  rw [← Nat.add_assoc]
  apply bl_is
  · rw [Nat.pow_add, Nat.mul_comm]; exact (Nat.le_div_iff_mul_le hp).1 h2
  · rw [Nat.add_assoc, Nat.pow_add, Nat.mul_comm]; exact (Nat.div_lt_iff_lt_mul hp).1 h1


theorem bitLen_bl (x : Nat) (h : x < 16777216) : Lib.bitLen x = bl x := bitLenAux_bl 64 x (by omega)
theorem bitslen_any (x : Int) (w : World) (h0 : 0 ≤ x) (h1 : x < 16777216) : Calls Tryd.prog 77 #[.int .u64 x] w fun e w' => e = .returned (.int .i64 (bl x.toNat)) ∧ w = w' := by
  go_enter Tryd.func77, Tryd.ntmps77
  go_wp2_with fail
  refine (len64_small x _ h0 (by omega)).mono ?_
  rintro e w' ⟨rfl, hw⟩
  obtain rfl := hw.symm
  rw [bitLen_bl _ (by omega)]
  go_wp2
  go_ret
  exact ⟨rfl, rfl⟩

set_option maxHeartbeats 400000 in
theorem len_any (w : World) (v : Value) (m : Nat) (h : N w v m) (hm : Lt 400 m) : Calls Tryd.prog 71 #[v] w fun e w' => e = .returned (.int .i64 (bl m)) ∧ w = w' := by
  obtain ⟨a, ra, na, ea⟩ := h
  have la : a.length ≤ 400 := N.len hm na ea
  obtain ⟨A, c, rfl, h1, h2, h3⟩ := id ra
  by_cases hp : 0 < a.length
  · obtain ⟨b, off, rfl, hb, hc⟩ := h3 hp
    have hcell := hc (a.length - 1) (by omega)
    obtain ⟨t0, t1⟩ := na.1.at (a.length - 1)
    obtain ⟨t, ht⟩ := Int.eq_ofNat_of_zero_le t0
    have hbl := bl_top na (by intro e; subst e; simp at hp) ea ht
    have hne : ((a.length : Int) == 0) = false := beq_eq_false_iff_ne.2 (by omega)
    rw [ht] at hcell t0 t1
    have HB := Lib.hid hbl
    have hbb : bl t ≤ 24 := bl_of_lt (n := 24) (by omega)
    clear hc h3 na ea ht hbl ra hm
    go_enter Tryd.func71, Tryd.ntmps71
    go_wp2_with fail
    refine (bitslen_any _ _ t0 t1).mono ?_
    rintro e w' ⟨rfl, rfl⟩
    rw [Int.toNat_natCast]
    go_wp2
    go_ret
    refine ⟨ret_int ?_, rfl⟩
    rw [HB.out]
    push_cast
    omega
  · have e0 : a = [] := List.eq_nil_of_length_eq_zero (by omega)
    subst e0
    have hm0 : m = 0 := by simp [val] at ea; omega
    subst hm0
    clear h3 ra na ea
    go_enter Tryd.func71, Tryd.ntmps71
    go_wp2
    go_ret
    exact ⟨rfl, rfl⟩

end Go.Proofs.YtjnnodbejnmkmaaDoor
