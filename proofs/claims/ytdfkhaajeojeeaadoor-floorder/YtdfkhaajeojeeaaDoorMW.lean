/- Walks of package nat. -/
import Derived.Test.YtdfkhaajeojeeaaDoorMB
import Derived.Test.YtdfkhaajeojeeaaDoorBits
import Derived.Laws.CopyOwn
import Derived.Deep.RegionWith
import Derived.Deep.RegionHeld3
/- Walks: Cmp, Len, Int. -/
namespace Go.Proofs.YtdfkhaajeojeeaaDoor
open Go.RowKit

set_option maxHeartbeats 400000 in
theorem compare_any (x y : Int) (w : World) : Calls Tryd.prog 82 #[.int .i64 x, .int .i64 y] w fun e w' => e = .returned (.int .i64 (cmpI x y)) ∧ w = w' := by
  rcases Int.lt_trichotomy x y with h | h | h
  · rw [cmpI_lt h]
    go_enter Tryd.func82, Tryd.ntmps82
    go_wp2
    go_ret
    exact ⟨rfl, rfl⟩
  · rw [cmpI_eq h]
    subst h
    go_enter Tryd.func82, Tryd.ntmps82
    go_wp2
    go_ret
    exact ⟨rfl, rfl⟩
  · rw [cmpI_gt h]
    go_enter Tryd.func82, Tryd.ntmps82
    go_wp2
    go_ret
    exact ⟨rfl, rfl⟩

set_option maxHeartbeats 400000 in
theorem cmp_rows (w : World) (va vb : Value) (a b : List Int) (ra : Row w va a) (rb : Row w vb b) (na : NF a) (nb : NF b) :
    Calls Tryd.prog 89 #[va, vb] w (RetQ w (.int .i64 (cmpI (val a) (val b)))) := by
  have hl := ra.len_le
  have hl' := rb.len_le
  obtain ⟨A, c, rfl, h1, h2, h3⟩ := id ra
  obtain ⟨A', c', rfl, h1', h2', h3'⟩ := id rb
  have H3 := Lib.hid h3
  have H3' := Lib.hid h3'
  have NA := Lib.hid na
  have NB := Lib.hid nb
  clear h3 h3' na nb ra rb
  rcases Nat.lt_trichotomy a.length b.length with hlen | hlen | hlen
  · have e := cmpI_lt (val_short NA.out NB.out hlen)
    rw [e]
    have e1 : cmpI (a.length : Int) (b.length : Int) = -1 := cmpI_lt (by omega)
    clear e
    go_enter Tryd.func89, Tryd.ntmps89
    go_wp2_with fail
    refine (compare_any _ _ _).mono ?_
    rintro e w' ⟨rfl, rfl⟩
    rw [e1]
    go_wp2
    go_ret
    exact RetQ.same
  · have E := Lib.hid hlen
    have e1 : cmpI (a.length : Int) (b.length : Int) = 0 := cmpI_eq (by omega)
    clear hlen
    go_enter Tryd.func89, Tryd.ntmps89
    go_wp2_with fail
    refine (compare_any _ _ _).mono ?_
    rintro e w' ⟨rfl, rfl⟩
    rw [e1]
    clear e1
    go_wp2
    go_loopw [6] (fun i wr => ∃ k : Nat, k ≤ a.length ∧ i = .int .i64 ((k : Int) - 1) ∧ Hid (∀ j, k ≤ j → nth a j = nth b j) ∧ Qt w wr) (fun i _ => (intOf i + 1).toNat)
    case atStart => exact ⟨a.length, Nat.le_refl _, rfl, fun j hj => by rw [nth_past hj, nth_past (by have := E.out; omega)], Qt.refl _⟩
    case round =>
      obtain ⟨k, hk, rfl, hz, hq⟩ := hrel
      by_cases h0 : 0 < k
      · obtain ⟨b1, off1, rfl, hb1, hc1⟩ := H3.out (by omega)
        obtain ⟨b2, off2, rfl, hb2, hc2⟩ := H3'.out (by have := E.out; omega)
        have hcell1 := (hq.cell _).trans (hc1 (k - 1) (by omega))
        have hcell2 := (hq.cell _).trans (hc2 (k - 1) (by have := E.out; omega))
        have hkb : (k : Int) - 1 < (b.length : Int) := by have := E.out; omega
        have hka : (k : Int) - 1 < (a.length : Int) := by omega
        clear hc1 hc2 H3 H3'
        rcases Int.lt_trichotomy (nth a (k - 1)) (nth b (k - 1)) with hx | hx | hx
        · have ec := cmpI_lt hx
          have ev := cmpI_lt (val_lex NA.out.1 NB.out.1 E.out (by omega) (i := k - 1) (fun j hj => hz.out j (by omega)) hx)
          have EV := Lib.hid ev
          clear ev
          go_wp2
          go_quiet ((go_at_call 82; with_reducible exact quiet_left (compare_any _ _ _)))
          simp only [ec]
          clear ec hx
          go_wp2
          go_ret
          rw [EV.out]
          exact ⟨rfl, hq.drewN _⟩
        · have ec := cmpI_eq hx
          have HX := Lib.hid hx
          clear hx
          go_wp2
          go_quiet ((go_at_call 82; with_reducible exact quiet_left (compare_any _ _ _)))
          simp only [ec]
          clear ec
          go_wp2
          go_roundw
          case rel => exact ⟨k - 1, by omega, by go_num, fun j hj => by
            by_cases e : j = k - 1
            · subst e; exact HX.out
            · exact hz.out j (by omega), hq.drewN _⟩
          case measure => simp [intOf]; omega
        · have ec := cmpI_gt hx
          have ev := cmpI_gt (val_lex NB.out.1 NA.out.1 E.out.symm (by have := E.out; omega) (i := k - 1) (fun j hj => (hz.out j (by omega)).symm) hx)
          have EV := Lib.hid ev
          clear ev
          go_wp2
          go_quiet ((go_at_call 82; with_reducible exact quiet_left (compare_any _ _ _)))
          simp only [ec]
          clear ec hx
          go_wp2
          go_ret
          rw [EV.out]
          exact ⟨rfl, hq.drewN _⟩
      · have hk0 : k = 0 := by omega
        subst hk0
        have EV := Lib.hid (cmpI_eq (val_eq_of_nth E.out (fun j => hz.out j (Nat.zero_le _))))
        go_wp2
        go_ret
        rw [EV.out]
        exact ⟨rfl, hq⟩
  · have e := cmpI_gt (val_short NB.out NA.out hlen)
    rw [e]
    have e1 : cmpI (a.length : Int) (b.length : Int) = 1 := cmpI_gt (by omega)
    clear e
    go_enter Tryd.func89, Tryd.ntmps89
    go_wp2_with fail
    refine (compare_any _ _ _).mono ?_
    rintro e w' ⟨rfl, rfl⟩
    rw [e1]
    go_wp2
    go_ret
    exact RetQ.same

theorem bitLenAux_bl : ∀ (f x : Nat), x < 2 ^ f → Lib.bitLenAux f x = bl x
  | 0, x, h => by
    have : x = 0 := by simpa using h
    subst this; rfl
  | f + 1, x, h => by
    rw [Lib.bitLenAux]
    by_cases e : x = 0
    · rw [if_pos e, e]; rfl
    · rw [if_neg e, bitLenAux_bl f (x / 2) (by rw [Nat.pow_succ] at h; omega), bl_half e]; omega
theorem len8_bl (x : Nat) (h : x < 256) : Lib.len8 (x : Int) = (bl x : Int) := by
  rw [Lib.len8_of x (by omega) (by omega)]
  unfold Lib.bitLen
  rw [Int.toNat_natCast, bitLenAux_bl 64 x (by omega)]
theorem bl_div {x : Nat} (k : Nat) (h : 2 ^ k ≤ x) : bl x = k + bl (x / 2 ^ k) := by
  have hp := Nat.two_pow_pos k
  have h0 : x / 2 ^ k ≠ 0 := by have := Nat.div_pos h hp; omega
  have h1 := bl_lt (x / 2 ^ k)
  have h2 := bl_le h0
  have h3 : bl (x / 2 ^ k) ≠ 0 := by intro e0; rw [e0] at h1; simp at h1; omega
  obtain ⟨n, hn⟩ : ∃ n, bl (x / 2 ^ k) = n + 1 := ⟨bl (x / 2 ^ k) - 1, by omega⟩
  rw [hn] at h1 h2 ⊢
  rw [Nat.add_sub_cancel] at h2
  rw [← Nat.add_assoc]
  apply bl_is
  · rw [Nat.pow_add, Nat.mul_comm]; exact (Nat.le_div_iff_mul_le hp).1 h2
  · rw [Nat.add_assoc, Nat.pow_add, Nat.mul_comm]; exact (Nat.div_lt_iff_lt_mul hp).1 h1


theorem bitLen_bl (x : Nat) (h : x < 16777216) : Lib.bitLen x = bl x := bitLenAux_bl 64 x (by omega)
theorem bitslen_any (x : Int) (w : World) (h0 : 0 ≤ x) (h1 : x < 16777216) : Calls Tryd.prog 67 #[.int .u64 x] w fun e w' => e = .returned (.int .i64 (bl x.toNat)) ∧ w = w' := by
  go_enter Tryd.func67, Tryd.ntmps67
  go_wp2_with fail
  refine (len64_small x _ h0 (by omega)).mono ?_
  rintro e w' ⟨rfl, hw⟩
  obtain rfl := hw.symm
  rw [bitLen_bl _ (by omega)]
  go_wp2
  go_ret
  exact ⟨rfl, rfl⟩

set_option maxHeartbeats 400000 in
theorem len_any (w : World) (v : Value) (m : Nat) (h : N w v m) (hm : Lt 400 m) : Calls Tryd.prog 55 #[v] w fun e w' => e = .returned (.int .i64 (bl m)) ∧ w = w' := by
  obtain ⟨a, ra, na, ea⟩ := h
  have la : a.length ≤ 400 := N.len hm na ea
  obtain ⟨A, c, rfl, h1, h2, h3⟩ := id ra
  by_cases hp : 0 < a.length
  · obtain ⟨b, off, rfl, hb, hc⟩ := h3 hp
    have hcell := hc (a.length - 1) (by omega)
    obtain ⟨t0, t1⟩ := na.1.at (a.length - 1)
    obtain ⟨t, ht⟩ := Int.eq_ofNat_of_zero_le t0
    have hbl := bl_top na (by intro e; subst e; simp at hp) ea ht
    have hne : ((a.length : Int) == 0) = false := beq_eq_false_iff_ne.2 (by omega)
    rw [ht] at hcell t0 t1
    have HB := Lib.hid hbl
    have hbb : bl t ≤ 24 := bl_of_lt (n := 24) (by omega)
    clear hc h3 na ea ht hbl ra hm
    go_enter Tryd.func55, Tryd.ntmps55
    go_wp2_with fail
    refine (bitslen_any _ _ t0 t1).mono ?_
    rintro e w' ⟨rfl, rfl⟩
    rw [Int.toNat_natCast]
    go_wp2
    go_ret
    refine ⟨ret_int ?_, rfl⟩
    rw [HB.out]
    push_cast
    omega
  · have e0 : a = [] := List.eq_nil_of_length_eq_zero (by omega)
    subst e0
    have hm0 : m = 0 := by simp [val] at ea; omega
    subst hm0
    clear h3 ra na ea
    go_enter Tryd.func55, Tryd.ntmps55
    go_wp2
    go_ret
    exact ⟨rfl, rfl⟩

end Go.Proofs.YtdfkhaajeojeeaaDoor

/- Walks: Int, Sub, Mul, Of. -/
namespace Go.Proofs.YtdfkhaajeojeeaaDoor
open Go.RowKit

set_option maxHeartbeats 400000 in
theorem int_yes (w : World) (v : Value) (m : Nat) (h : N w v m) (hm : Lt 400 m) (hlt : m < 4611686018427387904) :
    Calls Tryd.prog 70 #[v] w fun e w' => e = .returned (.tuple #[.int .i64 m, .bool true]) ∧ w = w' := by
  have hb : bl m ≤ 62 := bl_of_lt (by omega)
  have HL := Lib.hid (len_any w v m h hm)
  obtain ⟨a, ra, na, ea⟩ := h
  have la : a.length ≤ 400 := N.len hm na ea
  obtain ⟨A, c, rfl, h1, h2, h3⟩ := id ra
  have H3 := Lib.hid h3
  have NA := Lib.hid na
  have EA := Lib.hid ea
  clear h3 na ea ra hm
  go_enter Tryd.func70, Tryd.ntmps70
  go_wp2_with fail
  refine HL.out.mono ?_
  rintro e w' ⟨rfl, rfl⟩
  go_wp2
  go_loop [4, 5] (fun n i => ∃ k : Nat, k ≤ a.length ∧ n = .int .i64 (val (a.drop k)) ∧ i = .int .i64 ((k : Int) - 1)) (fun _ i => (intOf i + 1).toNat)
  case atStart => exact ⟨a.length, Nat.le_refl _, by simp [val], rfl⟩
  case round =>
    obtain ⟨k, hk, rfl, rfl⟩ := hrel
    by_cases h0 : 0 < k
    · obtain ⟨b1, off1, rfl, hb1, hc1⟩ := H3.out (by omega)
      have hcell1 := hc1 (k - 1) (by omega)
      have hka : (k : Int) - 1 < (a.length : Int) := by omega
      have hd := val_drop (a := a) (k := k - 1) (by omega)
      have ek : k - 1 + 1 = k := by omega
      rw [ek] at hd
      have hd1 := val_drop_le NA.out.1 (k - 1)
      have hd2 := val_drop_le NA.out.1 k
      have hx := NA.out.1.at (k - 1)
      have hea := EA.out
      have b1 : 0 ≤ val (a.drop k) := hd2.1
      have b2 : val (a.drop k) * 16777216 + nth a (k - 1) ≤ 4611686018427387904 := by omega
      have b3 : val (a.drop k) ≤ 274877906944 := by omega
      have b4 := hx.1
      have HD := Lib.hid hd
      clear hd hd1 hd2 hx hea hc1 H3 ek
      go_wp2
      go_round
      case rel => exact ⟨k - 1, by omega, by rw [HD.out]; go_num, by go_num⟩
      case measure => simp [intOf]; omega
    · have hk0 : k = 0 := by omega
      subst hk0
      go_wp2
      go_ret2
      refine ⟨?_, rfl⟩
      rw [EA.out]
      rfl

set_option maxHeartbeats 400000 in
theorem int_no (w : World) (v : Value) (m : Nat) (h : N w v m) (hm : Lt 400 m) (hlt : 4611686018427387904 ≤ m) :
    Calls Tryd.prog 70 #[v] w fun e w' => e = .returned (.tuple #[.int .i64 0, .bool false]) ∧ w = w' := by
  have hb : 62 < bl m := bl_gt (by omega)
  have hb2 : bl m ≤ 9600 := hm.bits
  have HL := Lib.hid (len_any w v m h hm)
  clear h hm hlt
  go_enter Tryd.func70, Tryd.ntmps70
  go_wp2_with fail
  refine HL.out.mono ?_
  rintro e w' ⟨rfl, rfl⟩
  go_wp2
  go_ret2
  exact ⟨rfl, rfl⟩

theorem callOf : ∀ (x : Array Value) (W : World), (callFunc 51 x).run Tryd.prog W = .ok (.enter 51 x) W := fun _ _ => by kernel_rfl
theorem of1_any (w : World) (j : Int) : Calls Tryd.prog 51 #[.int .i64 j] w fun e w' => e = .returned (.int .i64 0) ∧ ∃ q, w' = w.drewN q := by
  go_enter Tryd.func51, Tryd.ntmps51
  go_wp2
  go_ret
  exact ⟨rfl, 0, rfl⟩

theorem of_sums (w w1 : World) (n : Int) (h0 : 0 ≤ n) (h1 : n ≤ 9223372036854775807) (hmade : Made 3 (w.alloc (.cells #[.int .i64 n] 69)) w1) :
    Calls Tryd.prog 50 #[.slice (some ⟨w.heap.size + 1, 0, none⟩) 3 3, .func (.func 51) #[] #[],
      .func (.func 52) #[.pointer (some ⟨w.heap.size, 0, none⟩)] #[]] w1 (RetN w n.toNat) := by
  have key := sums_new _ w1 w.heap.size 3 51 #[] (fun _ => 0) n n.toNat (by omega) hmade (World.cell?_alloc_new ..) (World.frozen?_alloc_new ..)
    (fun j _ => by have := carry_bound_zero (c := n) (M := 9223372036854775807) ⟨h0, h1⟩ j; omega) (by rw [S_zero]; omega) (by simp [bp]; omega) callOf (fun w' j _ _ => of1_any w' j)
  rw [World.size_alloc] at key
  refine key.mono ?_
  rintro e w' ⟨v, rfl, hN, ho⟩
  exact ⟨v, rfl, hN, ((Ext.refl w).alloc _ |>.trans hmade.ext).only ho (fun i hi => by simp at hi; omega)⟩

set_option maxHeartbeats 400000 in
theorem of_any (w : World) (n : Int) (h1 : n ≤ 9223372036854775807) : Calls Tryd.prog 32 #[.int .i64 n] w (RetN w n.toNat) := by
  have hmf := mkf
  have he : (max n 0).toNat = n.toNat := by omega
  have HE := Lib.hid he
  clear he
  go_enter Tryd.func32, Tryd.ntmps32
  go_wp2_with (at_make; refine wpList_mk_ints _ rfl _ rfl 3 _ rfl rfl (by omega) ?_; intro w1 hmade)
  refine (of_sums w w1 (max n 0) (by omega) (by omega) hmade).mono ?_
  rintro e w2 ⟨v, rfl, hN, hE⟩
  rw [HE.out] at hN
  go_wp2
  go_ret
  exact ⟨v, rfl, hN, hE⟩

end Go.Proofs.YtdfkhaajeojeeaaDoor

/- Walks: Shr, Shl, behind. -/
namespace Go.Proofs.YtdfkhaajeojeeaaDoor
open Go.RowKit

theorem callShr : ∀ (x : Array Value) (W : World), (callFunc 63 x).run Tryd.prog W = .ok (.enter 63 x) W := fun _ _ => by kernel_rfl
theorem callShl : ∀ (x : Array Value) (W : World), (callFunc 80 x).run Tryd.prog W = .ok (.enter 80 x) W := fun _ _ => by kernel_rfl

set_option maxHeartbeats 1000000 in
theorem shr1_any (w : World) (bl bd : Nat) (v : Value) (l : List Int) (d j : Nat) (hj : j < l.length) (hd : d < 24)
    (cl : w.cell? ⟨bl, 0, none⟩ = some v) (cd : w.cell? ⟨bd, 0, none⟩ = some (.int .i64 d)) (rl : Row w v l) (nl : Limbs l) :
    Calls Tryd.prog 63 #[.int .i64 j, .pointer (some ⟨bl, 0, none⟩), .pointer (some ⟨bd, 0, none⟩)] w fun e w' =>
      e = .returned (.int .i64 (shrAt l d j)) ∧ ∃ q, w' = w.drewN q := by
  have hlen := rl.len_le
  obtain ⟨A, c, rfl, h1, h2, h3⟩ := id rl
  obtain ⟨b, off, rfl, hb, hc⟩ := h3 (by omega)
  have hcell := hc j hj
  obtain ⟨x0, x1⟩ := nl.at j
  obtain ⟨y0, y1⟩ := nl.at (j + 1)
  have hj0 : (0 : Int) ≤ (j : Int) + 1 := by omega
  have B := Lib.hid (shr_bounds nl d j)
  clear h3 hc nl
  go_enter Tryd.func63, Tryd.ntmps63
  go_wp2
  go_quiet ((go_at_call 64; with_reducible exact quiet_left (at_any _ _ _ _ (rl.drewN _) hj0)))
  go_wp2
  go_ret
  exact ⟨ret_int (shr_word B), nq, rfl⟩

theorem shr_sums (w w1 : World) (v : Value) (a : List Int) (m K q d L : Nat) (hq : q = min (K / 24) a.length) (hd : d = K % 24) (na : NF a) (ea : val a = m) (la : a.length ≤ 1000000)
    (hL : L = a.length - q) (rl : Row w v (a.drop q)) (hmade : Made L (three w #[v] #[.int .i64 d] #[.int .i64 0] 23 3 69) w1) :
    Calls Tryd.prog 50 #[.slice (some ⟨w.heap.size + 1 + 1 + 1, 0, none⟩) L L, .func (.func 63) #[] #[.pointer (some ⟨w.heap.size, 0, none⟩), .pointer (some ⟨w.heap.size + 1, 0, none⟩)],
      .func (.func 52) #[.pointer (some ⟨w.heap.size + 1 + 1, 0, none⟩)] #[]] w1 (RetN w (m / 2 ^ K)) := by
  have hlen : (a.drop q).length = L := by simp; omega
  have nl : Limbs (a.drop q) := na.1.drop q
  have hd24 : d < 24 := by omega
  have hv : val (a.drop q) / 2 ^ d = ((m / 2 ^ K : Nat) : Int) := by
    have e1 : val (a.drop q) = val (a.drop (K / 24)) := by
      by_cases h : K / 24 ≤ a.length
      · rw [hq, Nat.min_eq_left h]
      · rw [hq, Nat.min_eq_right (by omega), List.drop_eq_nil_of_le (Nat.le_refl _), List.drop_eq_nil_of_le (by omega)]
    rw [e1, val_drop_div na.1, ea, bp_two]
    have e2 : K = 24 * (K / 24) + d := by omega
    have e3 : m / 2 ^ K = m / 2 ^ (24 * (K / 24)) / 2 ^ d := by
      rw [Nat.div_div_eq_div_mul, ← Nat.pow_add, ← e2]
    rw [e3]
    push_cast
    rfl
  have hS := S_shr d hd24 (a.drop q) nl
  rw [hlen] at hS
  refine box_sums w _ w1 _ _ w.heap.size (w.heap.size + 1) (w.heap.size + 1 + 1) _ L (m / 2 ^ K) _ _ (shrAt (a.drop q) d) (three_ext ..) (three_0 ..) (three_1 ..) (three_2 ..) (three_f2 ..) (by omega) (by omega) (by omega) (three_size ..) hmade (by omega)
    (fun j _ => by have := shr_bounds nl d j; omega) (by rw [hS, hv]) ?_ callShr
    (fun w' j he h1 h2 hj => shr1_any w' _ _ v (a.drop q) d j (by omega) hd24 h1 h2 (rl.ext he) nl)
  have h1 := val_bounds nl
  rw [hlen] at h1
  have h2 : val (a.drop q) / 2 ^ d ≤ val (a.drop q) := Int.ediv_le_self _ h1.1
  omega

set_option maxHeartbeats 1000000 in
theorem shr_nat (w : World) (v : Value) (m K : Nat) (hK : K ≤ 9223372036854775807) (h : N w v m) (hm : Lt 400 m) :
    Calls Tryd.prog 49 #[v, .int .i64 K] w (RetN w (m / 2 ^ K)) := by
  obtain ⟨a, ra, na, ea⟩ := h
  have la : a.length ≤ 400 := N.len hm na ea
  obtain ⟨A, c, rfl, h1, h2, h3⟩ := id ra
  have hmf := mkf
  have HA := Lib.hid ea
  clear ea h3
  go_enter Tryd.func49, Tryd.ntmps49
  go_wp2_with (at_make; refine wpList_mk_ints _ rfl _ rfl _ _ rfl rfl (by omega) ?_; intro w1 hmade)
  all_goals
    refine (shr_sums w w1 _ a m K (min ((K : Int) / 24) (a.length : Int)).toNat (K % 24) _ (by omega) rfl na HA.out (by omega) rfl (ra.cut (by omega)) hmade).mono ?_
    rintro e w2 ⟨v, rfl, hN, hE⟩
    go_wp2
    go_ret
    exact ⟨v, rfl, hN, hE⟩

set_option maxHeartbeats 1000000 in
theorem shr_neg (w : World) (v : Value) (m : Nat) (k : Int) (hk : k < 0) (h : N w v m) (hm : Lt 400 m) :
    Calls Tryd.prog 49 #[v, .int .i64 k] w (RetN w m) := by
  obtain ⟨a, ra, na, ea⟩ := h
  have la : a.length ≤ 400 := N.len hm na ea
  obtain ⟨A, c, rfl, h1, h2, h3⟩ := id ra
  have hmf := mkf
  have hmx : max k 0 = 0 := by omega
  have HA := Lib.hid ea
  clear ea h3
  go_enter Tryd.func49, Tryd.ntmps49
  go_wp2_with (at_make; refine wpList_mk_ints _ rfl _ rfl _ _ rfl rfl (by omega) ?_; intro w1 hmade)
  all_goals
    have key := shr_sums w w1 _ a m 0 (min (0 : Int) (a.length : Int)).toNat 0 _ (by omega) rfl na HA.out (by omega) rfl (ra.cut (by omega)) hmade
    rw [Nat.pow_zero, Nat.div_one] at key
    refine key.mono ?_
    rintro e w2 ⟨v, rfl, hN, hE⟩
    clear key
    go_wp2
    go_ret
    exact ⟨v, rfl, hN, hE⟩

set_option maxHeartbeats 1000000 in
theorem shl1_any (w : World) (ba bk : Nat) (v : Value) (a : List Int) (K j : Nat) (hK : K ≤ 1000000) (hj : j ≤ 1000000)
    (ca : w.cell? ⟨ba, 0, none⟩ = some v) (ck : w.cell? ⟨bk, 0, none⟩ = some (.int .i64 K)) (ra : Row w v a) (na : Limbs a) :
    Calls Tryd.prog 80 #[.int .i64 j, .pointer (some ⟨ba, 0, none⟩), .pointer (some ⟨bk, 0, none⟩)] w fun e w' =>
      e = .returned (.int .i64 (2 ^ (K % 24) * nth a j)) ∧ ∃ q, w' = w.drewN q := by
  have hlen := ra.len_le
  obtain ⟨A, c, rfl, h1, h2, h3⟩ := id ra
  obtain ⟨y0, y1⟩ := na.at j
  have hj0 : (0 : Int) ≤ (j : Int) := by omega
  clear h3 na
  go_enter Tryd.func80, Tryd.ntmps80
  go_wp2
  go_quiet ((go_at_call 64; with_reducible exact quiet_left (at_any _ _ _ _ (ra.drewN _) hj0)))
  go_wp2
  go_ret
  exact ⟨ret_int (shl_word (by omega) y0 y1), nq, rfl⟩

theorem trimmed_nat (w : World) (v : Value) (ys : List Int) (m : Nat) (h : Row w v ys) (hl : Limbs ys) (hv : val ys = (m : Int)) : Calls Tryd.prog 65 #[v] w (RetH w m) := by
  refine (trimmed_any w v ys h).mono ?_
  rintro e w' ⟨A, c, k, rfl, hk, rfl, rfl, hz, hlast⟩
  exact ⟨_, rfl, ⟨ys.take k, h.take k hk, nf_take hl hk hlast, by rw [val_take hk hz, hv]⟩, rfl⟩

theorem shl_sums (w W w1 : World) (v : Value) (a : List Int) (m K q L : Nat) (hq : q = K / 24) (hL : L = a.length + 1) (hK : K ≤ 20000) (la : a.length ≤ 1000) (na : NF a) (ea : val a = m) (ra : Row w v a)
    (hW : Ext w W) (c1 : W.cell? ⟨w.heap.size, 0, none⟩ = some v) (c2 : W.cell? ⟨w.heap.size + 1, 0, none⟩ = some (.int .i64 K)) (hs : W.heap.size = w.heap.size + 1 + 1)
    (hmade : Made (q + L) W w1) :
    Calls Tryd.prog 50 #[.slice (some ⟨w.heap.size + 1 + 1, q, none⟩) L L, .func (.func 80) #[] #[.pointer (some ⟨w.heap.size, 0, none⟩), .pointer (some ⟨w.heap.size + 1, 0, none⟩)],
      .func (.func 52) #[.pointer (some ⟨w1.heap.size, 0, none⟩)] #[]] (w1.alloc (.cells #[.int .i64 0] 69)) (ShlPost w (w.heap.size + 1 + 1) (q + L) (m * 2 ^ K)) := by
  have hd : K % 24 < 24 := Nat.mod_lt _ (by omega)
  have hs1 := hmade.size
  have hbd : ∀ j, 0 ≤ 2 ^ (K % 24) * nth a j ∧ 2 ^ (K % 24) * nth a j ≤ 140737488355328 := fun j => shl_bounds hd (na.1.at j).1 (na.1.at j).2
  have hT : 0 + S (fun j => 2 ^ (K % 24) * nth a j) L = 2 ^ (K % 24) * (m : Int) := by rw [S_mul, val_S_ge (by omega), ea]; omega
  have hp := two_pow_le (K % 24) hd
  have h0 : 0 ≤ 0 + S (fun j => 2 ^ (K % 24) * nth a j) L := by rw [hT]; exact Int.mul_nonneg (by omega) (by omega)
  have h1 : 0 + S (fun j => 2 ^ (K % 24) * nth a j) L < bp L := by
    rw [hT, hL, bp_succ, ← ea]
    have hb := val_bounds na.1
    have k1 : 2 ^ (K % 24) * val a ≤ 8388608 * val a := Int.mul_le_mul_of_nonneg_right hp.2 hb.1
    omega
  have e1 : Ext w (w1.alloc (.cells #[.int .i64 0] 69)) := (hW.trans hmade.ext).alloc _
  have hz : ∀ x, x < w1.heap.size → ∀ i, (w1.alloc (.cells #[.int .i64 0] 69)).cell? ⟨x, i, none⟩ = w1.cell? ⟨x, i, none⟩ := fun x hx i => World.cell?_alloc_lt _ _ _ hx
  have hzf : ∀ x, x < w1.heap.size → ∀ i, (w1.alloc (.cells #[.int .i64 0] 69)).frozen? ⟨x, i, none⟩ = w1.frozen? ⟨x, i, none⟩ := fun x hx i => World.frozen?_alloc_old _ _ _ (by show x ≠ _; omega)
  have hc : ∀ j, j < q + L → w1.cell? ⟨w.heap.size + 1 + 1, j, none⟩ = some (.int .i64 0) := fun j hj => by rw [← hs]; exact hmade.cell j hj
  have hf : ∀ j, w1.frozen? ⟨w.heap.size + 1 + 1, j, none⟩ = false := fun j => by rw [← hs]; exact hmade.frozen j
  refine (sums_any _ (w.heap.size + 1 + 1) w1.heap.size q L L 80 #[.pointer (some ⟨w.heap.size, 0, none⟩), .pointer (some ⟨w.heap.size + 1, 0, none⟩)] (fun j => 2 ^ (K % 24) * nth a j) 0 (Nat.le_refl _) (by unfold maxLen; omega)
    (by simp; omega) (by omega) (fun j hj => ⟨0, by rw [hz _ (by omega)]; exact hc _ (by omega)⟩) (fun j => by rw [hzf _ (by omega)]; exact hf j) (World.cell?_alloc_new ..) (World.frozen?_alloc_new ..)
    (fun j hj => by have := hbd j; have := carry_bound (n := j) (M := 140737488355328) (h := fun j => 2 ^ (K % 24) * nth a j) (c := 0) (by omega) (by omega) (fun i _ => by have := hbd i; omega) j (Nat.le_refl _); omega) callShl
    (fun w' j ho hj => ?_)).mono ?_
  · refine shl1_any w' _ _ v a K j (by omega) (by omega) ?_ ?_ (ra.only e1 ho (fun i hi => by simp at hi; omega)) na.1
    · rw [ho.cell (by simp; omega) (by simp; omega), hz _ (by omega), hmade.ext.cell (by show w.heap.size < _; omega)]; exact c1
    · rw [ho.cell (by simp; omega) (by simp; omega), hz _ (by omega), hmade.ext.cell (by show w.heap.size + 1 < _; omega)]; exact c2
  · rintro e w' ⟨k, hk, rfl, ho, hcell, _, _, hlow⟩
    have hS := carry_end h0 h1
    have hn : ∀ j, j < q + L → nth ((List.range (q + L)).map fun x => if x < q then 0 else limbAt (fun j => 2 ^ (K % 24) * nth a j) 0 (x - q)) j = if j < q then 0 else limbAt (fun j => 2 ^ (K % 24) * nth a j) 0 (j - q) := fun j hj => by
      rw [nth_eq (by simpa using hj)]; simp
    have hlen : ((List.range (q + L)).map fun x => if x < q then 0 else limbAt (fun j => 2 ^ (K % 24) * nth a j) 0 (x - q)).length = q + L := by simp
    refine ⟨_, (List.range (q + L)).map fun x => if x < q then 0 else limbAt (fun j => 2 ^ (K % 24) * nth a j) 0 (x - q), rfl, hlen, ⟨_, q + L, by rw [hlen], by omega, by unfold maxLen; omega, fun _ => ⟨w.heap.size + 1 + 1, 0, rfl, by have := ho.size; simp at this; omega, fun j hj => ?_⟩⟩, fun j hj => ?_, ?_, e1.only ho (fun i hi => by simp at hi; omega)⟩
    · rw [hlen] at hj
      rw [hn j hj, Nat.zero_add]
      by_cases hjq : j < q
      · rw [if_pos hjq, hlow j hjq, hz _ (by omega)]; exact hc j hj
      · rw [if_neg hjq]
        have := hcell (j - q) (by omega)
        rwa [show q + (j - q) = j by omega] at this
    · rw [hlen] at hj
      rw [hn j hj]
      split
      · omega
      · exact limbAt_bounds _ _ _
    · rw [val_S, hlen, S_congr _ hn, S_zeros, hS, hT, bp_two]
      have e2 : K = 24 * q + K % 24 := by omega
      have e3 : m * 2 ^ K = 2 ^ (24 * q) * (2 ^ (K % 24) * m) := by
        rw [← Nat.mul_assoc, ← Nat.pow_add, ← e2, Nat.mul_comm]
      rw [e3]; push_cast; rfl

set_option maxHeartbeats 1000000 in
theorem shl_nat (w : World) (v : Value) (m K : Nat) (hK : K ≤ 20000) (h : N w v m) (hm : Lt 400 m) :
    Calls Tryd.prog 68 #[v, .int .i64 K] w (RetN w (m * 2 ^ K)) := by
  obtain ⟨a, ra, na, ea⟩ := h
  have la : a.length ≤ 400 := N.len hm na ea
  obtain ⟨A, c, rfl, h1, h2, h3⟩ := id ra
  have hmf := mkf
  have HA := Lib.hid ea
  clear ea h3
  by_cases hp : 0 < a.length
  · have hne : ((a.length : Int) == 0) = false := beq_eq_false_iff_ne.2 (by omega)
    go_enter Tryd.func68, Tryd.ntmps68
    go_wp2_with (at_make; refine wpList_mk_ints _ rfl _ rfl (K / 24 + a.length + 1) _ rfl (by omega) (by omega) ?_; intro w1 hmade)
    rw [show K / 24 + a.length + 1 = K / 24 + (a.length + 1) by omega] at hmade
    have eL : K / 24 + a.length + 1 - K / 24 = a.length + 1 := by omega
    have eN : K / 24 + (a.length + 1) = K / 24 + a.length + 1 := by omega
    have key := shl_sums w _ w1 _ a m K (K / 24) (a.length + 1) rfl rfl hK (by omega) na HA.out ra (two_ext ..) (two_cell0 ..) (two_cell1 ..) (two_size ..) hmade
    rw [eN] at key
    rw [eL]
    refine key.mono ?_
    rintro e w2 ⟨v, ys, rfl, hlen, hrow, hlim, hval, hE⟩
    clear key eL eN
    have HT := Lib.hid (trimmed_nat w2 _ ys _ hrow hlim hval)
    have HE := Lib.hid hE
    clear hrow hlim hval hlen hmade hE ra na
    go_wp2_with fail
    refine HT.out.mono ?_
    rintro e w3 ⟨v, rfl, hN, rfl⟩
    go_wp2
    go_ret
    exact ⟨v, rfl, hN, HE.out⟩
  · have e0 : a = [] := List.eq_nil_of_length_eq_zero (by omega)
    subst e0
    have hm0 : m = 0 := by have := HA.out; simp [val] at this; omega
    subst hm0
    clear ra na HA
    go_enter Tryd.func68, Tryd.ntmps68
    go_wp2
    go_ret
    exact ⟨_, rfl, by rw [Nat.zero_mul]; exact N.zero _ _ _ (by simp [maxLen]), two_ext ..⟩

end Go.Proofs.YtdfkhaajeojeeaaDoor

/- Walks: Shl below 0, behind. -/
namespace Go.Proofs.YtdfkhaajeojeeaaDoor
open Go.RowKit

set_option maxHeartbeats 1000000 in
theorem shl_neg (w : World) (v : Value) (m : Nat) (k : Int) (hk : k < 0) (h : N w v m) (hm : Lt 400 m) :
    Calls Tryd.prog 68 #[v, .int .i64 k] w (RetN w m) := by
  obtain ⟨a, ra, na, ea⟩ := h
  have la : a.length ≤ 400 := N.len hm na ea
  obtain ⟨A, c, rfl, h1, h2, h3⟩ := id ra
  have hmf := mkf
  have hmx : max k 0 = 0 := by omega
  have HA := Lib.hid ea
  clear ea h3
  by_cases hp : 0 < a.length
  · have hne : ((a.length : Int) == 0) = false := beq_eq_false_iff_ne.2 (by omega)
    go_enter Tryd.func68, Tryd.ntmps68
    go_wp2_with (at_make; refine wpList_mk_ints _ rfl _ rfl (a.length + 1) _ rfl (by omega) (by omega) ?_; intro w1 hmade)
    have key := shl_sums w _ w1 _ a m 0 0 (a.length + 1) rfl rfl (by omega) (by omega) na HA.out ra (two_ext ..) (two_cell0 ..) (two_cell1 ..) (two_size ..) (by rw [Nat.zero_add]; exact hmade)
    rw [Nat.zero_add, Nat.pow_zero, Nat.mul_one] at key
    refine key.mono ?_
    rintro e w2 ⟨v, ys, rfl, hlen, hrow, hlim, hval, hE⟩
    clear key
    have HT := Lib.hid (trimmed_nat w2 _ ys _ hrow hlim hval)
    have HE := Lib.hid hE
    clear hrow hlim hval hlen hmade hE ra na
    go_wp2_with fail
    refine HT.out.mono ?_
    rintro e w3 ⟨v, rfl, hN, rfl⟩
    go_wp2
    go_ret
    exact ⟨v, rfl, hN, HE.out⟩
  · have e0 : a = [] := List.eq_nil_of_length_eq_zero (by omega)
    subst e0
    have hm0 : m = 0 := by have := HA.out; simp [val] at this; omega
    subst hm0
    clear ra na HA
    go_enter Tryd.func68, Tryd.ntmps68
    go_wp2
    go_ret
    exact ⟨_, rfl, N.zero _ _ _ (by simp [maxLen]), two_ext ..⟩

end Go.Proofs.YtdfkhaajeojeeaaDoor

/- Walks: Right; guess, firstLimb, nextLimb, Root. -/
namespace Go.Proofs.YtdfkhaajeojeeaaDoor
open Go.RowKit

end Go.Proofs.YtdfkhaajeojeeaaDoor

/- Walks: guess, firstLimb, nextLimb, Root. -/
namespace Go.Proofs.YtdfkhaajeojeeaaDoor
open Go.RowKit

end Go.Proofs.YtdfkhaajeojeeaaDoor

/- The walk of Root. -/
namespace Go.Proofs.YtdfkhaajeojeeaaDoor
open Go.RowKit

end Go.Proofs.YtdfkhaajeojeeaaDoor

