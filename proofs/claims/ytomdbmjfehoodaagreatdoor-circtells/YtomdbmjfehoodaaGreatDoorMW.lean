/- Walks of package nat. -/
import Derived.Test.YtomdbmjfehoodaaGreatDoorMB
import Derived.Test.YtomdbmjfehoodaaGreatDoorBits
import Derived.Laws.CopyOwn
import Derived.Deep.RegionWith
import Derived.Deep.RegionHeld3
set_option maxRecDepth 8000
/- Walks: Cmp, Len, Int. -/
namespace Go.Proofs.YtomdbmjfehoodaaGreatDoor
open Go.RowKit

set_option maxHeartbeats 400000 in
theorem compare_any (x y : Int) (w : World) : Calls Tryz.prog 79 #[.int .i64 x, .int .i64 y] w fun e w' => e = .returned (.int .i64 (cmpI x y)) ∧ w = w' := by
  rcases Int.lt_trichotomy x y with h | h | h
  · rw [cmpI_lt h]
    go_enter Tryz.func79, Tryz.ntmps79
    go_wp2
    go_ret
    exact ⟨rfl, rfl⟩
  · rw [cmpI_eq h]
    subst h
    go_enter Tryz.func79, Tryz.ntmps79
    go_wp2
    go_ret
    exact ⟨rfl, rfl⟩
  · rw [cmpI_gt h]
    go_enter Tryz.func79, Tryz.ntmps79
    go_wp2
    go_ret
    exact ⟨rfl, rfl⟩

set_option maxHeartbeats 400000 in
theorem cmp_rows (w : World) (va vb : Value) (a b : List Int) (ra : Row w va a) (rb : Row w vb b) (na : NF a) (nb : NF b) :
    Calls Tryz.prog 104 #[va, vb] w (RetQ w (.int .i64 (cmpI (val a) (val b)))) := by
  have hl := ra.len_le
  have hl' := rb.len_le
  obtain ⟨A, c, rfl, h1, h2, h3⟩ := id ra
  obtain ⟨A', c', rfl, h1', h2', h3'⟩ := id rb
  have H3 := Lib.hid h3
  have H3' := Lib.hid h3'
  have NA := Lib.hid na
  have NB := Lib.hid nb
  clear h3 h3' na nb ra rb
  rcases Nat.lt_trichotomy a.length b.length with hlen | hlen | hlen
  · have e := cmpI_lt (val_short NA.out NB.out hlen)
    rw [e]
    have e1 : cmpI (a.length : Int) (b.length : Int) = -1 := cmpI_lt (by omega)
    clear e
    go_enter Tryz.func104, Tryz.ntmps104
    go_wp2_with fail
    refine (compare_any _ _ _).mono ?_
    rintro e w' ⟨rfl, rfl⟩
    rw [e1]
    go_wp2
    go_ret
    exact RetQ.same
  · have E := Lib.hid hlen
    have e1 : cmpI (a.length : Int) (b.length : Int) = 0 := cmpI_eq (by omega)
    clear hlen
    go_enter Tryz.func104, Tryz.ntmps104
    go_wp2_with fail
    refine (compare_any _ _ _).mono ?_
    rintro e w' ⟨rfl, rfl⟩
    rw [e1]
    clear e1
    go_wp2
    go_loopw [6] (fun i wr => ∃ k : Nat, k ≤ a.length ∧ i = .int .i64 ((k : Int) - 1) ∧ Hid (∀ j, k ≤ j → nth a j = nth b j) ∧ Qt w wr) (fun i _ => (intOf i + 1).toNat)
    case atStart => exact ⟨a.length, Nat.le_refl _, rfl, fun j hj => by rw [nth_past hj, nth_past (by have := E.out; omega)], Qt.refl _⟩
    case round =>
      obtain ⟨k, hk, rfl, hz, hq⟩ := hrel
      by_cases h0 : 0 < k
      · obtain ⟨b1, off1, rfl, hb1, hc1⟩ := H3.out (by omega)
        obtain ⟨b2, off2, rfl, hb2, hc2⟩ := H3'.out (by have := E.out; omega)
        have hcell1 := (hq.cell _).trans (hc1 (k - 1) (by omega))
        have hcell2 := (hq.cell _).trans (hc2 (k - 1) (by have := E.out; omega))
        have hkb : (k : Int) - 1 < (b.length : Int) := by have := E.out; omega
        have hka : (k : Int) - 1 < (a.length : Int) := by omega
        clear hc1 hc2 H3 H3'
        rcases Int.lt_trichotomy (nth a (k - 1)) (nth b (k - 1)) with hx | hx | hx
        · have ec := cmpI_lt hx
          have ev := cmpI_lt (val_lex NA.out.1 NB.out.1 E.out (by omega) (i := k - 1) (fun j hj => hz.out j (by omega)) hx)
          have EV := Lib.hid ev
          clear ev
          go_wp2
          go_quiet ((go_at_call 79; with_reducible exact quiet_left (compare_any _ _ _)))
          simp only [ec]
          clear ec hx
          go_wp2
          go_ret
          rw [EV.out]
          exact ⟨rfl, hq.drewN _⟩
        · have ec := cmpI_eq hx
          have HX := Lib.hid hx
          clear hx
          go_wp2
          go_quiet ((go_at_call 79; with_reducible exact quiet_left (compare_any _ _ _)))
          simp only [ec]
          clear ec
          go_wp2
          go_roundw
          case rel => exact ⟨k - 1, by omega, by go_num, fun j hj => by
            by_cases e : j = k - 1
            · subst e; exact HX.out
            · exact hz.out j (by omega), hq.drewN _⟩
          case measure => simp [intOf]; omega
        · have ec := cmpI_gt hx
          have ev := cmpI_gt (val_lex NB.out.1 NA.out.1 E.out.symm (by have := E.out; omega) (i := k - 1) (fun j hj => (hz.out j (by omega)).symm) hx)
          have EV := Lib.hid ev
          clear ev
          go_wp2
          go_quiet ((go_at_call 79; with_reducible exact quiet_left (compare_any _ _ _)))
          simp only [ec]
          clear ec hx
          go_wp2
          go_ret
          rw [EV.out]
          exact ⟨rfl, hq.drewN _⟩
      · have hk0 : k = 0 := by omega
        subst hk0
        have EV := Lib.hid (cmpI_eq (val_eq_of_nth E.out (fun j => hz.out j (Nat.zero_le _))))
        go_wp2
        go_ret
        rw [EV.out]
        exact ⟨rfl, hq⟩
  · have e := cmpI_gt (val_short NB.out NA.out hlen)
    rw [e]
    have e1 : cmpI (a.length : Int) (b.length : Int) = 1 := cmpI_gt (by omega)
    clear e
    go_enter Tryz.func104, Tryz.ntmps104
    go_wp2_with fail
    refine (compare_any _ _ _).mono ?_
    rintro e w' ⟨rfl, rfl⟩
    rw [e1]
    go_wp2
    go_ret
    exact RetQ.same

theorem bitLenAux_bl : ∀ (f x : Nat), x < 2 ^ f → Lib.bitLenAux f x = bl x
  | 0, x, h => by
    have : x = 0 := by simpa using h
    subst this; rfl
  | f + 1, x, h => by
    rw [Lib.bitLenAux]
    by_cases e : x = 0
    · rw [if_pos e, e]; rfl
    · rw [if_neg e, bitLenAux_bl f (x / 2) (by rw [Nat.pow_succ] at h; omega), bl_half e]; omega
theorem len8_bl (x : Nat) (h : x < 256) : Lib.len8 (x : Int) = (bl x : Int) := by
  rw [Lib.len8_of x (by omega) (by omega)]
  unfold Lib.bitLen
  rw [Int.toNat_natCast, bitLenAux_bl 64 x (by omega)]
theorem bl_div {x : Nat} (k : Nat) (h : 2 ^ k ≤ x) : bl x = k + bl (x / 2 ^ k) := by
  have hp := Nat.two_pow_pos k
  have h0 : x / 2 ^ k ≠ 0 := by have := Nat.div_pos h hp; omega
  have h1 := bl_lt (x / 2 ^ k)
  have h2 := bl_le h0
  have h3 : bl (x / 2 ^ k) ≠ 0 := by intro e0; rw [e0] at h1; simp at h1; omega
  obtain ⟨n, hn⟩ : ∃ n, bl (x / 2 ^ k) = n + 1 := ⟨bl (x / 2 ^ k) - 1, by omega⟩
  rw [hn] at h1 h2 ⊢
  rw [Nat.add_sub_cancel] at h2
  rw [← Nat.add_assoc]
  apply bl_is
  · rw [Nat.pow_add, Nat.mul_comm]; exact (Nat.le_div_iff_mul_le hp).1 h2
  · rw [Nat.add_assoc, Nat.pow_add, Nat.mul_comm]; exact (Nat.div_lt_iff_lt_mul hp).1 h1


theorem bitLen_bl (x : Nat) (h : x < 16777216) : Lib.bitLen x = bl x := bitLenAux_bl 64 x (by omega)
theorem bitslen_any (x : Int) (w : World) (h0 : 0 ≤ x) (h1 : x < 16777216) : Calls Tryz.prog 131 #[.int .u64 x] w fun e w' => e = .returned (.int .i64 (bl x.toNat)) ∧ w = w' := by
  go_enter Tryz.func131, Tryz.ntmps131
  go_wp2_with fail
  refine (len64_small x _ h0 (by omega)).mono ?_
  rintro e w' ⟨rfl, hw⟩
  obtain rfl := hw.symm
  rw [bitLen_bl _ (by omega)]
  go_wp2
  go_ret
  exact ⟨rfl, rfl⟩

set_option maxHeartbeats 400000 in
theorem len_any (w : World) (v : Value) (m : Nat) (h : N w v m) (hm : Lt 400 m) : Calls Tryz.prog 115 #[v] w fun e w' => e = .returned (.int .i64 (bl m)) ∧ w = w' := by
  obtain ⟨a, ra, na, ea⟩ := h
  have la : a.length ≤ 400 := N.len hm na ea
  obtain ⟨A, c, rfl, h1, h2, h3⟩ := id ra
  by_cases hp : 0 < a.length
  · obtain ⟨b, off, rfl, hb, hc⟩ := h3 hp
    have hcell := hc (a.length - 1) (by omega)
    obtain ⟨t0, t1⟩ := na.1.at (a.length - 1)
    obtain ⟨t, ht⟩ := Int.eq_ofNat_of_zero_le t0
    have hbl := bl_top na (by intro e; subst e; simp at hp) ea ht
    have hne : ((a.length : Int) == 0) = false := beq_eq_false_iff_ne.2 (by omega)
    rw [ht] at hcell t0 t1
    have HB := Lib.hid hbl
    have hbb : bl t ≤ 24 := bl_of_lt (n := 24) (by omega)
    clear hc h3 na ea ht hbl ra hm
    go_enter Tryz.func115, Tryz.ntmps115
    go_wp2_with fail
    refine (bitslen_any _ _ t0 t1).mono ?_
    rintro e w' ⟨rfl, rfl⟩
    rw [Int.toNat_natCast]
    go_wp2
    go_ret
    refine ⟨ret_int ?_, rfl⟩
    rw [HB.out]
    push_cast
    omega
  · have e0 : a = [] := List.eq_nil_of_length_eq_zero (by omega)
    subst e0
    have hm0 : m = 0 := by simp [val] at ea; omega
    subst hm0
    clear h3 ra na ea
    go_enter Tryz.func115, Tryz.ntmps115
    go_wp2
    go_ret
    exact ⟨rfl, rfl⟩

end Go.Proofs.YtomdbmjfehoodaaGreatDoor

/- Walks: Int, Sub, Mul, Of. -/
namespace Go.Proofs.YtomdbmjfehoodaaGreatDoor
open Go.RowKit

set_option maxHeartbeats 400000 in
theorem int_yes (w : World) (v : Value) (m : Nat) (h : N w v m) (hm : Lt 400 m) (hlt : m < 4611686018427387904) :
    Calls Tryz.prog 146 #[v] w fun e w' => e = .returned (.tuple #[.int .i64 m, .bool true]) ∧ w = w' := by
  have hb : bl m ≤ 62 := bl_of_lt (by omega)
  have HL := Lib.hid (len_any w v m h hm)
  obtain ⟨a, ra, na, ea⟩ := h
  have la : a.length ≤ 400 := N.len hm na ea
  obtain ⟨A, c, rfl, h1, h2, h3⟩ := id ra
  have H3 := Lib.hid h3
  have NA := Lib.hid na
  have EA := Lib.hid ea
  clear h3 na ea ra hm
  go_enter Tryz.func146, Tryz.ntmps146
  go_wp2_with fail
  refine HL.out.mono ?_
  rintro e w' ⟨rfl, rfl⟩
  go_wp2
  go_loop [4, 5] (fun n i => ∃ k : Nat, k ≤ a.length ∧ n = .int .i64 (val (a.drop k)) ∧ i = .int .i64 ((k : Int) - 1)) (fun _ i => (intOf i + 1).toNat)
  case atStart => exact ⟨a.length, Nat.le_refl _, by simp [val], rfl⟩
  case round =>
    obtain ⟨k, hk, rfl, rfl⟩ := hrel
    by_cases h0 : 0 < k
    · obtain ⟨b1, off1, rfl, hb1, hc1⟩ := H3.out (by omega)
      have hcell1 := hc1 (k - 1) (by omega)
      have hka : (k : Int) - 1 < (a.length : Int) := by omega
      have hd := val_drop (a := a) (k := k - 1) (by omega)
      have ek : k - 1 + 1 = k := by omega
      rw [ek] at hd
      have hd1 := val_drop_le NA.out.1 (k - 1)
      have hd2 := val_drop_le NA.out.1 k
      have hx := NA.out.1.at (k - 1)
      have hea := EA.out
      have b1 : 0 ≤ val (a.drop k) := hd2.1
      have b2 : val (a.drop k) * 16777216 + nth a (k - 1) ≤ 4611686018427387904 := by omega
      have b3 : val (a.drop k) ≤ 274877906944 := by omega
      have b4 := hx.1
      have HD := Lib.hid hd
      clear hd hd1 hd2 hx hea hc1 H3 ek
      go_wp2
      go_round
      case rel => exact ⟨k - 1, by omega, by rw [HD.out]; go_num, by go_num⟩
      case measure => simp [intOf]; omega
    · have hk0 : k = 0 := by omega
      subst hk0
      go_wp2
      go_ret2
      refine ⟨?_, rfl⟩
      rw [EA.out]
      rfl

set_option maxHeartbeats 400000 in
theorem int_no (w : World) (v : Value) (m : Nat) (h : N w v m) (hm : Lt 400 m) (hlt : 4611686018427387904 ≤ m) :
    Calls Tryz.prog 146 #[v] w fun e w' => e = .returned (.tuple #[.int .i64 0, .bool false]) ∧ w = w' := by
  have hb : 62 < bl m := bl_gt (by omega)
  have hb2 : bl m ≤ 9600 := hm.bits
  have HL := Lib.hid (len_any w v m h hm)
  clear h hm hlt
  go_enter Tryz.func146, Tryz.ntmps146
  go_wp2_with fail
  refine HL.out.mono ?_
  rintro e w' ⟨rfl, rfl⟩
  go_wp2
  go_ret2
  exact ⟨rfl, rfl⟩

theorem callSub : ∀ (x : Array Value) (W : World), (callFunc 127 x).run Tryz.prog W = .ok (.enter 127 x) W := fun _ _ => by kernel_rfl
theorem callMul : ∀ (x : Array Value) (W : World), (callFunc 136 x).run Tryz.prog W = .ok (.enter 136 x) W := fun _ _ => by kernel_rfl

set_option maxHeartbeats 400000 in
theorem sub1_any (w : World) (ba bb : Nat) (va vb : Value) (a b : List Int) (j : Nat) (hj : j ≤ 9000000000000000000)
    (ca : w.cell? ⟨ba, 0, none⟩ = some va) (cb : w.cell? ⟨bb, 0, none⟩ = some vb) (ra : Row w va a) (rb : Row w vb b)
    (b1 : 0 ≤ nth a j ∧ nth a j < 16777216) (b2 : 0 ≤ nth b j ∧ nth b j < 16777216) :
    Calls Tryz.prog 127 #[.int .i64 j, .pointer (some ⟨ba, 0, none⟩), .pointer (some ⟨bb, 0, none⟩)] w fun e w' =>
      e = .returned (.int .i64 (nth a j - nth b j)) ∧ ∃ q, w' = w.drewN q := by
  obtain ⟨b11, b12⟩ := b1
  obtain ⟨b21, b22⟩ := b2
  obtain ⟨A, c, rfl, h1, h2, h3⟩ := id ra
  obtain ⟨A', c', rfl, h1', h2', h3'⟩ := id rb
  clear h3 h3'
  go_enter Tryz.func127, Tryz.ntmps127
  go_wp2
  have hj0 : (0 : Int) ≤ (j : Int) := by omega
  go_quiet ((go_at_call 88; first | with_reducible exact quiet_left (at_any _ _ _ _ (ra.drewN _) hj0) | with_reducible exact quiet_left (at_any _ _ _ _ (rb.drewN _) hj0)))
  go_wp2
  go_ret
  exact ⟨rfl, _, rfl⟩


set_option maxHeartbeats 400000 in
theorem sub_no (w : World) (va vb : Value) (m n : Nat) (ha : N w va m) (hb : N w vb n) (hlt : m < n) :
    Calls Tryz.prog 108 #[va, vb] w (RetNB w 0 false) := by
  obtain ⟨a, ra, na, ea⟩ := ha
  obtain ⟨b, rb, nb, eb⟩ := hb
  have HC := Lib.hid fun W (e : Ext w W) => cmp_rows W va vb a b (ra.ext e) (rb.ext e) na nb
  have hc : cmpI (val a) (val b) = -1 := cmpI_lt (by omega)
  rw [hc] at HC
  obtain ⟨A, c, rfl, h1, h2, h3⟩ := id ra
  obtain ⟨A', c', rfl, h1', h2', h3'⟩ := id rb
  clear h3 h3' ra rb na nb ea eb hc
  go_enter Tryz.func108, Tryz.ntmps108
  go_wp2_with fail
  refine (HC.out _ (two_ext ..)).mono ?_
  rintro e w1 ⟨rfl, hq⟩
  go_wp2
  go_ret2
  exact ⟨_, rfl, N.zero _ _ _ (by simp [maxLen]), (two_ext ..).trans hq.ext⟩

theorem sub_sums (w w1 w2 : World) (A A' : Option Addr) (a b : List Int) (c c' m n : Nat) (ra : Row w (.slice A a.length c) a) (rb : Row w (.slice A' b.length c') b) (na : NF a) (nb : NF b)
    (ea : val a = m) (eb : val b = n) (hlt : n ≤ m) (lab : b.length ≤ a.length) (la : a.length ≤ 1000000) (ke : Ext w w1)
    (k1 : w1.cell? ⟨w.heap.size, 0, none⟩ = some (.slice A a.length c)) (k2 : w1.cell? ⟨w.heap.size + 1, 0, none⟩ = some (.slice A' b.length c')) (hz : w.heap.size + 1 < w1.heap.size)
    (hmade : Made a.length (w1.alloc (.cells #[.int .i64 0] 93)) w2) :
    Calls Tryz.prog 86 #[.slice (some ⟨w1.heap.size + 1, 0, none⟩) a.length a.length, .func (.func 127) #[] #[.pointer (some ⟨w.heap.size, 0, none⟩), .pointer (some ⟨w.heap.size + 1, 0, none⟩)],
      .func (.func 89) #[.pointer (some ⟨w1.heap.size, 0, none⟩)] #[]] w2 (RetN w (m - n)) := by
  refine box_sums w _ w2 _ _ w.heap.size (w.heap.size + 1) w1.heap.size _ a.length (m - n) _ _ (fun j => nth a j - nth b j) (ke.alloc _) ?_ ?_ (World.cell?_alloc_new ..) (World.frozen?_alloc_new ..) (by omega) (by omega) (by omega) (World.size_alloc ..) hmade la
    (fun j _ => by have := na.1.at j; have := nb.1.at j; omega) ?_ ?_ callSub
    (fun w' j he h1 h2 hj => sub1_any w' _ _ _ _ a b j (by omega) h1 h2 (ra.ext he) (rb.ext he) (na.1.at j) (nb.1.at j))
  · rw [World.cell?_alloc_lt _ _ _ (by show w.heap.size < _; omega)]; exact k1
  · rw [World.cell?_alloc_lt _ _ _ (by show w.heap.size + 1 < _; omega)]; exact k2
  · rw [S_sub, val_S_ge (by omega), val_S_ge (by omega), ea, eb]; omega
  · have h1 := (val_bounds na.1).2
    omega

set_option maxHeartbeats 400000 in
theorem sub_yes (w : World) (va vb : Value) (m n : Nat) (ha : N w va m) (hb : N w vb n) (hm : Lt 400 m) (hlt : n ≤ m) :
    Calls Tryz.prog 108 #[va, vb] w (RetNB w (m - n) true) := by
  obtain ⟨a, ra, na, ea⟩ := ha
  obtain ⟨b, rb, nb, eb⟩ := hb
  have la : a.length ≤ 400 := N.len hm na ea
  have HC := Lib.hid fun W (e : Ext w W) => cmp_rows W va vb a b (ra.ext e) (rb.ext e) na nb
  have hc0 : ¬ cmpI (val a) (val b) < 0 := by
    rcases Nat.lt_or_ge n m with h | h
    · rw [cmpI_gt (by omega)]; omega
    · rw [cmpI_eq (by omega)]; omega
  have lab : b.length ≤ a.length := by
    rcases Nat.lt_or_ge a.length b.length with h | h
    · have := val_short na nb h; omega
    · exact h
  obtain ⟨x, hx⟩ : ∃ x, x = cmpI (val a) (val b) := ⟨_, rfl⟩
  rw [← hx] at HC hc0
  clear hx
  obtain ⟨A, c, rfl, h1, h2, h3⟩ := id ra
  obtain ⟨A', c', rfl, h1', h2', h3'⟩ := id rb
  clear h3 h3'
  have HA := Lib.hid ea
  have HB := Lib.hid eb
  clear ea eb
  go_enter Tryz.func108, Tryz.ntmps108
  go_wp2_with fail
  refine (HC.out _ (two_ext ..)).mono ?_
  rintro e w1 ⟨rfl, hq⟩
  have k1 := (hq.cell _).trans (two_cell0 w #[.slice A a.length c] #[.slice A' b.length c'] 24 24 0)
  have k2 := (hq.cell _).trans (two_cell1 w #[.slice A a.length c] #[.slice A' b.length c'] 24 24 0)
  have ks : w1.heap.size = w.heap.size + 1 + 1 := hq.size.trans (two_size ..)
  have ke := (two_ext ..).trans hq.ext
  simp only [List.getElem?_toArray, List.getElem?_cons_zero] at k1 k2
  have KS := Lib.hid ks
  clear ks hq HC
  have hmf := mkf
  have hz : w.heap.size + 1 < w1.heap.size := by have := KS.out; omega
  have hz0 : w.heap.size < w1.heap.size := by omega
  go_wp2_with (at_make; refine wpList_mk_ints _ rfl _ rfl a.length _ rfl rfl (by omega) ?_; intro w2 hmade)
  refine (sub_sums w w1 w2 A A' a b c c' m n ra rb na nb HA.out HB.out hlt lab (by omega) ke k1 k2 hz hmade).mono ?_
  rintro e w3 ⟨v, rfl, hN, hE⟩
  go_wp2
  go_ret2
  exact ⟨v, rfl, hN, hE⟩

set_option maxHeartbeats 1000000 in
theorem mul1_any (w : World) (ba bb : Nat) (va vb : Value) (a b : List Int) (j : Nat) (hj : j < a.length + b.length)
    (ca : w.cell? ⟨ba, 0, none⟩ = some va) (cb : w.cell? ⟨bb, 0, none⟩ = some vb) (ra : Row w va a) (rb : Row w vb b) (na : NF a) (nb : NF b) (la : a.length ≤ 1000) (lb : b.length ≤ 1000) :
    Calls Tryz.prog 136 #[.int .i64 j, .pointer (some ⟨bb, 0, none⟩), .pointer (some ⟨ba, 0, none⟩)] w fun e w' =>
      e = .returned (.int .i64 (conv a b j)) ∧ ∃ q, w' = w.drewN q := by
  obtain ⟨A, c, rfl, h1, h2, h3⟩ := id ra
  obtain ⟨A', c', rfl, h1', h2', h3'⟩ := id rb
  have H3 := Lib.hid h3
  have H3' := Lib.hid h3'
  have NA := Lib.hid na
  have NB := Lib.hid nb
  clear h3 h3' na nb ra rb
  go_enter Tryz.func136, Tryz.ntmps136
  go_wp2
  go_loopw [5, 6] (fun s i wr => ∃ k : Nat, j + 1 ≤ k + b.length ∧ k ≤ a.length ∧ k ≤ j + 1 ∧ i = .int .i64 k ∧ s = .int .i64 (psum a b j k) ∧ Qt w wr) (fun _ i _ => a.length - (intOf i).toNat)
  case atStart => exact ⟨j + 1 - b.length, by omega, by omega, by omega, by go_num, by rw [psum_lo], Qt.refl _⟩
  case round =>
    obtain ⟨k, hk1, hk2, hk3, rfl, rfl, hq⟩ := hrel
    have ca' := (hq.cell _).trans ca
    have cb' := (hq.cell _).trans cb
    have CA := Lib.hid ca
    have CB := Lib.hid cb
    clear ca cb
    by_cases c1 : k < a.length
    · by_cases c2 : k ≤ j
      · obtain ⟨b1, off1, rfl, hb1, hc1⟩ := H3.out (by omega)
        obtain ⟨b2, off2, rfl, hb2, hc2⟩ := H3'.out (by omega)
        have hcell1 := (hq.cell _).trans (hc1 k c1)
        have hcell2 := (hq.cell _).trans (hc2 (j - k) (by omega))
        have i1 : (0 : Int) ≤ (j : Int) - (k : Int) := by omega
        have i2 : (j : Int) - (k : Int) < (b.length : Int) := by omega
        obtain ⟨s1, s2⟩ := col_bounds NA.out NB.out la j k (by omega)
        obtain ⟨t1, t2⟩ := term_bounds NA.out.1 NB.out.1 j k
        have et : term a b j k = nth a k * nth b (j - k) := by unfold term; rw [if_pos c2]
        rw [et] at t1 t2
        have ep : psum a b j (k + 1) = psum a b j k + nth a k * nth b (j - k) := by rw [psum, et]
        have EP := Lib.hid ep
        clear hc1 hc2 H3 H3' et ep
        go_wp2
        go_quiet (fail)
        go_wp2
        go_roundw
        case rel => exact ⟨k + 1, by omega, by omega, by omega, by go_num, by rw [EP.out], hq.drewN _⟩
        case measure => simp [intOf]; omega
      · have E := Lib.hid (psum_end (a := a) (b := b) (p := j) (k := k) (.inr (by omega)))
        have c3 : ¬ (k : Int) ≤ (j : Int) := by omega
        go_wp2
        go_ret
        obtain ⟨q, rfl⟩ := hq
        exact ⟨ret_int E.out, q, rfl⟩
    · have E := Lib.hid (psum_end (a := a) (b := b) (p := j) (k := k) (.inl (by omega)))
      have c3 : ¬ (k : Int) < (a.length : Int) := by omega
      go_wp2
      go_ret
      obtain ⟨q, rfl⟩ := hq
      exact ⟨ret_int E.out, q, rfl⟩

theorem mul_sums (w w1 : World) (A A' : Option Addr) (a b : List Int) (c c' m n : Nat) (ra : Row w (.slice A a.length c) a) (rb : Row w (.slice A' b.length c') b) (na : NF a) (nb : NF b)
    (ea : val a = m) (eb : val b = n) (la : a.length ≤ 1000) (lb : b.length ≤ 1000)
    (hmade : Made (a.length + b.length) (three w #[.slice A a.length c] #[.slice A' b.length c'] #[.int .i64 0] 24 24 93) w1) :
    Calls Tryz.prog 86 #[.slice (some ⟨w.heap.size + 1 + 1 + 1, 0, none⟩) (a.length + b.length) (a.length + b.length), .func (.func 136) #[] #[.pointer (some ⟨w.heap.size + 1, 0, none⟩), .pointer (some ⟨w.heap.size, 0, none⟩)],
      .func (.func 89) #[.pointer (some ⟨w.heap.size + 1 + 1, 0, none⟩)] #[]] w1 (RetN w (m * n)) := by
  refine box_sums w _ w1 _ _ w.heap.size (w.heap.size + 1) (w.heap.size + 1 + 1) _ (a.length + b.length) (m * n) _ _ (conv a b) (three_ext ..) (three_0 ..) (three_1 ..) (three_2 ..) (three_f2 ..) (by omega) (by omega) (by omega) (three_size ..) hmade (by omega)
    (fun j _ => ?_) ?_ ?_ callMul
    (fun w' j he h1 h2 hj => mul1_any w' _ _ _ _ a b j hj h1 h2 (ra.ext he) (rb.ext he) na nb la lb)
  · rw [← psum_conv a b j a.length (Nat.le_refl _)]
    have := col_bounds na nb la j a.length (Nat.le_refl _)
    omega
  · rw [S_conv a b _ (Nat.le_refl _), ea, eb]; push_cast; rfl
  · have := (Lt.mul ⟨by rw [← ea]; exact (val_bounds na.1).2⟩ ⟨by rw [← eb]; exact (val_bounds nb.1).2⟩ : Lt (a.length + b.length) (m * n))
    exact this.out

set_option maxHeartbeats 400000 in
theorem mul_any (w : World) (va vb : Value) (m n : Nat) (ha : N w va m) (hb : N w vb n) (hm : Lt 400 m) (hn : Lt 400 n) :
    Calls Tryz.prog 118 #[va, vb] w (RetN w (m * n)) := by
  obtain ⟨a, ra, na, ea⟩ := ha
  obtain ⟨b, rb, nb, eb⟩ := hb
  have la : a.length ≤ 400 := N.len hm na ea
  have lb : b.length ≤ 400 := N.len hn nb eb
  obtain ⟨A, c, rfl, h1, h2, h3⟩ := id ra
  obtain ⟨A', c', rfl, h1', h2', h3'⟩ := id rb
  clear h3 h3'
  have HA := Lib.hid ea
  have HB := Lib.hid eb
  clear ea eb
  have hmf := mkf
  go_enter Tryz.func118, Tryz.ntmps118
  go_wp2_with (at_make; refine wpList_mk_ints _ rfl _ rfl (a.length + b.length) _ rfl (by omega) (by omega) ?_; intro w1 hmade)
  refine (mul_sums w w1 A A' a b c c' m n ra rb na nb HA.out HB.out (by omega) (by omega) hmade).mono ?_
  rintro e w2 ⟨v, rfl, hN, hE⟩
  go_wp2
  go_ret
  exact ⟨v, rfl, hN, hE⟩

theorem callOf : ∀ (x : Array Value) (W : World), (callFunc 91 x).run Tryz.prog W = .ok (.enter 91 x) W := fun _ _ => by kernel_rfl
theorem of1_any (w : World) (j : Int) : Calls Tryz.prog 91 #[.int .i64 j] w fun e w' => e = .returned (.int .i64 0) ∧ ∃ q, w' = w.drewN q := by
  go_enter Tryz.func91, Tryz.ntmps91
  go_wp2
  go_ret
  exact ⟨rfl, 0, rfl⟩

theorem of_sums (w w1 : World) (n : Int) (h0 : 0 ≤ n) (h1 : n ≤ 9223372036854775807) (hmade : Made 3 (w.alloc (.cells #[.int .i64 n] 93)) w1) :
    Calls Tryz.prog 86 #[.slice (some ⟨w.heap.size + 1, 0, none⟩) 3 3, .func (.func 91) #[] #[],
      .func (.func 89) #[.pointer (some ⟨w.heap.size, 0, none⟩)] #[]] w1 (RetN w n.toNat) := by
  have key := sums_new _ w1 w.heap.size 3 91 #[] (fun _ => 0) n n.toNat (by omega) hmade (World.cell?_alloc_new ..) (World.frozen?_alloc_new ..)
    (fun j _ => by have := carry_bound_zero (c := n) (M := 9223372036854775807) ⟨h0, h1⟩ j; omega) (by rw [S_zero]; omega) (by simp [bp]; omega) callOf (fun w' j _ _ => of1_any w' j)
  rw [World.size_alloc] at key
  refine key.mono ?_
  rintro e w' ⟨v, rfl, hN, ho⟩
  exact ⟨v, rfl, hN, ((Ext.refl w).alloc _ |>.trans hmade.ext).only ho (fun i hi => by simp at hi; omega)⟩

set_option maxHeartbeats 400000 in
theorem of_any (w : World) (n : Int) (h1 : n ≤ 9223372036854775807) : Calls Tryz.prog 56 #[.int .i64 n] w (RetN w n.toNat) := by
  have hmf := mkf
  have he : (max n 0).toNat = n.toNat := by omega
  have HE := Lib.hid he
  clear he
  go_enter Tryz.func56, Tryz.ntmps56
  go_wp2_with (at_make; refine wpList_mk_ints _ rfl _ rfl 3 _ rfl rfl (by omega) ?_; intro w1 hmade)
  refine (of_sums w w1 (max n 0) (by omega) (by omega) hmade).mono ?_
  rintro e w2 ⟨v, rfl, hN, hE⟩
  rw [HE.out] at hN
  go_wp2
  go_ret
  exact ⟨v, rfl, hN, hE⟩

end Go.Proofs.YtomdbmjfehoodaaGreatDoor

/- Walks: Shr, Shl, behind. -/
namespace Go.Proofs.YtomdbmjfehoodaaGreatDoor
open Go.RowKit

theorem callShr : ∀ (x : Array Value) (W : World), (callFunc 87 x).run Tryz.prog W = .ok (.enter 87 x) W := fun _ _ => by kernel_rfl
theorem callShl : ∀ (x : Array Value) (W : World), (callFunc 143 x).run Tryz.prog W = .ok (.enter 143 x) W := fun _ _ => by kernel_rfl

set_option maxHeartbeats 1000000 in
theorem shr1_any (w : World) (bl bd : Nat) (v : Value) (l : List Int) (d j : Nat) (hj : j < l.length) (hd : d < 24)
    (cl : w.cell? ⟨bl, 0, none⟩ = some v) (cd : w.cell? ⟨bd, 0, none⟩ = some (.int .i64 d)) (rl : Row w v l) (nl : Limbs l) :
    Calls Tryz.prog 87 #[.int .i64 j, .pointer (some ⟨bl, 0, none⟩), .pointer (some ⟨bd, 0, none⟩)] w fun e w' =>
      e = .returned (.int .i64 (shrAt l d j)) ∧ ∃ q, w' = w.drewN q := by
  have hlen := rl.len_le
  obtain ⟨A, c, rfl, h1, h2, h3⟩ := id rl
  obtain ⟨b, off, rfl, hb, hc⟩ := h3 (by omega)
  have hcell := hc j hj
  obtain ⟨x0, x1⟩ := nl.at j
  obtain ⟨y0, y1⟩ := nl.at (j + 1)
  have hj0 : (0 : Int) ≤ (j : Int) + 1 := by omega
  have B := Lib.hid (shr_bounds nl d j)
  clear h3 hc nl
  go_enter Tryz.func87, Tryz.ntmps87
  go_wp2
  go_quiet ((go_at_call 88; with_reducible exact quiet_left (at_any _ _ _ _ (rl.drewN _) hj0)))
  go_wp2
  go_ret
  exact ⟨ret_int (shr_word B), nq, rfl⟩

theorem shr_sums (w w1 : World) (v : Value) (a : List Int) (m K q d L : Nat) (hq : q = min (K / 24) a.length) (hd : d = K % 24) (na : NF a) (ea : val a = m) (la : a.length ≤ 1000000)
    (hL : L = a.length - q) (rl : Row w v (a.drop q)) (hmade : Made L (three w #[v] #[.int .i64 d] #[.int .i64 0] 24 3 93) w1) :
    Calls Tryz.prog 86 #[.slice (some ⟨w.heap.size + 1 + 1 + 1, 0, none⟩) L L, .func (.func 87) #[] #[.pointer (some ⟨w.heap.size, 0, none⟩), .pointer (some ⟨w.heap.size + 1, 0, none⟩)],
      .func (.func 89) #[.pointer (some ⟨w.heap.size + 1 + 1, 0, none⟩)] #[]] w1 (RetN w (m / 2 ^ K)) := by
  have hlen : (a.drop q).length = L := by simp; omega
  have nl : Limbs (a.drop q) := na.1.drop q
  have hd24 : d < 24 := by omega
  have hv : val (a.drop q) / 2 ^ d = ((m / 2 ^ K : Nat) : Int) := by
    have e1 : val (a.drop q) = val (a.drop (K / 24)) := by
      by_cases h : K / 24 ≤ a.length
      · rw [hq, Nat.min_eq_left h]
      · rw [hq, Nat.min_eq_right (by omega), List.drop_eq_nil_of_le (Nat.le_refl _), List.drop_eq_nil_of_le (by omega)]
    rw [e1, val_drop_div na.1, ea, bp_two]
    have e2 : K = 24 * (K / 24) + d := by omega
    have e3 : m / 2 ^ K = m / 2 ^ (24 * (K / 24)) / 2 ^ d := by
      rw [Nat.div_div_eq_div_mul, ← Nat.pow_add, ← e2]
    rw [e3]
    push_cast
    rfl
  have hS := S_shr d hd24 (a.drop q) nl
  rw [hlen] at hS
  refine box_sums w _ w1 _ _ w.heap.size (w.heap.size + 1) (w.heap.size + 1 + 1) _ L (m / 2 ^ K) _ _ (shrAt (a.drop q) d) (three_ext ..) (three_0 ..) (three_1 ..) (three_2 ..) (three_f2 ..) (by omega) (by omega) (by omega) (three_size ..) hmade (by omega)
    (fun j _ => by have := shr_bounds nl d j; omega) (by rw [hS, hv]) ?_ callShr
    (fun w' j he h1 h2 hj => shr1_any w' _ _ v (a.drop q) d j (by omega) hd24 h1 h2 (rl.ext he) nl)
  have h1 := val_bounds nl
  rw [hlen] at h1
  have h2 : val (a.drop q) / 2 ^ d ≤ val (a.drop q) := Int.ediv_le_self _ h1.1
  omega

set_option maxHeartbeats 1000000 in
theorem shr_nat (w : World) (v : Value) (m K : Nat) (hK : K ≤ 9223372036854775807) (h : N w v m) (hm : Lt 400 m) :
    Calls Tryz.prog 54 #[v, .int .i64 K] w (RetN w (m / 2 ^ K)) := by
  obtain ⟨a, ra, na, ea⟩ := h
  have la : a.length ≤ 400 := N.len hm na ea
  obtain ⟨A, c, rfl, h1, h2, h3⟩ := id ra
  have hmf := mkf
  have HA := Lib.hid ea
  clear ea h3
  go_enter Tryz.func54, Tryz.ntmps54
  go_wp2_with (at_make; refine wpList_mk_ints _ rfl _ rfl _ _ rfl rfl (by omega) ?_; intro w1 hmade)
  all_goals
    refine (shr_sums w w1 _ a m K (min ((K : Int) / 24) (a.length : Int)).toNat (K % 24) _ (by omega) rfl na HA.out (by omega) rfl (ra.cut (by omega)) hmade).mono ?_
    rintro e w2 ⟨v, rfl, hN, hE⟩
    go_wp2
    go_ret
    exact ⟨v, rfl, hN, hE⟩

set_option maxHeartbeats 1000000 in
theorem shr_neg (w : World) (v : Value) (m : Nat) (k : Int) (hk : k < 0) (h : N w v m) (hm : Lt 400 m) :
    Calls Tryz.prog 54 #[v, .int .i64 k] w (RetN w m) := by
  obtain ⟨a, ra, na, ea⟩ := h
  have la : a.length ≤ 400 := N.len hm na ea
  obtain ⟨A, c, rfl, h1, h2, h3⟩ := id ra
  have hmf := mkf
  have hmx : max k 0 = 0 := by omega
  have HA := Lib.hid ea
  clear ea h3
  go_enter Tryz.func54, Tryz.ntmps54
  go_wp2_with (at_make; refine wpList_mk_ints _ rfl _ rfl _ _ rfl rfl (by omega) ?_; intro w1 hmade)
  all_goals
    have key := shr_sums w w1 _ a m 0 (min (0 : Int) (a.length : Int)).toNat 0 _ (by omega) rfl na HA.out (by omega) rfl (ra.cut (by omega)) hmade
    rw [Nat.pow_zero, Nat.div_one] at key
    refine key.mono ?_
    rintro e w2 ⟨v, rfl, hN, hE⟩
    clear key
    go_wp2
    go_ret
    exact ⟨v, rfl, hN, hE⟩

set_option maxHeartbeats 1000000 in
theorem shl1_any (w : World) (ba bk : Nat) (v : Value) (a : List Int) (K j : Nat) (hK : K ≤ 1000000) (hj : j ≤ 1000000)
    (ca : w.cell? ⟨ba, 0, none⟩ = some v) (ck : w.cell? ⟨bk, 0, none⟩ = some (.int .i64 K)) (ra : Row w v a) (na : Limbs a) :
    Calls Tryz.prog 143 #[.int .i64 j, .pointer (some ⟨ba, 0, none⟩), .pointer (some ⟨bk, 0, none⟩)] w fun e w' =>
      e = .returned (.int .i64 (2 ^ (K % 24) * nth a j)) ∧ ∃ q, w' = w.drewN q := by
  have hlen := ra.len_le
  obtain ⟨A, c, rfl, h1, h2, h3⟩ := id ra
  obtain ⟨y0, y1⟩ := na.at j
  have hj0 : (0 : Int) ≤ (j : Int) := by omega
  clear h3 na
  go_enter Tryz.func143, Tryz.ntmps143
  go_wp2
  go_quiet ((go_at_call 88; with_reducible exact quiet_left (at_any _ _ _ _ (ra.drewN _) hj0)))
  go_wp2
  go_ret
  exact ⟨ret_int (shl_word (by omega) y0 y1), nq, rfl⟩

theorem trimmed_nat (w : World) (v : Value) (ys : List Int) (m : Nat) (h : Row w v ys) (hl : Limbs ys) (hv : val ys = (m : Int)) : Calls Tryz.prog 114 #[v] w (RetH w m) := by
  refine (trimmed_any w v ys h).mono ?_
  rintro e w' ⟨A, c, k, rfl, hk, rfl, rfl, hz, hlast⟩
  exact ⟨_, rfl, ⟨ys.take k, h.take k hk, nf_take hl hk hlast, by rw [val_take hk hz, hv]⟩, rfl⟩

theorem shl_sums (w W w1 : World) (v : Value) (a : List Int) (m K q L : Nat) (hq : q = K / 24) (hL : L = a.length + 1) (hK : K ≤ 20000) (la : a.length ≤ 1000) (na : NF a) (ea : val a = m) (ra : Row w v a)
    (hW : Ext w W) (c1 : W.cell? ⟨w.heap.size, 0, none⟩ = some v) (c2 : W.cell? ⟨w.heap.size + 1, 0, none⟩ = some (.int .i64 K)) (hs : W.heap.size = w.heap.size + 1 + 1)
    (hmade : Made (q + L) W w1) :
    Calls Tryz.prog 86 #[.slice (some ⟨w.heap.size + 1 + 1, q, none⟩) L L, .func (.func 143) #[] #[.pointer (some ⟨w.heap.size, 0, none⟩), .pointer (some ⟨w.heap.size + 1, 0, none⟩)],
      .func (.func 89) #[.pointer (some ⟨w1.heap.size, 0, none⟩)] #[]] (w1.alloc (.cells #[.int .i64 0] 93)) (ShlPost w (w.heap.size + 1 + 1) (q + L) (m * 2 ^ K)) := by
  have hd : K % 24 < 24 := Nat.mod_lt _ (by omega)
  have hs1 := hmade.size
  have hbd : ∀ j, 0 ≤ 2 ^ (K % 24) * nth a j ∧ 2 ^ (K % 24) * nth a j ≤ 140737488355328 := fun j => shl_bounds hd (na.1.at j).1 (na.1.at j).2
  have hT : 0 + S (fun j => 2 ^ (K % 24) * nth a j) L = 2 ^ (K % 24) * (m : Int) := by rw [S_mul, val_S_ge (by omega), ea]; omega
  have hp := two_pow_le (K % 24) hd
  have h0 : 0 ≤ 0 + S (fun j => 2 ^ (K % 24) * nth a j) L := by rw [hT]; exact Int.mul_nonneg (by omega) (by omega)
  have h1 : 0 + S (fun j => 2 ^ (K % 24) * nth a j) L < bp L := by
    rw [hT, hL, bp_succ, ← ea]
    have hb := val_bounds na.1
    have k1 : 2 ^ (K % 24) * val a ≤ 8388608 * val a := Int.mul_le_mul_of_nonneg_right hp.2 hb.1
    omega
  have e1 : Ext w (w1.alloc (.cells #[.int .i64 0] 93)) := (hW.trans hmade.ext).alloc _
  have hz : ∀ x, x < w1.heap.size → ∀ i, (w1.alloc (.cells #[.int .i64 0] 93)).cell? ⟨x, i, none⟩ = w1.cell? ⟨x, i, none⟩ := fun x hx i => World.cell?_alloc_lt _ _ _ hx
  have hzf : ∀ x, x < w1.heap.size → ∀ i, (w1.alloc (.cells #[.int .i64 0] 93)).frozen? ⟨x, i, none⟩ = w1.frozen? ⟨x, i, none⟩ := fun x hx i => World.frozen?_alloc_old _ _ _ (by show x ≠ _; omega)
  have hc : ∀ j, j < q + L → w1.cell? ⟨w.heap.size + 1 + 1, j, none⟩ = some (.int .i64 0) := fun j hj => by rw [← hs]; exact hmade.cell j hj
  have hf : ∀ j, w1.frozen? ⟨w.heap.size + 1 + 1, j, none⟩ = false := fun j => by rw [← hs]; exact hmade.frozen j
  refine (sums_any _ (w.heap.size + 1 + 1) w1.heap.size q L L 143 #[.pointer (some ⟨w.heap.size, 0, none⟩), .pointer (some ⟨w.heap.size + 1, 0, none⟩)] (fun j => 2 ^ (K % 24) * nth a j) 0 (Nat.le_refl _) (by unfold maxLen; omega)
    (by simp; omega) (by omega) (fun j hj => ⟨0, by rw [hz _ (by omega)]; exact hc _ (by omega)⟩) (fun j => by rw [hzf _ (by omega)]; exact hf j) (World.cell?_alloc_new ..) (World.frozen?_alloc_new ..)
    (fun j hj => by have := hbd j; have := carry_bound (n := j) (M := 140737488355328) (h := fun j => 2 ^ (K % 24) * nth a j) (c := 0) (by omega) (by omega) (fun i _ => by have := hbd i; omega) j (Nat.le_refl _); omega) callShl
    (fun w' j ho hj => ?_)).mono ?_
  · refine shl1_any w' _ _ v a K j (by omega) (by omega) ?_ ?_ (ra.only e1 ho (fun i hi => by simp at hi; omega)) na.1
    · rw [ho.cell (by simp; omega) (by simp; omega), hz _ (by omega), hmade.ext.cell (by show w.heap.size < _; omega)]; exact c1
    · rw [ho.cell (by simp; omega) (by simp; omega), hz _ (by omega), hmade.ext.cell (by show w.heap.size + 1 < _; omega)]; exact c2
  · rintro e w' ⟨k, hk, rfl, ho, hcell, _, _, hlow⟩
    have hS := carry_end h0 h1
    have hn : ∀ j, j < q + L → nth ((List.range (q + L)).map fun x => if x < q then 0 else limbAt (fun j => 2 ^ (K % 24) * nth a j) 0 (x - q)) j = if j < q then 0 else limbAt (fun j => 2 ^ (K % 24) * nth a j) 0 (j - q) := fun j hj => by
      rw [nth_eq (by simpa using hj)]; simp
    have hlen : ((List.range (q + L)).map fun x => if x < q then 0 else limbAt (fun j => 2 ^ (K % 24) * nth a j) 0 (x - q)).length = q + L := by simp
    refine ⟨_, (List.range (q + L)).map fun x => if x < q then 0 else limbAt (fun j => 2 ^ (K % 24) * nth a j) 0 (x - q), rfl, hlen, ⟨_, q + L, by rw [hlen], by omega, by unfold maxLen; omega, fun _ => ⟨w.heap.size + 1 + 1, 0, rfl, by have := ho.size; simp at this; omega, fun j hj => ?_⟩⟩, fun j hj => ?_, ?_, e1.only ho (fun i hi => by simp at hi; omega)⟩
    · rw [hlen] at hj
      rw [hn j hj, Nat.zero_add]
      by_cases hjq : j < q
      · rw [if_pos hjq, hlow j hjq, hz _ (by omega)]; exact hc j hj
      · rw [if_neg hjq]
        have := hcell (j - q) (by omega)
        rwa [show q + (j - q) = j by omega] at this
    · rw [hlen] at hj
      rw [hn j hj]
      split
      · omega
      · exact limbAt_bounds _ _ _
    · rw [val_S, hlen, S_congr _ hn, S_zeros, hS, hT, bp_two]
      have e2 : K = 24 * q + K % 24 := by omega
      have e3 : m * 2 ^ K = 2 ^ (24 * q) * (2 ^ (K % 24) * m) := by
        rw [← Nat.mul_assoc, ← Nat.pow_add, ← e2, Nat.mul_comm]
      rw [e3]; push_cast; rfl

set_option maxHeartbeats 1000000 in
theorem shl_nat (w : World) (v : Value) (m K : Nat) (hK : K ≤ 20000) (h : N w v m) (hm : Lt 400 m) :
    Calls Tryz.prog 132 #[v, .int .i64 K] w (RetN w (m * 2 ^ K)) := by
  obtain ⟨a, ra, na, ea⟩ := h
  have la : a.length ≤ 400 := N.len hm na ea
  obtain ⟨A, c, rfl, h1, h2, h3⟩ := id ra
  have hmf := mkf
  have HA := Lib.hid ea
  clear ea h3
  by_cases hp : 0 < a.length
  · have hne : ((a.length : Int) == 0) = false := beq_eq_false_iff_ne.2 (by omega)
    go_enter Tryz.func132, Tryz.ntmps132
    go_wp2_with (at_make; refine wpList_mk_ints _ rfl _ rfl (K / 24 + a.length + 1) _ rfl (by omega) (by omega) ?_; intro w1 hmade)
    rw [show K / 24 + a.length + 1 = K / 24 + (a.length + 1) by omega] at hmade
    have eL : K / 24 + a.length + 1 - K / 24 = a.length + 1 := by omega
    have eN : K / 24 + (a.length + 1) = K / 24 + a.length + 1 := by omega
    have key := shl_sums w _ w1 _ a m K (K / 24) (a.length + 1) rfl rfl hK (by omega) na HA.out ra (two_ext ..) (two_cell0 ..) (two_cell1 ..) (two_size ..) hmade
    rw [eN] at key
    rw [eL]
    refine key.mono ?_
    rintro e w2 ⟨v, ys, rfl, hlen, hrow, hlim, hval, hE⟩
    clear key eL eN
    have HT := Lib.hid (trimmed_nat w2 _ ys _ hrow hlim hval)
    have HE := Lib.hid hE
    clear hrow hlim hval hlen hmade hE ra na
    go_wp2_with fail
    refine HT.out.mono ?_
    rintro e w3 ⟨v, rfl, hN, rfl⟩
    go_wp2
    go_ret
    exact ⟨v, rfl, hN, HE.out⟩
  · have e0 : a = [] := List.eq_nil_of_length_eq_zero (by omega)
    subst e0
    have hm0 : m = 0 := by have := HA.out; simp [val] at this; omega
    subst hm0
    clear ra na HA
    go_enter Tryz.func132, Tryz.ntmps132
    go_wp2
    go_ret
    exact ⟨_, rfl, by rw [Nat.zero_mul]; exact N.zero _ _ _ (by simp [maxLen]), two_ext ..⟩

end Go.Proofs.YtomdbmjfehoodaaGreatDoor

/- Walks: Shl below 0, behind. -/
namespace Go.Proofs.YtomdbmjfehoodaaGreatDoor
open Go.RowKit

set_option maxHeartbeats 1000000 in
theorem shl_neg (w : World) (v : Value) (m : Nat) (k : Int) (hk : k < 0) (h : N w v m) (hm : Lt 400 m) :
    Calls Tryz.prog 132 #[v, .int .i64 k] w (RetN w m) := by
  obtain ⟨a, ra, na, ea⟩ := h
  have la : a.length ≤ 400 := N.len hm na ea
  obtain ⟨A, c, rfl, h1, h2, h3⟩ := id ra
  have hmf := mkf
  have hmx : max k 0 = 0 := by omega
  have HA := Lib.hid ea
  clear ea h3
  by_cases hp : 0 < a.length
  · have hne : ((a.length : Int) == 0) = false := beq_eq_false_iff_ne.2 (by omega)
    go_enter Tryz.func132, Tryz.ntmps132
    go_wp2_with (at_make; refine wpList_mk_ints _ rfl _ rfl (a.length + 1) _ rfl (by omega) (by omega) ?_; intro w1 hmade)
    have key := shl_sums w _ w1 _ a m 0 0 (a.length + 1) rfl rfl (by omega) (by omega) na HA.out ra (two_ext ..) (two_cell0 ..) (two_cell1 ..) (two_size ..) (by rw [Nat.zero_add]; exact hmade)
    rw [Nat.zero_add, Nat.pow_zero, Nat.mul_one] at key
    refine key.mono ?_
    rintro e w2 ⟨v, ys, rfl, hlen, hrow, hlim, hval, hE⟩
    clear key
    have HT := Lib.hid (trimmed_nat w2 _ ys _ hrow hlim hval)
    have HE := Lib.hid hE
    clear hrow hlim hval hlen hmade hE ra na
    go_wp2_with fail
    refine HT.out.mono ?_
    rintro e w3 ⟨v, rfl, hN, rfl⟩
    go_wp2
    go_ret
    exact ⟨v, rfl, hN, HE.out⟩
  · have e0 : a = [] := List.eq_nil_of_length_eq_zero (by omega)
    subst e0
    have hm0 : m = 0 := by have := HA.out; simp [val] at this; omega
    subst hm0
    clear ra na HA
    go_enter Tryz.func132, Tryz.ntmps132
    go_wp2
    go_ret
    exact ⟨_, rfl, N.zero _ _ _ (by simp [maxLen]), two_ext ..⟩

set_option maxHeartbeats 1000000 in
theorem behind_any (w : World) (v : Value) (m : Nat) (x : Int) (h : N w v m) (hm : Lt 400 m) (x0 : 0 ≤ x) (x1 : x < 16777216) :
    Calls Tryz.prog 144 #[v, .int .i64 x] w (RetN w (m * 16777216 + x.toNat)) := by
  obtain ⟨a, ra, na, ea⟩ := h
  have la : a.length ≤ 400 := N.len hm na ea
  have hv := behind_val na ea x0 x1
  obtain ⟨A, c, rfl, h1, h2, h3⟩ := id ra
  have HV := Lib.hid hv
  clear ea h3 hv na
  by_cases h0 : a = []
  · subst h0
    go_enter Tryz.func144, Tryz.ntmps144
    go_wp2_with (at_make; refine wpList_mk_ints _ rfl _ rfl 1 _ rfl (by simp) (by omega) ?_; intro w1 hmade; have hcell := hmade.cell 0 (by omega); have hfr := hmade.frozen 0)
    obtain ⟨w2, hrun, hg2, ho2⟩ := copy_ints (w1.setCell ⟨w.heap.size, 0, none⟩ (.int .i64 x)) 3 (some ⟨w.heap.size, 0, none⟩) 0 0 _ [] (ra.ext (hmade.ext.setCell (Nat.le_refl _) _)) w.heap.size 1 (fun h => absurd h (by simp)) (Value.int .i64 x :: List.replicate 0 (Value.int .i64 0)) 3 (by simpa [List.replicate_succ] using blk_set hmade.blk 0 (Value.int .i64 x)) (by simp) (by simp)
    simp only [List.length_nil] at hrun
    rw [hrun]
    have e2 : Ext w w2 := (hmade.ext.setCell (Nat.le_refl _) _).only ho2 (fun i hi => by simp at hi; omega)
    have HT := Lib.hid (trimmed_nat w2 _ [x] _ (behind_row (n := 0) rfl (by simp) (by have := hmade.size; have := ho2.size; simp at this; omega) hg2) HV.out.1 HV.out.2)
    clear hrun hg2 ho2 hmade
    go_wp2_with fail
    refine HT.out.mono ?_
    rintro e w3 ⟨v, rfl, hN, rfl⟩
    go_wp2
    go_ret
    exact ⟨v, rfl, hN, e2⟩
  · have hp : 0 < a.length := by
      rcases Nat.eq_zero_or_pos a.length with h | h
      · exact absurd (List.eq_nil_of_length_eq_zero h) h0
      · exact h
    go_enter Tryz.func144, Tryz.ntmps144
    go_wp2_with (at_make; refine wpList_mk_ints _ rfl _ rfl (a.length + 1) _ rfl (by omega) (by omega) ?_; intro w1 hmade; have hcell := hmade.cell 0 (by omega); have hfr := hmade.frozen 0)
    obtain ⟨w2, hrun, hg2, ho2⟩ := copy_ints (w1.setCell ⟨w.heap.size, 0, none⟩ (.int .i64 x)) 3 (some ⟨w.heap.size, 1, none⟩) a.length a.length _ a (ra.ext (hmade.ext.setCell (Nat.le_refl _) _)) w.heap.size 1 (fun _ => rfl) (Value.int .i64 x :: List.replicate a.length (Value.int .i64 0)) 3 (by simpa [List.replicate_succ] using blk_set hmade.blk 0 (Value.int .i64 x)) (by omega) (by simp; omega)
    rw [hrun]
    have e2 : Ext w w2 := (hmade.ext.setCell (Nat.le_refl _) _).only ho2 (fun i hi => by simp at hi; omega)
    have HT := Lib.hid (trimmed_nat w2 _ (x :: a) _ (behind_row rfl (by omega) (by have := hmade.size; have := ho2.size; simp at this; omega) hg2) HV.out.1 HV.out.2)
    clear hrun hg2 ho2 hmade
    go_wp2_with fail
    refine HT.out.mono ?_
    rintro e w3 ⟨v, rfl, hN, rfl⟩
    go_wp2
    go_ret
    exact ⟨v, rfl, hN, e2⟩

end Go.Proofs.YtomdbmjfehoodaaGreatDoor

/- Walks: Right; guess, firstLimb, nextLimb, Root. -/
namespace Go.Proofs.YtomdbmjfehoodaaGreatDoor
open Go.RowKit

set_option maxHeartbeats 1000000 in
theorem right_any (w : World) (v : Value) (xs : List Int) (h : Row w v xs) : Calls Tryz.prog 133 #[v] w fun e w' => e = .returned (.bool (rightB xs)) ∧ w = w' := by
  have hl := h.len_le
  obtain ⟨A, c, rfl, h1, h2, h3⟩ := h
  by_cases hp : 0 < xs.length
  · obtain ⟨b, off, rfl, hb, hc⟩ := h3 hp
    have HC := Lib.hid hc
    have hne : ((xs.length : Int) == 0) = false := beq_eq_false_iff_ne.2 (by omega)
    clear hc h3
    go_enter Tryz.func133, Tryz.ntmps133
    go_wp2
    go_loop [10] (fun i => ∃ k : Nat, k ≤ xs.length ∧ i = .int .i64 k ∧ Hid (∀ j, j < k → 0 ≤ nth xs j ∧ nth xs j ≤ 16777215)) (fun i => xs.length - (intOf i).toNat)
    case atStart => exact ⟨0, Nat.zero_le _, rfl, fun j hj => absurd hj (by omega)⟩
    case round =>
      obtain ⟨k, hk, rfl, hz⟩ := hrel
      by_cases hlt : k < xs.length
      · have hcell := HC.out k hlt
        by_cases hx : nth xs k < 0
        · have HR := Lib.hid (right_bad hlt (.inl hx))
          go_wp2
          go_ret
          rw [HR.out]
          exact ⟨rfl, rfl⟩
        · by_cases hy : 16777215 < nth xs k
          · have HR := Lib.hid (right_bad hlt (.inr hy))
            go_wp2
            go_ret
            rw [HR.out]
            exact ⟨rfl, rfl⟩
          · go_wp2
            go_round
            case rel => exact ⟨k + 1, by omega, by go_num, fun j hj => by
              by_cases e : j = k
              · subst e; omega
              · exact hz.out j (by omega)⟩
            case measure => simp [intOf]; omega
      · have HR := Lib.hid (right_end hp (fun j hj => hz.out j (by omega)))
        have hcell := HC.out (xs.length - 1) (by omega)
        have hi1 : (0 : Int) ≤ (xs.length : Int) - 1 := by omega
        by_cases h300 : xs.length ≤ 300
        · have e300 : decide (xs.length ≤ 300) = true := by simpa using h300
          go_wp2
          go_ret
          rw [HR.out, e300]
          exact ⟨rfl, rfl⟩
        · have e300 : decide (xs.length ≤ 300) = false := by simpa using h300
          go_wp2
          go_ret
          rw [HR.out, e300]
          exact ⟨rfl, rfl⟩
  · have e0 : xs = [] := List.eq_nil_of_length_eq_zero (by omega)
    subst e0
    clear h3
    go_enter Tryz.func133, Tryz.ntmps133
    go_wp2
    go_ret
    exact ⟨rfl, rfl⟩

end Go.Proofs.YtomdbmjfehoodaaGreatDoor

/- Walks: guess, firstLimb, nextLimb, Root. -/
namespace Go.Proofs.YtomdbmjfehoodaaGreatDoor
open Go.RowKit

set_option maxHeartbeats 1000000 in
theorem guess_any (w : World) (vl vd : Value) (L D d : Nat) (hl : N w vl L) (hd : N w vd D) (ll : Lt 400 L) (ld : Lt 400 D) (ed : d = bl D - 36)
    (h1 : L / 2 ^ d < 4611686018427387904) (h2 : D / 2 ^ d < 4611686018427387904) (h3 : 0 < D / 2 ^ d) :
    Calls Tryz.prog 145 #[vl, vd] w (RetE w (.int .i64 ((min (L / 2 ^ d / (D / 2 ^ d)) 16777215 : Nat) : Int))) := by
  have hb : bl D ≤ 9600 := ld.bits
  have em : max ((bl D : Int) - 36) 0 = (d : Int) := by omega
  have EM := Lib.hid em
  have HLen := Lib.hid (len_any w vd D hd ld)
  have hd9 : d ≤ 9600 := by omega
  have l1 : Lt 400 (L / 2 ^ d) := ll.of_le (Nat.div_le_self _ _)
  have l2 : Lt 400 (D / 2 ^ d) := ld.of_le (Nat.div_le_self _ _)
  generalize hX : L / 2 ^ d = X at *
  generalize hY : D / 2 ^ d = Y at *
  have HX := Lib.hid hX
  have HY := Lib.hid hY
  clear em hX hY ed
  go_enter Tryz.func145, Tryz.ntmps145
  go_wp2_with fail
  refine HLen.out.mono ?_
  rintro e w' ⟨rfl, rfl⟩
  go_wp2_with fail
  rw [EM.out]
  refine (shr_nat w vl L d (by omega) hl ll).mono ?_
  rintro e w1 ⟨v1, rfl, n1, e1⟩
  rw [HX.out] at n1
  go_wp2_with fail
  refine (int_yes w1 v1 X n1 l1 h1).mono ?_
  rintro e w' ⟨rfl, rfl⟩
  go_wp2_with fail
  refine (shr_nat w1 vd D d (by omega) (hd.ext e1) ld).mono ?_
  rintro e w2 ⟨v2, rfl, n2, e2⟩
  rw [HY.out] at n2
  go_wp2_with fail
  refine (int_yes w2 v2 Y n2 l2 h2).mono ?_
  rintro e w' ⟨rfl, rfl⟩
  go_wp2
  go_ret
  refine ⟨ret_int ?_, e1.trans e2⟩
  exact guess_word h1

set_option maxHeartbeats 1000000 in
theorem first_any (w : World) (n : Nat) (h1 : n < 281474976710656) (h0 : 0 < n) : Calls Tryz.prog 134 #[.int .i64 n] w (FirstPost w n) := by
  have hN : Calls Tryz.prog 134 #[.int .i64 n] w (FirstPost w n) := by
    go_enter Tryz.func134, Tryz.ntmps134
    go_wp2
    go_loop [4, 5] (fun root next => ∃ r q : Nat, 0 < r ∧ r ≤ 16777216 ∧ root = .int .i64 r ∧ next = .int .i64 (((r : Int) + q) / 2) ∧ Hid (q = n / r) ∧ Hid (∀ k, k * k ≤ n → k ≤ r)) (fun root _ => (intOf root).toNat)
    case atStart =>
      refine ⟨16777216, n / 16777216, by omega, by omega, rfl, by go_num, rfl, fun k hk => ?_⟩
      rcases Nat.lt_or_ge 16777216 k with e | e
      · have := Nat.mul_le_mul (show 16777217 ≤ k from e) (show 16777217 ≤ k from e); omega
      · exact e
    case round =>
      obtain ⟨r, q, hr0, hr1, rfl, rfl, hq, hk⟩ := hrel
      have hqn : q ≤ n := by rw [hq.out]; exact Nat.div_le_self _ _
      by_cases hlt : (r + q) / 2 < r
      · have hlt' : ((r : Int) + q) / 2 < (r : Int) := by omega
        obtain ⟨r', hr'⟩ : ∃ r', r' = (r + q) / 2 := ⟨_, rfl⟩
        have ern : ((r : Int) + q) / 2 = (r' : Int) := by omega
        have hr0' : 0 < r' := by
          have := newton_ge (n := n) (r := r) 1 hr0 (by omega)
          rw [← hq.out] at this; omega
        have hlr : r' < r := by omega
        have hk' : ∀ k, k * k ≤ n → k ≤ r' := fun k hkk => by
          have := newton_ge (n := n) (r := r) k hr0 hkk
          rw [← hq.out] at this; omega
        have hdiv : (n : Int) / (r' : Int) = ((n / r' : Nat) : Int) := by rw [Int.natCast_ediv]
        obtain ⟨q', hq'⟩ : ∃ q', q' = n / r' := ⟨_, rfl⟩
        rw [← hq'] at hdiv
        have hqn' : q' ≤ n := by rw [hq']; exact Nat.div_le_self _ _
        have HQ := Lib.hid hq'
        have HK := Lib.hid hk'
        rw [ern]
        clear hq' hk' hr' ern hlt hlt'
        have hlt2 : (r' : Int) < (r : Int) := by omega
        go_wp2
        go_round
        case rel => exact ⟨r', q', hr0', by omega, rfl, rfl, HQ.out, HK.out⟩
        case measure => simp [intOf]; omega
      · have hsq : r * r ≤ n := newton_stop hr0 (by rw [← hq.out]; omega)
        have hs : Sq n r := ⟨hsq, by
          rcases Nat.lt_or_ge n ((r + 1) * (r + 1)) with e | e
          · exact e
          · have := hk.out (r + 1) e; omega⟩
        have HS := Lib.hid hs
        have b1 : (0 : Int) ≤ (r : Int) * (r : Int) := Int.mul_nonneg (by omega) (by omega)
        have b2 : (r : Int) * (r : Int) ≤ (n : Int) := by exact_mod_cast hsq
        have hge : ¬ ((r : Int) + q) / 2 < (r : Int) := by omega
        clear hs hsq
        go_wp2_with fail
        refine (of_any w r (by omega)).mono ?_
        rintro e w1 ⟨v1, rfl, n1, e1⟩
        rw [Int.toNat_natCast] at n1
        go_wp2_with fail
        refine (of_any w1 _ (by omega)).mono ?_
        rintro e w2 ⟨v2, rfl, n2, e2⟩
        go_wp2
        go_ret2
        refine ⟨r, HS.out, _, _, rfl, n1.ext e2, ?_, e1.trans e2⟩
        have en : ((n : Int) - (r : Int) * (r : Int)).toNat = n - r * r := by
          have : (r : Int) * (r : Int) = ((r * r : Nat) : Int) := by push_cast; rfl
          omega
        rw [← en]; exact n2
  exact hN

set_option maxHeartbeats 1000000 in
theorem next_any (w : World) (vr vs : Value) (r s h l : Nat) (hr : N w vr r) (hs : N w vs s) (h0 : h < 16777216) (l0 : l < 16777216) (r0 : 0 < r) (s0 : s ≤ 2 * r) (lr : Lt 160 r) :
    Calls Tryz.prog 135 #[vr, vs, .int .i64 h, .int .i64 l] w (NextPost w r s h l) := by
  have l2r : Lt 161 (2 * r) := (lr.add lr).of_le (by omega)
  have ls : Lt 161 s := l2r.of_le s0
  have ll := ls.behind h0
  have la := ll.behind l0
  have eall : (s * 16777216 + h) * 16777216 + l = s * 281474976710656 + h * 16777216 + l := by omega
  rw [eall] at la
  obtain ⟨d, hd⟩ : ∃ d, d = bl (2 * r) - 36 := ⟨_, rfl⟩
  have gs := guess_small s0 h0 hd
  have gp := guess_pos r0 hd
  have gg := fun q => guess_ge (q := q) s0 h0 l0 gp
  obtain ⟨al, hal⟩ : ∃ al, al = s * 281474976710656 + h * 16777216 + l := ⟨_, rfl⟩
  obtain ⟨li, hli⟩ : ∃ li, li = s * 16777216 + h := ⟨_, rfl⟩
  have HP : Hid (NextPost w r s h l = fun e w' => ∃ q, Fit r al q ∧ ¬ Fit r al (q + 1) ∧ RetNN w (r * 16777216 + q) (al - (2 * r * 16777216 + q) * q) e w') := by
    show _ = _
    rw [hal]; rfl
  rw [← hal] at la eall gg
  rw [← hli] at ll eall gs gg
  obtain ⟨g, hg⟩ : ∃ g, g = min (li / 2 ^ d / (2 * r / 2 ^ d)) 16777215 := ⟨_, rfl⟩
  have HN : Hid (∀ x, g < x → ¬ Fit r al x) := fun x hx hf => by have := gg x hf; omega
  have hg1 : g ≤ 16777215 := by omega
  have HG := Lib.hid (fun (W : World) (vl vd : Value) (a : N W vl li) (b : N W vd (2 * r)) => guess_any W vl vd li (2 * r) d a b (ll.mono (by omega)) (l2r.mono (by omega)) hd gs.1 gs.2 gp)
  rw [← hg] at HG
  have HL := Lib.hid hli
  have HA := Lib.hid eall
  clear hg gg gs gp hd hal hli eall
  go_enter Tryz.func135, Tryz.ntmps135
  go_wp2_with fail
  refine (behind_any w vs s h hs (ls.mono (by omega)) (by omega) (by omega)).mono ?_
  rintro e w1 ⟨v1, rfl, n1, e1⟩
  rw [Int.toNat_natCast, ← HL.out] at n1
  go_wp2_with fail
  refine (behind_any w1 v1 li l n1 (ll.mono (by omega)) (by omega) (by omega)).mono ?_
  rintro e w2 ⟨v2, rfl, n2, e2⟩
  rw [Int.toNat_natCast, HA.out] at n2
  go_wp2_with fail
  refine (shl_nat w2 vr r 1 (by omega) (hr.ext (e1.trans e2)) (lr.mono (by omega))).mono ?_
  rintro e w3 ⟨v3, rfl, n3, e3⟩
  rw [Nat.pow_one, Nat.mul_comm] at n3
  go_wp2_with fail
  refine (HG.out w3 v1 v3 (n1.ext (e2.trans e3)) n3).mono ?_
  rintro e w4 ⟨rfl, e4⟩
  have E : Ext w w4 := ((e1.trans e2).trans e3).trans e4
  have N2 := n2.ext (e3.trans e4)
  have N3 := n3.ext e4
  clear n1 n2 n3 e1 e2 e3 e4 HG
  go_wp2
  go_loopw [13] (fun i wr => ∃ q : Nat, q ≤ 16777215 ∧ i = .int .i64 q ∧ Hid (∀ x, q < x → ¬ Fit r al x) ∧ Ext w4 wr) (fun i _ => (intOf i).toNat)
  case atStart => exact ⟨g, hg1, rfl, HN, Ext.refl _⟩
  case round =>
    obtain ⟨q, hq, rfl, hn, er⟩ := hrel
    have l5 : Lt 162 (2 * r * 16777216 + q) := l2r.behind (by omega)
    have l6 : Lt 1 q := Lt.limb (by omega)
    have l7 := l5.mul l6
    go_wp2_with fail
    refine (behind_any wr v3 (2 * r) q (N3.ext er) (l2r.mono (by omega)) (by omega) (by omega)).mono ?_
    rintro e w5 ⟨v5, rfl, n5, e5⟩
    rw [Int.toNat_natCast] at n5
    go_wp2_with fail
    refine (of_any w5 q (by omega)).mono ?_
    rintro e w6 ⟨v6, rfl, n6, e6⟩
    rw [Int.toNat_natCast] at n6
    go_wp2_with fail
    refine (mul_any w6 v5 v6 (2 * r * 16777216 + q) q (n5.ext e6) n6 (l5.mono (by omega)) (l6.mono (by omega))).mono ?_
    rintro e w7 ⟨v7, rfl, n7, e7⟩
    have E7 := ((er.trans e5).trans e6).trans e7
    clear n5 n6 e5 e6 e7
    by_cases hf : Fit r al q
    · go_wp2_with fail
      refine (sub_yes w7 v2 v7 al _ (N2.ext E7) n7 (la.mono (by omega)) hf).mono ?_
      rintro e w8 ⟨v8, rfl, n8, e8⟩
      go_wp2_with fail
      refine (behind_any w8 vr r q (hr.ext (E.trans (E7.trans e8))) (lr.mono (by omega)) (by omega) (by omega)).mono ?_
      rintro e w9 ⟨v9, rfl, n9, e9⟩
      rw [Int.toNat_natCast] at n9
      go_wp2
      go_ret2
      rw [HP.out]
      exact ⟨q, hf, hn.out _ (Nat.lt_succ_self _), _, _, rfl, n9, n8.ext e9, E.trans (E7.trans (e8.trans e9))⟩
    · have hq0 : q ≠ 0 := fun e => hf (by rw [e]; exact fit_zero _ _)
      go_wp2_with fail
      refine (sub_no w7 v2 v7 al _ (N2.ext E7) n7 (by unfold Fit at hf; omega)).mono ?_
      rintro e w8 ⟨v8, rfl, n8, e8⟩
      go_wp2
      go_roundw
      case rel => exact ⟨q - 1, by omega, by go_num, fun x hx hfx => by
        by_cases e : x = q
        · subst e; exact hf hfx
        · exact hn.out x (by omega) hfx, E7.trans e8⟩
      case measure => simp [intOf]; omega

end Go.Proofs.YtomdbmjfehoodaaGreatDoor

/- The walk of Root. -/
namespace Go.Proofs.YtomdbmjfehoodaaGreatDoor
open Go.RowKit

theorem first_int (w : World) (z : Int) (n : Nat) (hz : z = (n : Int)) (h1 : n < 281474976710656) (h0 : 0 < n) : Calls Tryz.prog 134 #[.int .i64 z] w (FirstPost w n) := by
  subst hz; exact first_any w n h1 h0

set_option maxRecDepth 100000 in
set_option maxHeartbeats 4000000 in
theorem root_any (w : World) (v : Value) (m : Nat) (h : N w v m) (hm : Lt 300 m) : Calls Tryz.prog 117 #[v] w (RetSq w m) := by
  have hlen := len_any w v m h (hm.mono (by omega))
  obtain ⟨a, ra, na, ea⟩ := id h
  have la : a.length ≤ 300 := N.len hm na ea
  have hright := right_any w v a ra
  rw [right_iff.2 ⟨na, la⟩] at hright
  obtain ⟨A, c, rfl, h1, h2, h3⟩ := id ra
  by_cases hp : 0 < a.length
  · have hm0 : m ≠ 0 := by
      have := na.pos (by intro e; subst e; simp at hp)
      have := bp_pos (a.length - 1)
      omega
    obtain ⟨u, hu⟩ : ∃ u, u = (47 - (bl m - 1) % 48) / 2 := ⟨_, rfl⟩
    have hbl : bl m ≤ 7200 := hm.bits
    have hbp := bl_pos hm0
    have eu : (47 - ((bl m : Int) - 1) % 48) / 2 = (u : Int) := by omega
    have hu24 : u ≤ 23 := by omega
    have lM : Lt 302 (m * 2 ^ (2 * u)) := Lt.of_bits (by rw [bl_shift _ hm0]; omega)
    have HLen := Lib.hid hlen
    have HR := Lib.hid hright
    have HU := Lib.hid hu
    have hne : ((a.length : Int) == 0) = false := beq_eq_false_iff_ne.2 (by omega)
    have EU := Lib.hid eu
    have H := Lib.hid h
    clear hlen hright hu eu ra na ea h3
    go_enter Tryz.func117, Tryz.ntmps117
    go_wp2_with fail
    refine HR.out.mono ?_
    rintro e w' ⟨rfl, rfl⟩
    go_wp2_with fail
    refine HLen.out.mono ?_
    rintro e w' ⟨rfl, rfl⟩
    go_wp2_with fail
    rw [EU.out]
    refine (shl_nat w _ m (2 * u) (by omega) H.out (hm.mono (by omega))).mono ?_
    rintro e w1 ⟨vw, rfl, nw, e1⟩
    obtain ⟨M, hM⟩ : ∃ M, M = m * 2 ^ (2 * u) := ⟨_, rfl⟩
    rw [← hM] at nw lM
    obtain ⟨b, rb, nb, eb⟩ := id nw
    have lb : b.length ≤ 302 := N.len lM nb eb
    obtain ⟨T, hT⟩ := wide_len nb eb hm0 HU.out hM
    obtain ⟨B, cb, rfl, k1, k2, k3⟩ := id rb
    obtain ⟨bb, ob, rfl, hbb, hcb⟩ := k3 (by omega)
    have HCB := Lib.hid hcb
    have NB := Lib.hid nb
    have EB := Lib.hid eb
    have HM := Lib.hid hM
    have HT := Lib.hid hT
    clear k3 hcb nb eb hM rb nw hT
    obtain ⟨p, hp2⟩ : ∃ p, b.length = p + 2 := ⟨2 * T, HT.out⟩
    have hc1 := HCB.out (p + 1) (by omega)
    have hc2 := HCB.out p (by omega)
    obtain ⟨x1, hx1⟩ := Int.eq_ofNat_of_zero_le (NB.out.1.at (p + 1)).1
    obtain ⟨x0, hx0⟩ := Int.eq_ofNat_of_zero_le (NB.out.1.at p).1
    have y1 := (NB.out.1.at (p + 1)).2
    have y0 := (NB.out.1.at p).2
    rw [hx1] at hc1 y1
    rw [hx0] at hc2 y0
    have hpos : 0 < x1 * 16777216 + x0 := by
      rcases NB.out.2 with e | e
      · rw [e] at hp2; simp at hp2
      · rw [hp2] at e
        have e3 : p + 2 - 1 = p + 1 := by omega
        rw [e3, hx1] at e; omega
    have HX1 := Lib.hid hx1
    have HX0 := Lib.hid hx0
    have HP2 := Lib.hid hp2
    have ep : (b.length : Int) - 2 = (p : Int) := by omega
    have j1 : (p : Int) < (b.length : Int) := by omega
    have j2 : (p : Int) + 1 < (b.length : Int) := by omega
    have j3 : (0 : Int) ≤ (p : Int) + 1 := by omega
    have j4 : ((p : Int) + 1).toNat = p + 1 := by omega
    have HZ := Lib.hid (show (x1 : Int) * 16777216 + (x0 : Int) = ((x1 * 16777216 + x0 : Nat) : Int) by omega)
    have HZ1 := Lib.hid (show x1 * 16777216 + x0 < 281474976710656 by omega)
    have HZ0 := Lib.hid hpos
    have j6 : IntKind.i64.wrap ((x1 : Int) * 16777216) = (x1 : Int) * 16777216 := IntWalk.i64_in _ (by omega)
    have j7 : IntKind.i64.wrap ((x1 : Int) * 16777216 + (x0 : Int)) = (x1 : Int) * 16777216 + (x0 : Int) := IntWalk.i64_in _ (by omega)
    have j5 : IntKind.i64.wrap ((p : Int) + 1) = (p : Int) + 1 := IntWalk.i64_in _ (by omega)
    clear hx1 hx0 hp2 hpos
    go_wp2
    go_region_held3 (fun w' => w'.cell? ⟨bb, ob + (p + 1), none⟩ = some (.int .i64 x1) ∧ w'.cell? ⟨bb, ob + p, none⟩ = some (.int .i64 x0))
      (first | go_keep | exact ⟨(e2.cell hbb).trans (by first | exact hc1 | assumption), (e2.cell hbb).trans (by first | exact hc2 | assumption)⟩)
      ((go_at_call 134; refine (first_int _ _ (x1 * 16777216 + x0) HZ.out HZ1.out HZ0.out).mono ?_; rintro e w2 ⟨r, hsq, v1, v2, rfl, n1, n2, e2⟩))
    clear j1 j2 j3 j4 j5 j6 j7
    have hpb : p ≤ 302 := by have := HP2.out; omega
    have E2 : Ext w1 w2 := (Ext.refl w1).drew.trans e2
    have hval : val (b.drop (2 * T)) = ((r * r + (x1 * 16777216 + x0 - r * r) : Nat) : Int) := by
      have e1 : 2 * T = p := by have := HT.out; have := HP2.out; omega
      have e3 := val_drop (a := b) (k := p) (by have := HP2.out; omega)
      have e4 := val_drop (a := b) (k := p + 1) (by have := HP2.out; omega)
      have e5 : b.drop (p + 1 + 1) = [] := List.drop_eq_nil_of_le (by have := HP2.out; omega)
      rw [e5] at e4
      have h0 : val [] = 0 := rfl
      rw [e1, e3, e4, HX0.out, HX1.out, h0]
      have := hsq.1
      omega
    have hrest := sq_rest hsq (s := x1 * 16777216 + x0 - r * r) (by have := hsq.1; omega)
    have hr0 : 0 < r := by
      rcases Nat.eq_zero_or_pos r with e | e
      · have := hsq.2; have := HZ0.out; subst e; omega
      · exact e
    generalize x1 * 16777216 + x0 - r * r = s at *
    have HV := Lib.hid hval
    have hpT : p = 2 * T := by have := HT.out; have := HP2.out; omega
    have HPT := Lib.hid hpT
    clear hval hsq hc1 hc2 HZ HZ1 HZ0 y0 y1 HX1 HX0 ep hpT e2
    go_wp2
    go_loopw [5, 6, 7] (fun pl ro re wr => ∃ (z : Int) (t r s : Nat), pl = .int .i64 z ∧ Hid (z = 2 * (t : Int) - 2) ∧ t ≤ 151 ∧ Hid (2 * t + 2 ≤ b.length) ∧ Hid (val (b.drop (2 * t)) = ((r * r + s : Nat) : Int)) ∧ s ≤ 2 * r ∧ 0 < r ∧ N wr ro r ∧ N wr re s ∧ Ext w1 wr)
      (fun pl _ _ _ => (intOf pl + 2).toNat)
    case atStart => exact ⟨(p : Int) - 2, T, r, s, rfl, by show _ = _; have := HPT.out; omega, by have := HT.out; omega, by show _ ≤ _; have := HT.out; omega, HV.out, hrest, hr0, n1, n2, E2⟩
    case round =>
      clear n1 n2 E2 HV hrest hr0
      obtain ⟨z, t, r, s, rfl, hz, ht, htl, hv, hs, hr, n1, n2, e2⟩ := hrel
      cases t with
      | zero =>
        have hz2 : z = -2 := hz.out
        subst hz2
        have hv := hv.out
        rw [Nat.mul_zero, List.drop_zero, EB.out] at hv
        have hsq : Sq M r := sq_of_rest (by exact_mod_cast hv) hs
        have lr : Lt 151 r := Lt.root (lM.mono (by omega)) hsq.1
        have hfin := sq_down (m := m) (u := u) (R := r) (by rw [← HM.out]; exact hsq)
        have HF := Lib.hid hfin
        clear hv hsq hfin
        go_wp2_with fail
        refine (shr_nat wr _ r u (by omega) n1 (lr.mono (by omega))).mono ?_
        rintro e w3 ⟨v3, rfl, n3, e3⟩
        go_wp2
        go_ret
        exact ⟨_, HF.out, _, rfl, n3, e1.trans (e2.trans e3)⟩
      | succ t =>
        obtain ⟨q, hq⟩ : ∃ q, q = 2 * t := ⟨_, rfl⟩
        have hzq : z = (q : Int) := by have := hz.out; omega
        subst hzq
        have hc1 := (e2.cell (p := ⟨bb, ob + (q + 1), none⟩) hbb).trans (HCB.out (q + 1) (by have := htl.out; omega))
        have hc2 := (e2.cell (p := ⟨bb, ob + q, none⟩) hbb).trans (HCB.out q (by have := htl.out; omega))
        obtain ⟨x1, hx1⟩ := Int.eq_ofNat_of_zero_le (NB.out.1.at (q + 1)).1
        obtain ⟨x0, hx0⟩ := Int.eq_ofNat_of_zero_le (NB.out.1.at q).1
        have y1 := (NB.out.1.at (q + 1)).2
        have y0 := (NB.out.1.at q).2
        rw [hx1] at hc1 y1
        rw [hx0] at hc2 y0
        have hbw : bb < wr.heap.size := Nat.lt_of_lt_of_le hbb e2.size
        have lr : Lt 151 r := by
          refine Lt.root (x := r * r + s) ?_ (by omega)
          refine ⟨?_⟩
          rw [← hv.out]
          have h1 := val_drop_le NB.out.1 (2 * (t + 1))
          have h2 := (lM.mono (show 302 ≤ 151 + 151 by omega)).out
          rw [EB.out] at h1
          omega
        have hnew := val_two (b := b) (t := t) (by have := htl.out; omega)
        rw [hv.out, ← hq, hx1, hx0] at hnew
        have HNEW := Lib.hid hnew
        have HQ := Lib.hid hq
        have Y1 := Lib.hid (show x1 < 16777216 by omega)
        have Y0 := Lib.hid (show x0 < 16777216 by omega)
        have LR := Lib.hid (lr.mono (show 151 ≤ 160 by omega))
        have j1 : (q : Int) < (b.length : Int) := by have := htl.out; omega
        have j2 : (q : Int) + 1 < (b.length : Int) := by have := htl.out; omega
        have j3 : (0 : Int) ≤ (q : Int) + 1 := by omega
        have j0 : (0 : Int) ≤ (q : Int) := by omega
        have j4 : ((q : Int) + 1).toNat = q + 1 := by omega
        have j5 : IntKind.i64.wrap ((q : Int) + 1) = (q : Int) + 1 := IntWalk.i64_in _ (by have := htl.out; omega)
        clear hx1 hx0 hnew hq
        go_wp2
        go_region_held3 (fun w' => w'.cell? ⟨bb, ob + (q + 1), none⟩ = some (.int .i64 x1) ∧ w'.cell? ⟨bb, ob + q, none⟩ = some (.int .i64 x0))
          (first | go_keep | exact ⟨(e5.cell hbw).trans (by first | exact hc1 | assumption), (e5.cell hbw).trans (by first | exact hc2 | assumption)⟩)
          ((go_at_call 135; refine (next_any _ _ _ r s x1 x0 (n1.ext (Ext.refl wr).drew) (n2.ext (Ext.refl wr).drew) Y1.out Y0.out hr hs LR.out).mono ?_; rintro e w3 ⟨l, hf, hn, v1, v2, rfl, n5, n6, e5⟩))
        clear j1 j2 j3 j4 j5 j0
        have hqb : q ≤ 302 := by have := HQ.out; omega
        go_wp2
        go_roundw
        case rel =>
          have hst := fit_step (x := r * r + s) rfl hf hn
          have E5 : Ext w1 w3 := e2.trans ((Ext.refl wr).drew.trans e5)
          refine ⟨(q : Int) - 2, t, _, _, by go_num, by show _ = _; have := HQ.out; omega, by omega, by show _ ≤ _; have := htl.out; omega, ?_, sq_rest hst.1 hst.2, ?_, n5, n6, E5⟩
          · show _ = _
            rw [← hst.2, ← HQ.out, HNEW.out]
            generalize r * r + s = X
            omega
          · omega
        case measure => simp [intOf]; omega
  · have e0 : a = [] := List.eq_nil_of_length_eq_zero (by omega)
    subst e0
    have hm0 : m = 0 := by simp [val] at ea; omega
    subst hm0
    clear h3 ra na ea hright hlen h
    go_enter Tryz.func117, Tryz.ntmps117
    go_wp2
    go_ret
    exact ⟨0, ⟨by omega, by omega⟩, _, rfl, N.zero _ _ _ (by simp [maxLen]), Ext.refl _⟩

end Go.Proofs.YtomdbmjfehoodaaGreatDoor

