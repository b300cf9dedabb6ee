/- Walks of the document's naturals. -/
import Derived.Test.YtomdbmjfehoodaaGreatDoorMA
import Derived.Deep.RegionHeld3
set_option maxRecDepth 8000
/- Walks of the document's answers: Same, Right. -/
namespace Go.Proofs.YtomdbmjfehoodaaGreatDoor
open Go.RowKit

set_option maxHeartbeats 1000000 in
theorem same_any (w : World) (va vb : Value) (a b : List Int) (ra : Row w va a) (rb : Row w vb b) : Calls Tryz.prog 53 #[va, vb] w (RetQ w (.bool (decide (a = b)))) := by
  have hl := ra.len_le
  have hl' := rb.len_le
  obtain ⟨A, c, rfl, h1, h2, h3⟩ := id ra
  obtain ⟨A', c', rfl, h1', h2', h3'⟩ := id rb
  have H3 := Lib.hid h3
  have H3' := Lib.hid h3'
  clear h3 h3' ra rb
  by_cases hlen : a.length = b.length
  · have E := Lib.hid hlen
    have hlb : ((a.length : Int) != (b.length : Int)) = false := by simp [hlen]
    clear hlen
    go_enter Tryz.func53, Tryz.ntmps53
    go_wp2
    go_loopw [5] (fun i wr => ∃ k : Nat, k ≤ a.length ∧ i = .int .i64 k ∧ Hid (∀ j, j < k → nth a j = nth b j) ∧ Qt w wr) (fun i _ => a.length - (intOf i).toNat)
    case atStart => exact ⟨0, Nat.zero_le _, rfl, fun j hj => absurd hj (by omega), Qt.refl _⟩
    case round =>
      obtain ⟨k, hk, rfl, hz, hq⟩ := hrel
      by_cases hlt : k < a.length
      · obtain ⟨b1, off1, rfl, hb1, hc1⟩ := H3.out (by omega)
        obtain ⟨b2, off2, rfl, hb2, hc2⟩ := H3'.out (by have := E.out; omega)
        have hcell1 := (hq.cell _).trans (hc1 k (by omega))
        have hcell2 := (hq.cell _).trans (hc2 k (by have := E.out; omega))
        have hkb : (k : Int) < (b.length : Int) := by have := E.out; omega
        have hka : (k : Int) < (a.length : Int) := by omega
        have hk0 : (0 : Int) ≤ (k : Int) := by omega
        clear hc1 hc2 H3 H3'
        by_cases hx : nth a k = nth b k
        · have hxb : (nth a k != nth b k) = false := by simp [hx]
          have HX := Lib.hid hx
          clear hx
          go_wp2
          go_quiet (fail)
          go_wp2
          go_roundw
          case rel => exact ⟨k + 1, by omega, by go_num, fun j hj => by
            by_cases e : j = k
            · subst e; exact HX.out
            · exact hz.out j (by omega), hq.drewN _⟩
          case measure => simp [intOf]; omega
        · have hxb : (nth a k != nth b k) = true := by simp [hx]
          have hne : decide (a = b) = false := by
            rw [decide_eq_false_iff_not]; intro e; exact hx (by rw [e])
          have HN := Lib.hid hne
          clear hx hne
          go_wp2
          go_quiet (fail)
          go_wp2
          go_ret
          rw [HN.out]
          exact ⟨rfl, hq.drewN _⟩
      · have he : decide (a = b) = true := by
          rw [decide_eq_true_eq]; exact eq_of_nth E.out (fun j hj => hz.out j (by omega))
        have HE := Lib.hid he
        clear he
        go_wp2
        go_ret
        rw [HE.out]
        exact ⟨rfl, hq⟩
  · have hlb : ((a.length : Int) != (b.length : Int)) = true := by rw [bne_iff_ne]; omega
    have hne : decide (a = b) = false := by
      rw [decide_eq_false_iff_not]; intro e; exact hlen (by rw [e])
    have HN := Lib.hid hne
    clear hne
    go_enter Tryz.func53, Tryz.ntmps53
    go_wp2
    go_ret
    rw [HN.out]
    exact RetQ.same

theorem same_nat (w : World) (va vb : Value) (m n : Nat) (ha : N w va m) (hb : N w vb n) : Calls Tryz.prog 53 #[va, vb] w (RetQ w (.bool (decide (m = n)))) := by
  obtain ⟨a, ra, na, ea⟩ := ha
  obtain ⟨b, rb, nb, eb⟩ := hb
  have e : decide (a = b) = decide (m = n) := by
    rw [decide_eq_decide]
    constructor
    · intro e; subst e; omega
    · intro e; subst e; exact na.inj nb (by omega)
  rw [← e]
  exact same_any w va vb a b ra rb

set_option maxHeartbeats 1000000 in
theorem rright_any (w : World) (v : Value) (xs : List Int) (h : Row w v xs) : Calls Tryz.prog 67 #[v] w fun e w' => e = .returned (.bool (rightB xs)) ∧ w = w' := by
  have hl := h.len_le
  obtain ⟨A, c, rfl, h1, h2, h3⟩ := h
  have H3 := Lib.hid h3
  clear h3
  go_enter Tryz.func67, Tryz.ntmps67
  go_wp2
  go_loop [3] (fun i => ∃ k : Nat, k ≤ xs.length ∧ i = .int .i64 k ∧ Hid (∀ j, j < k → 0 ≤ nth xs j ∧ nth xs j ≤ 16777215)) (fun i => xs.length - (intOf i).toNat)
  case atStart => exact ⟨0, Nat.zero_le _, rfl, fun j hj => absurd hj (by omega)⟩
  case round =>
    obtain ⟨k, hk, rfl, hz⟩ := hrel
    by_cases hlt : k < xs.length
    · obtain ⟨b, off, rfl, hb, hc⟩ := H3.out (by omega)
      have hcell := hc k hlt
      clear hc H3
      by_cases hx : nth xs k < 0
      · have HR := Lib.hid (right_bad hlt (.inl hx))
        go_wp2
        go_ret
        rw [HR.out]
        exact ⟨rfl, rfl⟩
      · by_cases hy : 16777216 ≤ nth xs k
        · have HR := Lib.hid (right_bad hlt (.inr (by omega)))
          go_wp2
          go_ret
          rw [HR.out]
          exact ⟨rfl, rfl⟩
        · go_wp2
          go_round
          case rel => exact ⟨k + 1, by omega, by go_num, fun j hj => by
            by_cases e : j = k
            · subst e; omega
            · exact hz.out j (by omega)⟩
          case measure => simp [intOf]; omega
    · by_cases hp : 0 < xs.length
      · obtain ⟨b, off, rfl, hb, hc⟩ := H3.out hp
        have HR := Lib.hid (right_end hp (fun j hj => hz.out j (by omega)))
        have hcell := hc (xs.length - 1) (by omega)
        have hi1 : (0 : Int) ≤ (xs.length : Int) - 1 := by omega
        have hne : ((xs.length : Int) == 0) = false := beq_eq_false_iff_ne.2 (by omega)
        clear hc H3
        by_cases h300 : xs.length ≤ 300
        · have e300 : decide (xs.length ≤ 300) = true := by simpa using h300
          go_wp2
          go_ret
          rw [HR.out, e300]
          exact ⟨rfl, rfl⟩
        · have e300 : decide (xs.length ≤ 300) = false := by simpa using h300
          go_wp2
          go_ret
          rw [HR.out, e300]
          exact ⟨rfl, rfl⟩
      · have e0 : xs = [] := List.eq_nil_of_length_eq_zero (by omega)
        subst e0
        have hk0 : k = 0 := by simpa using hk
        subst hk0
        clear H3
        go_wp2
        go_ret
        exact ⟨rfl, rfl⟩

end Go.Proofs.YtomdbmjfehoodaaGreatDoor

/- Walks of the document's answers: at, trim, Cmp, Len, Int, Of. -/
namespace Go.Proofs.YtomdbmjfehoodaaGreatDoor
open Go.RowKit

set_option maxHeartbeats 400000 in
theorem rat_any (w : World) (v : Value) (xs : List Int) (i : Int) (h : Row w v xs) (h0 : 0 ≤ i) :
    Calls Tryz.prog 94 #[v, .int .i64 i] w fun e w' => e = .returned (.int .i64 (nth xs i.toNat)) ∧ w = w' := by
  have hl := h.len_le
  obtain ⟨A, c, rfl, h1, h2, h3⟩ := h
  obtain ⟨n, rfl⟩ := Int.eq_ofNat_of_zero_le h0
  rw [Int.toNat_natCast]
  by_cases hlt : n < xs.length
  · obtain ⟨b, off, rfl, hb, hc⟩ := h3 (by omega)
    have hcell := hc n hlt
    clear hc h3
    go_enter Tryz.func94, Tryz.ntmps94
    go_wp2
    go_ret
    exact ⟨rfl, rfl⟩
  · clear h3
    go_enter Tryz.func94, Tryz.ntmps94
    go_wp2
    go_ret
    refine ⟨?_, rfl⟩
    rw [nth_past (by omega)]; rfl

set_option maxHeartbeats 1000000 in
theorem rtrim_nat (w : World) (v : Value) (xs : List Int) (m : Nat) (h : Row w v xs) (hl : Limbs xs) (hv : val xs = (m : Int)) (hn : xs.length ≤ 100000) : Calls Tryz.prog 93 #[v] w (RetN w m) := by
  have hr := h
  obtain ⟨A, c, rfl, h1, h2, h3⟩ := h
  have H3 := Lib.hid h3
  have HL := Lib.hid hl
  have HV := Lib.hid hv
  clear h3 hl hv
  go_enter Tryz.func93, Tryz.ntmps93
  go_wp2
  go_loop [3] (fun n => ∃ k : Nat, k ≤ xs.length ∧ n = .int .i64 k ∧ Hid (∀ j, k ≤ j → nth xs j = 0)) (fun n => (intOf n).toNat)
  case atStart => exact ⟨xs.length, Nat.le_refl _, rfl, fun j hj => nth_past hj⟩
  case round =>
    obtain ⟨k, hk, rfl, hz⟩ := hrel
    have fin : ∀ (hx : k = 0 ∨ nth xs (k - 1) ≠ 0) (v' : Value) (w' : World), Own w' w.heap.size v' ([] ++ xs.take k) → Ext w w' → N w' v' m := fun hx v' w' ho _ => by
      rw [List.nil_append] at ho
      exact ⟨xs.take k, ho.row, nf_take HL.out hk hx, by rw [val_take hk hz.out]; exact HV.out⟩
    have FIN := Lib.hid fin
    have hrk := hr.take k hk
    have hlk : (xs.take k).length ≤ 100000 := by rw [List.length_take]; omega
    clear fin
    by_cases h0 : 0 < k
    · obtain ⟨b, off, rfl, hb, hc⟩ := H3.out (by omega)
      have hcell := hc (k - 1) (by omega)
      clear hc H3
      by_cases hx : nth xs (k - 1) = 0
      · have hx' : (nth xs (k - 1) == 0) = true := by simp [hx]
        have HX := Lib.hid hx
        clear hx
        go_wp2
        go_round
        case rel => exact ⟨k - 1, by omega, by go_num, fun j hj => by
          by_cases e : j = k - 1
          · subst e; exact HX.out
          · exact hz.out j (by omega)⟩
        case measure => simp [intOf]; omega
      · have hx' : (nth xs (k - 1) == 0) = false := by simp [hx]
        have HX := Lib.hid hx
        clear hx
        go_wp2_with (at_builtin; refine wpList_app _ rfl _ _ rfl w.heap.size _ [] _ (xs.take k) rfl rfl (Own.empty w _ (Nat.le_refl _)) (hrk.ext ((Ext.refl w).alloc _)) (by simp) (by simp; omega) ?_; intro v' w' ho hg)
        have e1 : Ext w w' := ((Ext.refl w).alloc _).app (Own.empty w w.heap.size (Nat.le_refl _)) (Nat.le_refl _) hg
        go_ret
        exact ⟨v', rfl, FIN.out (.inr HX.out) v' w' ho e1, e1⟩
    · have hk0 : k = 0 := by omega
      subst hk0
      go_wp2_with (at_builtin; refine wpList_app _ rfl _ _ rfl w.heap.size _ [] _ (xs.take 0) rfl rfl (Own.empty w _ (Nat.le_refl _)) (hrk.ext ((Ext.refl w).alloc _)) (by simp) (by simp) ?_; intro v' w' ho hg)
      have e1 : Ext w w' := ((Ext.refl w).alloc _).app (Own.empty w w.heap.size (Nat.le_refl _)) (Nat.le_refl _) hg
      go_ret
      exact ⟨v', rfl, FIN.out (by simp) v' w' ho e1, e1⟩

set_option maxHeartbeats 1000000 in
theorem rcmp_rows (w : World) (va vb : Value) (a b : List Int) (ra : Row w va a) (rb : Row w vb b) (na : NF a) (nb : NF b) :
    Calls Tryz.prog 63 #[va, vb] w (RetQ w (.int .i64 (cmpI (val a) (val b)))) := by
  have hl := ra.len_le
  have hl' := rb.len_le
  obtain ⟨A, c, rfl, h1, h2, h3⟩ := id ra
  obtain ⟨A', c', rfl, h1', h2', h3'⟩ := id rb
  have H3 := Lib.hid h3
  have H3' := Lib.hid h3'
  have NA := Lib.hid na
  have NB := Lib.hid nb
  clear h3 h3' na nb ra rb
  rcases Nat.lt_trichotomy a.length b.length with hlen | hlen | hlen
  · rw [cmpI_lt (val_short NA.out NB.out hlen)]
    have e1 : ((a.length : Int) != (b.length : Int)) = true := by rw [bne_iff_ne]; omega
    go_enter Tryz.func63, Tryz.ntmps63
    go_wp2
    go_ret
    exact RetQ.same
  · have E := Lib.hid hlen
    have e1 : ((a.length : Int) != (b.length : Int)) = false := by simp [hlen]
    clear hlen
    go_enter Tryz.func63, Tryz.ntmps63
    go_wp2
    go_loopw [5] (fun i wr => ∃ k : Nat, k ≤ a.length ∧ i = .int .i64 ((k : Int) - 1) ∧ Hid (∀ j, k ≤ j → nth a j = nth b j) ∧ Qt w wr) (fun i _ => (intOf i + 1).toNat)
    case atStart => exact ⟨a.length, Nat.le_refl _, rfl, fun j hj => by rw [nth_past hj, nth_past (by have := E.out; omega)], Qt.refl _⟩
    case round =>
      obtain ⟨k, hk, rfl, hz, hq⟩ := hrel
      by_cases h0 : 0 < k
      · obtain ⟨b1, off1, rfl, hb1, hc1⟩ := H3.out (by omega)
        obtain ⟨b2, off2, rfl, hb2, hc2⟩ := H3'.out (by have := E.out; omega)
        have hcell1 := (hq.cell _).trans (hc1 (k - 1) (by omega))
        have hcell2 := (hq.cell _).trans (hc2 (k - 1) (by have := E.out; omega))
        have hkb : (k : Int) - 1 < (b.length : Int) := by have := E.out; omega
        have hka : (k : Int) - 1 < (a.length : Int) := by omega
        have hk0 : (0 : Int) ≤ (k : Int) - 1 := by omega
        clear hc1 hc2 H3 H3'
        rcases Int.lt_trichotomy (nth a (k - 1)) (nth b (k - 1)) with hx | hx | hx
        · have EV := Lib.hid (cmpI_lt (val_lex NA.out.1 NB.out.1 E.out (by omega) (i := k - 1) (fun j hj => hz.out j (by omega)) hx))
          go_wp2
          go_quiet (fail)
          go_wp2
          go_ret
          rw [EV.out]
          exact ⟨rfl, hq.drewN _⟩
        · have h5 : ¬ nth a (k - 1) < nth b (k - 1) := by omega
          have h6 : ¬ nth b (k - 1) < nth a (k - 1) := by omega
          have HX := Lib.hid hx
          clear hx
          go_wp2
          go_quiet (fail)
          go_wp2
          go_quiet (fail)
          go_wp2
          go_roundw
          case rel => exact ⟨k - 1, by omega, by go_num, fun j hj => by
            by_cases e : j = k - 1
            · subst e; exact HX.out
            · exact hz.out j (by omega), hq.drewN _⟩
          case measure => simp [intOf]; omega
        · have EV := Lib.hid (cmpI_gt (val_lex NB.out.1 NA.out.1 E.out.symm (by have := E.out; omega) (i := k - 1) (fun j hj => (hz.out j (by omega)).symm) hx))
          have h5 : ¬ nth a (k - 1) < nth b (k - 1) := by omega
          go_wp2
          go_quiet (fail)
          go_wp2
          go_quiet (fail)
          go_wp2
          go_ret
          rw [EV.out]
          exact ⟨rfl, (hq.drewN _).drewN _⟩
      · have hk0 : k = 0 := by omega
        subst hk0
        have EV := Lib.hid (cmpI_eq (val_eq_of_nth E.out (fun j => hz.out j (Nat.zero_le _))))
        go_wp2
        go_ret
        rw [EV.out]
        exact ⟨rfl, hq⟩
  · rw [cmpI_gt (val_short NB.out NA.out hlen)]
    have e1 : ((a.length : Int) != (b.length : Int)) = true := by rw [bne_iff_ne]; omega
    go_enter Tryz.func63, Tryz.ntmps63
    go_wp2
    go_ret
    exact RetQ.same
theorem rcmp_nat (w : World) (va vb : Value) (m n : Nat) (ha : N w va m) (hb : N w vb n) : Calls Tryz.prog 63 #[va, vb] w (RetQ w (.int .i64 (cmpI m n))) := by
  obtain ⟨a, ra, na, ea⟩ := ha
  obtain ⟨b, rb, nb, eb⟩ := hb
  rw [← ea, ← eb]
  exact rcmp_rows w va vb a b ra rb na nb

set_option maxHeartbeats 400000 in
theorem rlen_any (w : World) (v : Value) (m : Nat) (h : N w v m) (hm : Lt 400 m) : Calls Tryz.prog 139 #[v] w fun e w' => e = .returned (.int .i64 (bl m)) ∧ w = w' := by
  obtain ⟨a, ra, na, ea⟩ := h
  have la : a.length ≤ 400 := N.len hm na ea
  obtain ⟨A, c, rfl, h1, h2, h3⟩ := id ra
  by_cases hp : 0 < a.length
  · obtain ⟨b, off, rfl, hb, hc⟩ := h3 hp
    have hcell := hc (a.length - 1) (by omega)
    obtain ⟨t0, t1⟩ := na.1.at (a.length - 1)
    obtain ⟨t, ht⟩ := Int.eq_ofNat_of_zero_le t0
    have hbl := bl_top na (by intro e; subst e; simp at hp) ea ht
    have hne : ((a.length : Int) == 0) = false := beq_eq_false_iff_ne.2 (by omega)
    rw [ht] at hcell t0 t1
    have HB := Lib.hid hbl
    have hbb : bl t ≤ 24 := bl_of_lt (n := 24) (by omega)
    have hi1 : (0 : Int) ≤ (a.length : Int) - 1 := by omega
    clear hc h3 na ea ht hbl ra hm
    go_enter Tryz.func139, Tryz.ntmps139
    go_wp2
    go_loop [3, 4] (fun n x => ∃ (s y : Nat), n = .int .i64 s ∧ x = .int .i64 y ∧ s + bl y ≤ 9600 ∧ y < 16777216 ∧ Hid (s + bl y = bl m)) (fun _ x => (intOf x).toNat)
    case atStart => exact ⟨24 * (a.length - 1), t, by go_num, rfl, by omega, by omega, by show _ = _; rw [HB.out]⟩
    case round =>
      obtain ⟨s, y, rfl, rfl, hs, hy, hb2⟩ := hrel
      by_cases h0 : 0 < y
      · have hh := bl_half (m := y) (by omega)
        go_wp2
        go_round
        case rel => exact ⟨s + 1, y / 2, by go_num, by go_num, by omega, by omega, by show _ = _; rw [← hb2.out]; omega⟩
        case measure => simp [intOf]; omega
      · have hy0 : y = 0 := by omega
        subst hy0
        go_wp2
        go_ret
        refine ⟨ret_int ?_, rfl⟩
        have := hb2.out
        have e : bl 0 = 0 := rfl
        omega
  · have e0 : a = [] := List.eq_nil_of_length_eq_zero (by omega)
    subst e0
    have hm0 : m = 0 := by simp [val] at ea; omega
    subst hm0
    clear h3 ra na ea
    go_enter Tryz.func139, Tryz.ntmps139
    go_wp2
    go_ret
    exact ⟨rfl, rfl⟩

end Go.Proofs.YtomdbmjfehoodaaGreatDoor

/- Walks of the document's answers: Of, Add, Sub. -/
namespace Go.Proofs.YtomdbmjfehoodaaGreatDoor
open Go.RowKit

theorem nth_snoc_lt {xs : List Int} {y : Int} {j : Nat} (h : j < xs.length) : nth (xs ++ [y]) j = nth xs j := by
  rw [nth_eq (by simp; omega), nth_eq h, List.getElem_append_left h]
theorem nth_snoc_eq (xs : List Int) (y : Int) : nth (xs ++ [y]) xs.length = y := by
  rw [nth_eq (by simp)]; simp
theorem val_snoc (xs : List Int) (y : Int) : val (xs ++ [y]) = val xs + y * bp xs.length := by
  rw [val_S, val_S, List.length_append, List.length_singleton, S_succ, nth_snoc_eq, S_congr _ (fun j hj => nth_snoc_lt hj)]
theorem Limbs.snoc {xs : List Int} {y : Int} (h : Limbs xs) (h0 : 0 ≤ y) (h1 : y < 16777216) : Limbs (xs ++ [y]) := fun j hj => by
  by_cases e : j < xs.length
  · rw [nth_snoc_lt e]; exact h j e
  · have : j = xs.length := by simp at hj; omega
    subst this; rw [nth_snoc_eq]; exact ⟨h0, h1⟩

/-- What R.Of's loop keeps. -/
def OfRel (n z : Int) (xs : List Int) : Prop := Limbs xs ∧ val xs + z * bp xs.length = n ∧ (0 < z ∨ xs = [] ∨ nth xs (xs.length - 1) ≠ 0) ∧ xs.length ≤ 3
theorem OfRel.start (n : Int) : OfRel n n [] := ⟨NF.nil.1, by simp [val, bp], .inr (.inl rfl), by simp⟩
theorem OfRel.step {n z : Int} {xs : List Int} (h : OfRel n z xs) (hz : 0 < z) (hn : n ≤ 9223372036854775807) : OfRel n (z / 16777216) (xs ++ [z % 16777216]) := by
  obtain ⟨h1, h2, _, h4⟩ := h
  have hb := val_bounds h1
  have hp := bp_pos xs.length
  have hz1 : bp xs.length ≤ z * bp xs.length := by
    have : 1 * bp xs.length ≤ z * bp xs.length := Int.mul_le_mul_of_nonneg_right (by omega) (by omega)
    omega
  have hl : xs.length < 3 := by
    rcases Nat.lt_or_ge xs.length 3 with e | e
    · exact e
    · have e3 : xs.length = 3 := by omega
      rw [e3] at hz1 hb h2
      have : bp 3 = 4722366482869645213696 := by simp [bp]
      omega
  refine ⟨h1.snoc (by omega) (by omega), ?_, ?_, by simp; omega⟩
  · rw [val_snoc, List.length_append, List.length_singleton, bp_succ]
    have e : z * bp xs.length = z % 16777216 * bp xs.length + z / 16777216 * (16777216 * bp xs.length) := by
      rw [← Int.mul_assoc, ← Int.add_mul]
      congr 1
      omega
    omega
  · by_cases e : 0 < z / 16777216
    · exact .inl e
    · right; right
      rw [List.length_append, List.length_singleton, Nat.add_sub_cancel, nth_snoc_eq]; omega
theorem OfRel.done {n : Int} {xs : List Int} (h : OfRel n 0 xs) : NF xs ∧ val xs = n := by
  obtain ⟨h1, h2, h3, _⟩ := h
  refine ⟨⟨h1, ?_⟩, by simpa using h2⟩
  rcases h3 with h | h
  · omega
  · exact h

set_option maxHeartbeats 1000000 in
theorem rof_any (w : World) (n : Int) (hn : n ≤ 9223372036854775807) : Calls Tryz.prog 60 #[.int .i64 n] w (RetN w n.toNat) := by
  by_cases h0 : 0 < n
  · go_enter Tryz.func60, Tryz.ntmps60
    go_wp2
    go_loopw [0, 3] (fun a v wr => ∃ (z : Int) (xs : List Int), a = .int .i64 z ∧ 0 ≤ z ∧ z ≤ n ∧ OfRel n z xs ∧ Own wr w.heap.size v xs ∧ Ext w wr) (fun a _ _ => (intOf a).toNat)
    case atStart => exact ⟨n, [], rfl, by omega, Int.le_refl _, OfRel.start n, Own.nil w _, Ext.refl _⟩
    case round =>
      obtain ⟨z, xs, rfl, hz0, hzn, hR, ho, he⟩ := hrel
      have hlen := hR.2.2.2
      have hsz := he.size
      by_cases hz : 0 < z
      · have HS := Lib.hid (hR.step hz hn)
        go_wp2_with (at_builtin; refine wpList_app _ rfl _ _ rfl w.heap.size _ xs _ [z % 16777216] rfl rfl (ho.alloc _) (row_one wr _ _) (by simp; omega) (by simp; omega) ?_; intro v' w' ho' hg)
        have e1 : Ext w w' := (he.alloc _).app (ho.alloc _) (Nat.le_refl _) hg
        go_roundw
        case rel => exact ⟨z / 16777216, _, rfl, by omega, by omega, HS.out, ho', e1⟩
        case measure => simp [intOf]; omega
      · have hz1 : z = 0 := by omega
        subst hz1
        have hd := hR.done
        have HN := Lib.hid (N.row (m := n.toNat) ho.row hd.1 (by rw [hd.2]; omega))
        go_wp2
        go_ret
        exact ⟨_, rfl, HN.out, he⟩
  · have e : n.toNat = 0 := by omega
    rw [e]
    go_enter Tryz.func60, Tryz.ntmps60
    go_wp2
    refine wp_loop_rounds 1 ?_
    rw [rounds_succ]
    go_wp2
    go_ret
    exact ⟨_, rfl, N.zero _ _ _ (by simp [maxLen]), Ext.refl _⟩

/-- The limbs of sums, so far. -/
def limbs (h : Nat → Int) (c : Int) (k : Nat) : List Int := (List.range k).map (limbAt h c)
theorem limbs_len (h : Nat → Int) (c : Int) (k : Nat) : (limbs h c k).length = k := by simp [limbs]
theorem limbs_succ (h : Nat → Int) (c : Int) (k : Nat) : limbs h c (k + 1) = limbs h c k ++ [limbAt h c k] := by simp [limbs, List.range_succ]
theorem limbs_nth {h : Nat → Int} {c : Int} {k j : Nat} (hj : j < k) : nth (limbs h c k) j = limbAt h c j := by
  rw [nth_eq (by rw [limbs_len]; exact hj)]; simp [limbs]
theorem limbs_limbs (h : Nat → Int) (c : Int) (k : Nat) : Limbs (limbs h c k) := fun j hj => by
  rw [limbs_len] at hj; rw [limbs_nth hj]; exact limbAt_bounds h c j
theorem limbs_val (h : Nat → Int) (c : Int) (k : Nat) : val (limbs h c k) = S (limbAt h c) k := by
  rw [val_S, limbs_len]; exact S_congr _ (fun j hj => limbs_nth hj)
theorem limbs_val_end {h : Nat → Int} {c : Int} {k : Nat} (hc : carryAt h c k = 0) : val (limbs h c k) = c + S h k := by
  have := carry_sum h c k
  rw [hc] at this
  rw [limbs_val]; omega

set_option maxHeartbeats 1000000 in
theorem radd_any (w : World) (va vb : Value) (m n : Nat) (ha : N w va m) (hb : N w vb n) (hm : Lt 400 m) (hn : Lt 400 n) : Calls Tryz.prog 59 #[va, vb] w (RetN w (m + n)) := by
  obtain ⟨a, ra, na, ea⟩ := ha
  obtain ⟨b, rb, nb, eb⟩ := hb
  have la : a.length ≤ 400 := N.len hm na ea
  have lb : b.length ≤ 400 := N.len hn nb eb
  obtain ⟨A, c, rfl, h1, h2, h3⟩ := id ra
  obtain ⟨A', c', rfl, h1', h2', h3'⟩ := id rb
  clear h3 h3'
  have hcb : ∀ j, -1 ≤ carryAt (fun j => nth a j + nth b j) 0 j ∧ carryAt (fun j => nth a j + nth b j) 0 j ≤ 1 := fun j => by
    induction j with
    | zero => simp [carryAt]
    | succ j ih => rw [carryAt_succ]; have := na.1.at j; have := nb.1.at j; omega
  have hc0 : ∀ j, 0 ≤ carryAt (fun j => nth a j + nth b j) 0 j := fun j => by
    induction j with
    | zero => simp [carryAt]
    | succ j ih => rw [carryAt_succ]; have := na.1.at j; have := nb.1.at j; omega
  obtain ⟨h, hh⟩ : ∃ h : Nat → Int, h = fun j => nth a j + nth b j := ⟨_, rfl⟩
  rw [← hh] at hcb hc0
  have hlast : ∀ j, a.length ≤ j → b.length ≤ j → carryAt h 0 (j + 1) = 0 := fun j k1 k2 => by
    have := hcb j
    have := hc0 j
    have e : h j = nth a j + nth b j := by rw [hh]
    rw [carryAt_succ, e, nth_past k1, nth_past k2]; omega
  have hval : ∀ k, a.length ≤ k → b.length ≤ k → carryAt h 0 k = 0 → val (limbs h 0 k) = ((m + n : Nat) : Int) := fun k k1 k2 k3 => by
    rw [limbs_val_end k3, hh, S_add, val_S_ge k1, val_S_ge k2, ea, eb]; omega
  have HCB := Lib.hid hcb
  have HC0 := Lib.hid hc0
  have HLA := Lib.hid hlast
  have HV := Lib.hid hval
  have HH := Lib.hid hh
  have NA := Lib.hid na
  have NB := Lib.hid nb
  clear hcb hc0 hlast hval ea eb hh na nb
  go_enter Tryz.func59, Tryz.ntmps59
  go_wp2
  go_loopw [5, 6, 7] (fun v cr i wr => ∃ k : Nat, k ≤ a.length + b.length + 1 ∧ Hid (k ≤ a.length ∨ k ≤ b.length ∨ carryAt h 0 k = 0) ∧ i = .int .i64 k ∧ cr = .int .i64 (carryAt h 0 k) ∧ Own wr w.heap.size v (limbs h 0 k) ∧ Ext w wr) (fun _ _ i _ => a.length + b.length + 1 - (intOf i).toNat)
  case atStart => exact ⟨0, by omega, .inl (Nat.zero_le _), rfl, rfl, Own.nil w _, Ext.refl _⟩
  case round =>
    obtain ⟨k, hk, hcar, rfl, rfl, ho, he⟩ := hrel
    have hsz := he.size
    have c0 := HC0.out k
    have c1 := (HCB.out k).2
    have hlen : (limbs h 0 k).length = k := limbs_len _ _ _
    have HLEN := Lib.hid hlen
    clear hlen
    by_cases hdone : a.length ≤ k ∧ b.length ≤ k ∧ carryAt h 0 k ≤ 0
    · obtain ⟨d1, d2, d3⟩ := hdone
      have hcz : carryAt h 0 k = 0 := by omega
      have HN := Lib.hid (rtrim_nat wr _ (limbs h 0 k) (m + n) ho.row (limbs_limbs _ _ _) (HV.out k d1 d2 hcz) (by rw [HLEN.out]; omega))
      have g1 : ¬ (k : Int) < (a.length : Int) := by omega
      have g2 : ¬ (k : Int) < (b.length : Int) := by omega
      have g3 : ¬ (0 : Int) < carryAt h 0 k := by omega
      clear hcz
      go_wp2_with (go_at_call 93; refine HN.out.mono ?_; rintro e w' ⟨v', rfl, hN, hE⟩)
      go_ret
      exact ⟨_, rfl, hN, he.trans hE⟩
    · have hkl : k ≤ a.length + b.length := by
        rcases hcar.out with e | e | e
        · omega
        · omega
        · by_cases k1 : a.length ≤ k
          · by_cases k2 : b.length ≤ k
            · exact absurd ⟨k1, k2, by omega⟩ hdone
            · omega
          · omega
      have x1 := NA.out.1.at k
      have x2 := NB.out.1.at k
      have hlimb : (nth a k + nth b k + carryAt h 0 k) % 16777216 = limbAt h 0 k := by unfold limbAt; rw [HH.out]
      have hcar' : (nth a k + nth b k + carryAt h 0 k) / 16777216 = carryAt h 0 (k + 1) := by rw [carryAt_succ, HH.out]
      have HL1 := Lib.hid hlimb
      have HC1 := Lib.hid hcar'
      have y1 := x1.1
      have y2 := x1.2
      have y3 := x2.1
      have y4 := x2.2
      have hk0 : (0 : Int) ≤ (k : Int) := by omega
      have HR1 := Lib.hid (rat_any wr _ _ (k : Int) (ra.ext he) hk0)
      have HR2 := Lib.hid (rat_any wr _ _ (k : Int) (rb.ext he) hk0)
      rw [Int.toNat_natCast] at HR1 HR2
      clear hlimb hcar' x1 x2
      have hcases : k < a.length ∨ (¬ k < a.length ∧ k < b.length) ∨ (¬ k < a.length ∧ ¬ k < b.length ∧ 0 < carryAt h 0 k) := by
        by_cases k1 : k < a.length
        · exact .inl k1
        · by_cases k2 : k < b.length
          · exact .inr (.inl ⟨k1, k2⟩)
          · exact .inr (.inr ⟨k1, k2, by
              rcases Int.lt_or_le 0 (carryAt h 0 k) with e | e
              · exact e
              · exact absurd ⟨by omega, by omega, e⟩ hdone⟩)
      clear hdone
      rcases hcases with d1 | ⟨d1, d2⟩ | ⟨d1, d2, d3⟩
      all_goals
        go_wp2_with (first | ((go_at_call 94); (with_reducible refine HR1.out.mono ?_); (rintro e w' ⟨rfl, rfl⟩)) | ((go_at_call 94); (with_reducible refine HR2.out.mono ?_); (rintro e w' ⟨rfl, rfl⟩)) | (at_builtin; refine wpList_app _ rfl _ _ rfl w.heap.size _ (limbs h 0 k) _ [(nth a k + nth b k + carryAt h 0 k) % 16777216] rfl rfl (ho.alloc _) (row_one wr _ _) (by simp; omega) (by rw [HLEN.out]; simp; omega) ?_; intro v' w' ho' hg))
        have e1 : Ext w w' := (he.alloc _).app (ho.alloc _) (Nat.le_refl _) hg
        rw [HL1.out, ← limbs_succ] at ho'
        go_roundw
        case rel => exact ⟨k + 1, by omega, by
          by_cases k1 : k + 1 ≤ a.length
          · exact .inl k1
          · by_cases k2 : k + 1 ≤ b.length
            · exact .inr (.inl k2)
            · exact .inr (.inr (HLA.out k (by omega) (by omega))), by go_num, by rw [HC1.out], ho', e1⟩
        case measure => simp [intOf]; omega

end Go.Proofs.YtomdbmjfehoodaaGreatDoor

/- Walks of the document's answers: Sub, Shl, Shr. -/
namespace Go.Proofs.YtomdbmjfehoodaaGreatDoor
open Go.RowKit

theorem rsub_no (w : World) (va vb : Value) (m n : Nat) (ha : N w va m) (hb : N w vb n) (hlt : m < n) : Calls Tryz.prog 64 #[va, vb] w (RetNB w 0 false) := by
  have hc := rcmp_nat w va vb m n ha hb
  rw [cmpI_lt (by omega)] at hc
  have HC := Lib.hid hc
  clear hc
  go_enter Tryz.func64, Tryz.ntmps64
  go_wp2_with fail
  refine HC.out.mono ?_
  rintro e w1 ⟨rfl, hq⟩
  go_wp2
  go_ret2
  exact ⟨_, rfl, N.zero _ _ _ (by simp [maxLen]), hq.ext⟩

set_option maxHeartbeats 1000000 in
theorem rsub_yes (w : World) (va vb : Value) (m n : Nat) (ha : N w va m) (hb : N w vb n) (hm : Lt 400 m) (hlt : n ≤ m) : Calls Tryz.prog 64 #[va, vb] w (RetNB w (m - n) true) := by
  have HC := Lib.hid (rcmp_nat w va vb m n ha hb)
  obtain ⟨a, ra, na, ea⟩ := ha
  obtain ⟨b, rb, nb, eb⟩ := hb
  have la : a.length ≤ 400 := N.len hm na ea
  have lab : b.length ≤ a.length := by
    rcases Nat.lt_or_ge a.length b.length with h | h
    · have := val_short na nb h; omega
    · exact h
  have hc0 : ¬ cmpI (m : Int) (n : Int) < 0 := by
    rcases Nat.lt_or_ge n m with h | h
    · rw [cmpI_gt (by omega)]; omega
    · rw [cmpI_eq (by omega)]; omega
  obtain ⟨x, hx⟩ : ∃ x, x = cmpI (m : Int) (n : Int) := ⟨_, rfl⟩
  rw [← hx] at HC hc0
  clear hx
  obtain ⟨A, c, rfl, h1, h2, h3⟩ := id ra
  obtain ⟨A', c', rfl, h1', h2', h3'⟩ := id rb
  clear h3'
  obtain ⟨h, hh⟩ : ∃ h : Nat → Int, h = fun j => nth a j - nth b j := ⟨_, rfl⟩
  have hcb : ∀ j, -1 ≤ carryAt h 0 j ∧ carryAt h 0 j ≤ 0 := fun j => by
    induction j with
    | zero => simp [carryAt]
    | succ j ih =>
      have e : h j = nth a j - nth b j := by rw [hh]
      rw [carryAt_succ, e]; have := na.1.at j; have := nb.1.at j; omega
  have hval : val (limbs h 0 a.length) = ((m - n : Nat) : Int) := by
    have hS : S h a.length = (m : Int) - (n : Int) := by rw [hh, S_sub, val_S_ge (Nat.le_refl _), val_S_ge lab, ea, eb]
    have hb1 := (val_bounds na.1).2
    rw [limbs_val, carry_end (by omega) (by omega)]
    omega
  have H3 := Lib.hid h3
  have HCB := Lib.hid hcb
  have HV := Lib.hid hval
  have HH := Lib.hid hh
  have NA := Lib.hid na
  have NB := Lib.hid nb
  clear hcb hval ea eb hh na nb h3
  go_enter Tryz.func64, Tryz.ntmps64
  go_wp2_with fail
  refine HC.out.mono ?_
  rintro e w1 ⟨rfl, hq⟩
  have E1 := hq.ext
  clear HC
  go_wp2
  go_loopw [6, 7, 8] (fun v cr i wr => ∃ k : Nat, k ≤ a.length ∧ i = .int .i64 k ∧ cr = .int .i64 (-(carryAt h 0 k)) ∧ Own wr w.heap.size v (limbs h 0 k) ∧ Ext w wr) (fun _ _ i _ => a.length - (intOf i).toNat)
  case atStart => exact ⟨0, by omega, rfl, rfl, Own.nil w1 _, E1⟩
  case round =>
    obtain ⟨k, hk, rfl, rfl, ho, he⟩ := hrel
    have hsz := he.size
    have hlen : (limbs h 0 k).length = k := limbs_len _ _ _
    have HLEN := Lib.hid hlen
    clear hlen
    by_cases hlt : k < a.length
    · obtain ⟨c1, c2⟩ := HCB.out k
      obtain ⟨b1, off1, rfl, hb1, hc1⟩ := H3.out (by omega)
      have hcell := (he.cell (p := ⟨b1, off1 + k, none⟩) hb1).trans (hc1 k hlt)
      obtain ⟨y1, y2⟩ := NA.out.1.at k
      obtain ⟨y3, y4⟩ := NB.out.1.at k
      have hk0 : (0 : Int) ≤ (k : Int) := by omega
      have hkl : (k : Int) < (a.length : Int) := by omega
      have rbw := rb.ext he
      have ehk : h k = nth a k - nth b k := by rw [HH.out]
      have EHK := Lib.hid ehk
      obtain ⟨cr, hcr⟩ : ∃ cr, cr = carryAt h 0 k := ⟨_, rfl⟩
      rw [← hcr] at c1 c2
      have HCR := Lib.hid hcr
      have hnext : carryAt h 0 (k + 1) = (nth a k - nth b k + cr) / 16777216 := by rw [carryAt_succ, ehk, hcr]
      have hlimb : limbAt h 0 k = (nth a k - nth b k + cr) % 16777216 := by unfold limbAt; rw [ehk, hcr]
      have HNX := Lib.hid hnext
      have HLB := Lib.hid hlimb
      have j1 : IntKind.i64.wrap (nth a k - nth b k) = nth a k - nth b k := IntWalk.i64_in _ (by omega)
      have j2 : IntKind.i64.wrap (nth a k - nth b k + cr) = nth a k - nth b k + cr := IntWalk.i64_in _ (by omega)
      rw [← hcr]
      clear hnext hlimb ehk hcr hc1 H3 ra
      go_wp2
      go_quiet ((go_at_call 94; with_reducible exact quiet_left (rat_any _ _ _ _ (rbw.drewN _) hk0)))
      clear j1 j2
      have heq : Ext w (wr.drewN nq) := he.drewN nq
      have hoq : Own (wr.drewN nq) w.heap.size _ (limbs h 0 k) := ho
      have hszq : w.heap.size ≤ (wr.drewN nq).heap.size := heq.size
      generalize wr.drewN nq = wq at *
      clear rbw hcell
      by_cases hs : nth a k - nth b k + cr < 0
      · have e1 : limbAt h 0 k = nth a k - nth b k + cr + 16777216 := by rw [HLB.out]; omega
        have e2 : carryAt h 0 (k + 1) = -1 := by rw [HNX.out]; omega
        have E1' := Lib.hid e1
        have E2' := Lib.hid e2
        clear e1 e2
        go_wp2_with (at_builtin; refine wpList_app _ rfl _ _ rfl w.heap.size _ (limbs h 0 k) _ [nth a k - nth b k + cr + 16777216] rfl rfl (hoq.alloc _) (row_one wq _ _) (by simp; omega) (by rw [HLEN.out]; simp; omega) ?_; intro v' w' ho' hg)
        have e1 : Ext w w' := (heq.alloc _).app (hoq.alloc _) (Nat.le_refl _) hg
        rw [← E1'.out, ← limbs_succ] at ho'
        go_roundw
        case rel => exact ⟨k + 1, by omega, by go_num, by rw [E2'.out]; rfl, ho', e1⟩
        case measure => simp [intOf]; omega
      · have e1 : limbAt h 0 k = nth a k - nth b k + cr := by rw [HLB.out]; omega
        have e2 : carryAt h 0 (k + 1) = 0 := by rw [HNX.out]; omega
        have E1' := Lib.hid e1
        have E2' := Lib.hid e2
        clear e1 e2
        go_wp2_with (at_builtin; refine wpList_app _ rfl _ _ rfl w.heap.size _ (limbs h 0 k) _ [nth a k - nth b k + cr] rfl rfl (hoq.alloc _) (row_one wq _ _) (by simp; omega) (by rw [HLEN.out]; simp; omega) ?_; intro v' w' ho' hg)
        have e1 : Ext w w' := (heq.alloc _).app (hoq.alloc _) (Nat.le_refl _) hg
        rw [← E1'.out, ← limbs_succ] at ho'
        go_roundw
        case rel => exact ⟨k + 1, by omega, by go_num, by rw [E2'.out]; rfl, ho', e1⟩
        case measure => simp [intOf]; omega
    · have hkn : k = a.length := by omega
      have HN := Lib.hid (rtrim_nat wr _ (limbs h 0 k) (m - n) ho.row (limbs_limbs _ _ _) (by rw [hkn]; exact HV.out) (by rw [HLEN.out]; omega))
      clear hkn
      go_wp2_with (go_at_call 93; refine HN.out.mono ?_; rintro e w' ⟨v', rfl, hN, hE⟩)
      go_ret2
      exact ⟨_, rfl, hN, he.trans hE⟩

set_option maxHeartbeats 1000000 in
theorem rshl_same (w : World) (v : Value) (m : Nat) (k : Int) (h : N w v m) (hm : Lt 400 m) (hk : k ≤ 0 ∨ m = 0) : Calls Tryz.prog 62 #[v, .int .i64 k] w (RetN w m) := by
  obtain ⟨a, ra, na, ea⟩ := id h
  have la : a.length ≤ 400 := N.len hm na ea
  have HT := Lib.hid (rtrim_nat w v a m ra na.1 ea (by omega))
  by_cases hk0 : k ≤ 0
  · clear ra na ea
    go_enter Tryz.func62, Tryz.ntmps62
    go_wp2_with fail
    refine HT.out.mono ?_
    rintro e w' ⟨v', rfl, hN, hE⟩
    go_wp2
    go_ret
    exact ⟨_, rfl, hN, hE⟩
  · have hm0 : m = 0 := by omega
    obtain ⟨A, c, rfl, hc⟩ := N.form (w := w) (v := v) (by rw [← hm0]; exact h)
    clear ra na ea h hm hk hm0
    go_enter Tryz.func62, Tryz.ntmps62
    go_wp2_with fail
    refine HT.out.mono ?_
    rintro e w' ⟨v', rfl, hN, hE⟩
    go_wp2
    go_ret
    exact ⟨_, rfl, hN, hE⟩

theorem zeros_nth (q : Nat) (ys : List Int) (j : Nat) : nth (List.replicate q 0 ++ ys) j = if j < q then 0 else nth ys (j - q) := by
  by_cases h : j < q
  · rw [if_pos h, nth_eq (by simp; omega), List.getElem_append_left (by simpa using h)]; simp
  · rw [if_neg h]
    by_cases h2 : j - q < ys.length
    · rw [nth_eq (by simp; omega), nth_eq h2, List.getElem_append_right (by simp; omega)]; simp
    · rw [nth_past (by simp; omega), nth_past (by omega)]
theorem zeros_val (q : Nat) (ys : List Int) : val (List.replicate q 0 ++ ys) = bp q * val ys := by
  rw [val_S, val_S ys, ← S_zeros (nth ys) q ys.length]
  have e : (List.replicate q (0 : Int) ++ ys).length = q + ys.length := by simp
  rw [e]
  exact S_congr _ (fun j _ => zeros_nth q ys j)
theorem zeros_limbs {q : Nat} {ys : List Int} (h : Limbs ys) : Limbs (List.replicate q 0 ++ ys) := fun j _ => by
  rw [zeros_nth]; split
  · omega
  · exact h.at _

set_option maxHeartbeats 1000000 in
theorem rshl_nat (w : World) (v : Value) (m K : Nat) (hK0 : 0 < K) (hK : K ≤ 20000) (hN0 : N w v m) (hm : Lt 400 m) (hm0 : m ≠ 0) : Calls Tryz.prog 62 #[v, .int .i64 K] w (RetN w (m * 2 ^ K)) := by
  obtain ⟨a, ra, na, ea⟩ := id hN0
  have la : a.length ≤ 400 := N.len hm na ea
  obtain ⟨A, c, rfl, h1, h2, h3⟩ := id ra
  have hp : 0 < a.length := by
    rcases Nat.eq_zero_or_pos a.length with e | e
    · have : a = [] := List.eq_nil_of_length_eq_zero e
      subst this; simp [val] at ea; omega
    · exact e
  have hne : ((a.length : Int) == 0) = false := beq_eq_false_iff_ne.2 (by omega)
  obtain ⟨b1, off1, rfl, hb1, hc1⟩ := h3 hp
  obtain ⟨p, hpp⟩ : ∃ p : Int, p = 2 ^ (K % 24) := ⟨_, rfl⟩
  have hpb := two_pow_le (K % 24) (Nat.mod_lt _ (by omega))
  rw [← hpp] at hpb
  obtain ⟨h, hh⟩ : ∃ h : Nat → Int, h = fun j => p * nth a j := ⟨_, rfl⟩
  have hxb : ∀ j, 0 ≤ p * nth a j ∧ p * nth a j ≤ 140737488355328 := fun j => by rw [hpp]; exact shl_bounds (Nat.mod_lt _ (by omega)) (na.1.at j).1 (na.1.at j).2
  have hcb : ∀ j, 0 ≤ carryAt h 0 j ∧ carryAt h 0 j < 16777216 := fun j => by
    induction j with
    | zero => simp [carryAt]
    | succ j ih =>
      have e : h j = p * nth a j := by rw [hh]
      rw [carryAt_succ, e]; have := hxb j; omega
  have hval : val (limbs h 0 a.length ++ [carryAt h 0 a.length]) = p * (m : Int) := by
    have := carry_sum h 0 a.length
    have e2 : S h a.length = p * (m : Int) := by rw [hh, S_mul, val_S_ge (Nat.le_refl _), ea]
    rw [val_snoc, limbs_len, limbs_val]; omega
  have hfin : val (List.replicate (K / 24) 0 ++ (limbs h 0 a.length ++ [carryAt h 0 a.length])) = ((m * 2 ^ K : Nat) : Int) := by
    rw [zeros_val, hval, bp_two, hpp]
    have e2 : K = 24 * (K / 24) + K % 24 := by omega
    have e3 : m * 2 ^ K = 2 ^ (24 * (K / 24)) * (2 ^ (K % 24) * m) := by
      rw [← Nat.mul_assoc, ← Nat.pow_add, ← e2, Nat.mul_comm]
    rw [e3]; push_cast; rfl
  have hlim : Limbs (List.replicate (K / 24) 0 ++ (limbs h 0 a.length ++ [carryAt h 0 a.length])) := zeros_limbs ((limbs_limbs _ _ _).snoc (hcb _).1 (hcb _).2)
  have HWP := Lib.hid (show wrap64 (2 ^ (K % 24)) = p by rw [← hpp]; unfold wrap64; omega)
  have HC1 := Lib.hid hc1
  have HPP := Lib.hid hpp
  have HH := Lib.hid hh
  have HXB := Lib.hid hxb
  have HCB := Lib.hid hcb
  have HF := Lib.hid hfin
  have HL := Lib.hid hlim
  clear hc1 hpp hh hxb hcb hfin hlim hval h3 ea na ra hN0
  go_enter Tryz.func62, Tryz.ntmps62
  go_wp2_with (at_make; refine wpList_mk_ints _ rfl _ rfl (K / 24) _ rfl (by omega) (by omega) ?_; intro w1 hmade)
  rw [HWP.out]
  have ho1 := Own.made (base := w.heap.size) hmade (Nat.le_refl _) (by omega)
  have E1 := hmade.ext
  clear hmade
  go_loopw [5, 7, 8] (fun v cr i wr => ∃ k : Nat, k ≤ a.length ∧ i = .int .i64 k ∧ cr = .int .i64 (carryAt h 0 k) ∧ Own wr w.heap.size v (List.replicate (K / 24) 0 ++ limbs h 0 k) ∧ Ext w wr) (fun _ _ i _ => a.length - (intOf i).toNat)
  case atStart => exact ⟨0, by omega, rfl, rfl, by simpa [limbs] using ho1, E1⟩
  case round =>
    clear ho1 E1
    obtain ⟨k, hk, rfl, rfl, ho, he⟩ := hrel
    have hsz := he.size
    have hlen : (List.replicate (K / 24) (0 : Int) ++ limbs h 0 k).length = K / 24 + k := by simp [limbs_len]
    have HLEN := Lib.hid hlen
    clear hlen
    obtain ⟨c1, c2⟩ := HCB.out k
    by_cases hlt : k < a.length
    · have hcell := (he.cell (p := ⟨b1, off1 + k, none⟩) hb1).trans (HC1.out k hlt)
      obtain ⟨x1, x2⟩ := HXB.out k
      rw [Int.mul_comm] at x1 x2
      have ehk : h k = nth a k * p := by rw [HH.out]; exact Int.mul_comm _ _
      have hnext : carryAt h 0 (k + 1) = (nth a k * p + carryAt h 0 k) / 16777216 := by rw [carryAt_succ, ehk]
      have hlimb : limbAt h 0 k = (nth a k * p + carryAt h 0 k) % 16777216 := by unfold limbAt; rw [ehk]
      have HNX := Lib.hid hnext
      have HLB := Lib.hid hlimb
      clear hnext hlimb ehk
      go_wp2_with (at_builtin; refine wpList_app _ rfl _ _ rfl w.heap.size _ (List.replicate (K / 24) 0 ++ limbs h 0 k) _ [(nth a k * p + carryAt h 0 k) % 16777216] rfl rfl (ho.alloc _) (row_one wr _ _) (by simp; omega) (by rw [HLEN.out]; simp; omega) ?_; intro v' w' ho' hg)
      have e1 : Ext w w' := (he.alloc _).app (ho.alloc _) (Nat.le_refl _) hg
      rw [← HLB.out, List.append_assoc, ← limbs_succ] at ho'
      go_roundw
      case rel => exact ⟨k + 1, by omega, by go_num, by rw [HNX.out], ho', e1⟩
      case measure => simp [intOf]; omega
    · have hkn : k = a.length := by omega
      have HF2 := Lib.hid (show val (List.replicate (K / 24) 0 ++ (limbs h 0 k ++ [carryAt h 0 k])) = ((m * 2 ^ K : Nat) : Int) by rw [hkn]; exact HF.out)
      have HL2 := Lib.hid (show Limbs (List.replicate (K / 24) 0 ++ (limbs h 0 k ++ [carryAt h 0 k])) by rw [hkn]; exact HL.out)
      clear hkn
      go_wp2_with (at_builtin; refine wpList_app _ rfl _ _ rfl w.heap.size _ (List.replicate (K / 24) 0 ++ limbs h 0 k) _ [carryAt h 0 k] rfl rfl (ho.alloc _) (row_one wr _ _) (by simp; omega) (by rw [HLEN.out]; simp; omega) ?_; intro v' w' ho' hg)
      have e1 : Ext w w' := (he.alloc _).app (ho.alloc _) (Nat.le_refl _) hg
      rw [List.append_assoc] at ho'
      refine (rtrim_nat w' _ _ (m * 2 ^ K) ho'.row HL2.out HF2.out (by simp [limbs_len]; omega)).mono ?_
      rintro e w2 ⟨v2, rfl, hN, hE⟩
      go_wp2
      go_ret
      exact ⟨_, rfl, hN, e1.trans hE⟩

end Go.Proofs.YtomdbmjfehoodaaGreatDoor

/- Walks of the document's answers: Shr. -/
namespace Go.Proofs.YtomdbmjfehoodaaGreatDoor
open Go.RowKit

theorem step_app {ops : Array Oper} {o : Oper} {a : Act} {w : World} {K : Act → World → Prop} {Q : Exit → Act → World → Prop} {E : Prop} (hgd : o.guard = none) (s x : Operand)
    (hop : o.op = .call { callee := .builtin .append, args := #[s, x], argTypes := #[24, 24] })
    (base : Nat) (v : Value) (xs : List Int) (vs : Value) (ys : List Int) (hs : a.eval s = v) (hx : a.eval x = vs) (ho : Own w base v xs) (hr : Row w vs ys) (hb : base ≤ w.heap.size) (hlen : xs.length + ys.length ≤ 1000000)
    (h : ∀ v' w', Own w' base v' (xs ++ ys) → w.grownBy w' v.ownBlock → K (a.put o.dst v') w') :
    if Region.wanted o (yielded ops a.tmps) = true then Oper.wp Tryz.prog o a w K Q else E := by
  have hw : Region.wanted o (yielded ops a.tmps) = true := by simp [Region.wanted, hgd]
  rw [if_pos hw]
  obtain ⟨v', w', hrun, h2, h3⟩ := app_run w o.type base v xs vs ys ho hr hb hlen
  unfold Oper.wp execOp
  simp only [hop, resolve, invoke, builtin, Sem.run_bind, Sem.run_pure, Result.andThen_ok, List.map_toArray, List.map_cons, List.map_nil, hs, hx, hrun]
  exact h v' w' h2 h3

theorem shr_limb {x y : Int} {d : Nat} (hd : d < 24) (x0 : 0 ≤ x) (x1 : x < 16777216) :
    y % 2 ^ d * (16777216 / 2 ^ d) = y * 2 ^ (24 - d) % 16777216 ∧ 0 ≤ x / 2 ^ d + y * 2 ^ (24 - d) % 16777216 ∧ x / 2 ^ d + y * 2 ^ (24 - d) % 16777216 < 16777216 := by
  obtain rfl | rfl | rfl | rfl | rfl | rfl | rfl | rfl | rfl | rfl | rfl | rfl | rfl | rfl | rfl | rfl | rfl | rfl | rfl | rfl | rfl | rfl | rfl | rfl :
    d = 0 ∨ d = 1 ∨ d = 2 ∨ d = 3 ∨ d = 4 ∨ d = 5 ∨ d = 6 ∨ d = 7 ∨ d = 8 ∨ d = 9 ∨ d = 10 ∨ d = 11 ∨ d = 12 ∨ d = 13 ∨ d = 14 ∨ d = 15 ∨ d = 16 ∨ d = 17 ∨ d = 18 ∨ d = 19 ∨ d = 20 ∨ d = 21 ∨ d = 22 ∨ d = 23 := by omega
  all_goals (simp only [Nat.reduceSub, Int.reducePow, Int.reduceDiv]; omega)

/-- The limbs of a row over 2^d, so far. -/
def shrs (l : List Int) (d k : Nat) : List Int := (List.range k).map (shrAt l d)
theorem shrs_len (l : List Int) (d k : Nat) : (shrs l d k).length = k := by simp [shrs]
theorem shrs_succ (l : List Int) (d k : Nat) : shrs l d (k + 1) = shrs l d k ++ [shrAt l d k] := by simp [shrs, List.range_succ]
theorem shrs_nth {l : List Int} {d k j : Nat} (hj : j < k) : nth (shrs l d k) j = shrAt l d j := by
  rw [nth_eq (by rw [shrs_len]; exact hj)]; simp [shrs]
theorem shrs_limbs {l : List Int} {d : Nat} (hl : Limbs l) (hd : d < 24) (k : Nat) : Limbs (shrs l d k) := fun j hj => by
  rw [shrs_len] at hj; rw [shrs_nth hj]
  exact (shr_limb (y := nth l (j + 1)) hd (hl.at j).1 (hl.at j).2).2
theorem shrs_val {l : List Int} {d : Nat} (hl : Limbs l) (hd : d < 24) : val (shrs l d l.length) = val l / 2 ^ d := by
  rw [val_S, shrs_len, S_congr _ (fun j hj => shrs_nth hj), S_shr d hd l hl]
theorem drop_div {a : List Int} {m K : Nat} (na : Limbs a) (ea : val a = (m : Int)) : val (a.drop (K / 24)) / 2 ^ (K % 24) = ((m / 2 ^ K : Nat) : Int) := by
  rw [val_drop_div na, ea, bp_two]
  have e2 : K = 24 * (K / 24) + K % 24 := by omega
  have e3 : m / 2 ^ K = m / 2 ^ (24 * (K / 24)) / 2 ^ (K % 24) := by
    rw [Nat.div_div_eq_div_mul, ← Nat.pow_add, ← e2]
  rw [e3]
  push_cast
  rfl
theorem nth_drop (a : List Int) (q j : Nat) : nth (a.drop q) j = nth a (q + j) := by
  by_cases h : q + j < a.length
  · rw [nth_eq (by simp; omega), nth_eq h]; simp
  · rw [nth_past (by simp; omega), nth_past (by omega)]

theorem rshr_same (w : World) (v : Value) (m : Nat) (k : Int) (h : N w v m) (hm : Lt 400 m) (hk : k ≤ 0) : Calls Tryz.prog 58 #[v, .int .i64 k] w (RetN w m) := by
  obtain ⟨a, ra, na, ea⟩ := id h
  have la : a.length ≤ 400 := N.len hm na ea
  have HT := Lib.hid (rtrim_nat w v a m ra na.1 ea (by omega))
  clear ra na ea
  go_enter Tryz.func58, Tryz.ntmps58
  go_wp2_with fail
  refine HT.out.mono ?_
  rintro e w' ⟨v', rfl, hN, hE⟩
  go_wp2
  go_ret
  exact ⟨_, rfl, hN, hE⟩

set_option maxHeartbeats 1000000 in
theorem rshr_nat (w : World) (v : Value) (m K : Nat) (hK0 : 0 < K) (hK : K ≤ 1000000) (hN0 : N w v m) (hm : Lt 400 m) : Calls Tryz.prog 58 #[v, .int .i64 K] w (RetN w (m / 2 ^ K)) := by
  obtain ⟨a, ra, na, ea⟩ := id hN0
  have la : a.length ≤ 400 := N.len hm na ea
  obtain ⟨A, c, rfl, h1, h2, h3⟩ := id ra
  obtain ⟨p, hpp⟩ : ∃ p : Int, p = 2 ^ (K % 24) := ⟨_, rfl⟩
  have hd24 : K % 24 < 24 := Nat.mod_lt _ (by omega)
  obtain ⟨hp1, hp2⟩ := two_pow_le (K % 24) hd24
  rw [← hpp] at hp1 hp2
  have HD := Lib.hid (drop_div (K := K) na.1 ea)
  have HWP := Lib.hid (show wrap64 (2 ^ (K % 24)) = p by rw [← hpp]; unfold wrap64; omega)
  have H3 := Lib.hid h3
  have HPP := Lib.hid hpp
  have NA := Lib.hid na
  have hK9 : ¬ K = 0 := by omega
  clear h3 hpp ea na hN0
  go_enter Tryz.func58, Tryz.ntmps58
  go_wp2
  rw [HWP.out]
  go_loopw [7, 8] (fun v i wr => ∃ k : Nat, Hid (K / 24 + k ≤ a.length ∨ k = 0) ∧ i = .int .i64 ((K / 24 + k : Nat) : Int) ∧ Own wr w.heap.size v (shrs (a.drop (K / 24)) (K % 24) k) ∧ Ext w wr) (fun _ i _ => a.length - (intOf i).toNat)
  case atStart => exact ⟨0, .inr rfl, by go_num, Own.nil w _, Ext.refl _⟩
  case round =>
    obtain ⟨k, hk, rfl, ho, he⟩ := hrel
    have hsz := he.size
    obtain ⟨i, hi⟩ : ∃ i, i = K / 24 + k := ⟨_, rfl⟩
    rw [← hi]
    have HI := Lib.hid hi
    have hlen : (shrs (a.drop (K / 24)) (K % 24) k).length = k := shrs_len _ _ _
    have HLEN := Lib.hid hlen
    clear hlen
    by_cases hlt : i < a.length
    · obtain ⟨b1, off1, rfl, hb1, hc1⟩ := H3.out (by omega)
      have hcell := (he.cell (p := ⟨b1, off1 + i, none⟩) hb1).trans (hc1 i hlt)
      have HCW := Lib.hid (hc1 i hlt)
      obtain ⟨x0, x1⟩ := NA.out.1.at i
      obtain ⟨y0, y1⟩ := NA.out.1.at (i + 1)
      have hi0 : (0 : Int) ≤ (i : Int) + 1 := by omega
      have hi1 : (0 : Int) ≤ (i : Int) := by omega
      have hi2 : (i : Int) < (a.length : Int) := by omega
      have rw1 := ra.ext he
      have hsl := shr_limb (x := nth a i) (y := nth a (i + 1)) hd24 x0 x1
      rw [← HPP.out] at hsl
      obtain ⟨z, hz⟩ : ∃ z, z = nth a i / p + nth a (i + 1) % p * (16777216 / p) := ⟨_, rfl⟩
      have hz2 : z = shrAt (a.drop (K / 24)) (K % 24) k := by
        unfold shrAt
        rw [nth_drop, nth_drop, ← Nat.add_assoc, ← hi, hz, hsl.1, HPP.out]
      have hpos : 0 < p := by omega
      have d1 : 0 ≤ nth a i / p := Int.ediv_nonneg x0 (by omega)
      have d2 : nth a i / p ≤ nth a i := Int.ediv_le_self _ x0
      have d3 : 0 ≤ (16777216 : Int) / p := Int.ediv_nonneg (by omega) (by omega)
      have d4 : (16777216 : Int) / p ≤ 16777216 := Int.ediv_le_self _ (by omega)
      have d5 : 0 ≤ nth a (i + 1) % p * (16777216 / p) ∧ nth a (i + 1) % p * (16777216 / p) < 16777216 := by rw [hsl.1]; omega
      have q1 : IntKind.i64.wrap ((nth a i).tdiv p) = nth a i / p := by rw [Int.tdiv_eq_ediv_of_nonneg x0]; exact IntWalk.i64_in _ (by omega)
      have q2 : (nth a (i + 1)).tmod p = nth a (i + 1) % p := Int.tmod_eq_emod_of_nonneg y0
      have q3 : IntKind.i64.wrap (Int.tdiv 16777216 p) = 16777216 / p := by rw [Int.tdiv_eq_ediv_of_nonneg (by omega)]; exact IntWalk.i64_in _ (by omega)
      have q4 : IntKind.i64.wrap (nth a (i + 1) % p * (16777216 / p)) = nth a (i + 1) % p * (16777216 / p) := IntWalk.i64_in _ (by omega)
      have q5 : IntKind.i64.wrap (nth a i / p + nth a (i + 1) % p * (16777216 / p)) = z := by rw [← hz]; exact IntWalk.i64_in _ (by omega)
      have q6 : IntKind.i64.wrap ((i : Int) + 1) = (i : Int) + 1 := IntWalk.i64_in _ (by omega)
      have q7 : ((i : Int) + 1).toNat = i + 1 := by omega
      have q8 : (p == 0) = false := beq_eq_false_iff_ne.2 (by omega)
      have q9 : p ≠ 0 := by omega
      have HB := Lib.hid (fun o : Obj => show w.heap.size ≤ (wr.alloc o).drew.heap.size by simp; omega)
      have HLN := Lib.hid (show (shrs (a.drop (K / 24)) (K % 24) k).length + [z].length ≤ 1000000 by rw [HLEN.out]; simp; omega)
      have HZ2 := Lib.hid hz2
      clear hi hc1 H3 hz hz2 hsl d1 d2 d3 d4 d5
      go_wp2
      go_region_held3 (fun w' => w'.cell? ⟨b1, off1 + i, none⟩ = some (.int .i64 (nth a i)))
        (first | go_keep | exact (((he.alloc _).drew.app (ho.ext ((Ext.refl wr).alloc _).drew) (Nat.le_refl _) hg).cell hb1).trans HCW.out)
        (first | ((go_at_call 94); (refine (rat_any _ _ _ _ (rw1.ext (Ext.refl wr).drew) hi0).mono ?_); (rintro e w' ⟨rfl, rfl⟩)) | (refine step_app rfl _ _ rfl w.heap.size _ (shrs (a.drop (K / 24)) (K % 24) k) _ [z] rfl rfl (ho.ext ((Ext.refl wr).alloc _).drew) (row_one wr z _) (HB.out _) HLN.out ?_; intro v' w' ho' hg))
      have e1 : Ext w w' := (he.alloc _).drew.app (ho.ext ((Ext.refl wr).alloc _).drew) (Nat.le_refl _) hg
      rw [HZ2.out, ← shrs_succ] at ho'
      clear q1 q2 q3 q4 q5 q6 q7 q8 q9
      go_wp2
      go_roundw
      case rel => exact ⟨k + 1, .inl (by have := HI.out; omega), by rw [HI.out]; go_num, ho', e1⟩
      case measure => simp [intOf]; omega
    · have hlk : val (shrs (a.drop (K / 24)) (K % 24) k) = ((m / 2 ^ K : Nat) : Int) := by
        have hl : Limbs (a.drop (K / 24)) := NA.out.1.drop _
        have hk' : (a.drop (K / 24)).length = k ∨ ((a.drop (K / 24)) = [] ∧ k = 0) := by
          rcases hk.out with e | e
          · left; simp; omega
          · by_cases e2 : K / 24 < a.length
            · left; simp; omega
            · right; exact ⟨List.drop_eq_nil_of_le (by omega), e⟩
        rcases hk' with e | ⟨e, e0⟩
        · rw [← e, shrs_val hl hd24]; exact HD.out
        · have := HD.out
          rw [e] at this
          rw [e0, ← this]
          simp [shrs, val]
      have HN := Lib.hid (rtrim_nat wr _ _ (m / 2 ^ K) ho.row (shrs_limbs (NA.out.1.drop _) hd24 k) hlk (by rw [HLEN.out]; rcases hk.out with e | e <;> omega))
      clear hlk hi
      go_wp2_with (go_at_call 93; refine HN.out.mono ?_; rintro e w' ⟨v', rfl, hN, hE⟩)
      go_ret
      exact ⟨_, rfl, hN, he.trans hE⟩

end Go.Proofs.YtomdbmjfehoodaaGreatDoor

/- Walks of the document's answers: Mul. -/
namespace Go.Proofs.YtomdbmjfehoodaaGreatDoor
open Go.RowKit

def upd (o : Nat → Int) (p : Nat) (x : Int) : Nat → Int := fun j => if j = p then x else o j
theorem upd_eq (o : Nat → Int) (p : Nat) (x : Int) : upd o p x p = x := by simp [upd]
theorem upd_ne {o : Nat → Int} {p j : Nat} {x : Int} (h : j ≠ p) : upd o p x j = o j := by simp [upd, h]
theorem S_upd (o : Nat → Int) (p : Nat) (x : Int) : ∀ n, p < n → S (upd o p x) n = S o n + (x - o p) * bp p
  | 0, h => by omega
  | n + 1, h => by
    rw [S_succ, S_succ]
    by_cases e : p = n
    · subst e
      rw [upd_eq, S_congr (k := o) p (fun j hj => upd_ne (by omega)), Int.sub_mul]; omega
    · rw [S_upd o p x n (by omega), upd_ne (by omega)]; omega
/-- Block g begins with the ints o 0 to o (n - 1), and may be written. -/
structure Cells (w : World) (g n : Nat) (o : Nat → Int) : Prop where
  cell : ∀ j, j < n → w.cell? ⟨g, j, none⟩ = some (.int .i64 (o j))
  frozen : ∀ j, w.frozen? ⟨g, j, none⟩ = false
theorem Cells.set {w : World} {g n : Nat} {o : Nat → Int} (h : Cells w g n o) {p : Nat} (hp : p < n) (x : Int) : Cells (w.setCell ⟨g, p, none⟩ (.int .i64 x)) g n (upd o p x) :=
  ⟨fun j hj => by
    by_cases e : j = p
    · subst e; rw [upd_eq]; exact World.cell?_setCell_same _ _ _ (h.cell j hj)
    · rw [upd_ne e, World.cell?_setCell_other _ _ _ _ (by simp <;> omega)]; exact h.cell j hj,
   fun j => by rw [World.frozen?_setCell]; exact h.frozen j⟩
theorem Cells.drewN {w : World} {g n : Nat} {o : Nat → Int} (h : Cells w g n o) (q : Nat) : Cells (w.drewN q) g n o := ⟨h.cell, h.frozen⟩
theorem Cells.row {w : World} {g n : Nat} {o : Nat → Int} (h : Cells w g n o) (hg : g < w.heap.size) (hn : n ≤ 1000000) : Row w (.slice (some ⟨g, 0, none⟩) n n) ((List.range n).map o) := by
  have hl : ((List.range n).map o).length = n := by simp
  refine ⟨_, n, by rw [hl], by omega, by unfold maxLen; omega, fun _ => ⟨g, 0, rfl, hg, fun j hj => ?_⟩⟩
  rw [hl] at hj
  rw [Nat.zero_add, h.cell j hj, nth_eq (by simpa using hj)]
  simp

/-- The product's rows, i of them done; and k limbs of the next one, with what is carried. -/
def MulOut (a b : List Int) (n i : Nat) (o : Nat → Int) : Prop := (∀ j, 0 ≤ o j ∧ o j < 16777216) ∧ (∀ j, i + b.length ≤ j → o j = 0) ∧ S o n = S (nth a) i * val b
def MulIn (a b : List Int) (n i k : Nat) (c : Int) (o : Nat → Int) : Prop := (∀ j, 0 ≤ o j ∧ o j < 16777216) ∧ (∀ j, i + b.length ≤ j → o j = 0) ∧ S o n + c * bp (i + k) = S (nth a) i * val b + nth a i * S (nth b) k * bp i
theorem MulIn.step {a b : List Int} {n i k : Nat} {c : Int} {o : Nat → Int} (h : MulIn a b n i k c o) (hk : k < b.length) (hn : i + b.length < n) :
    MulIn a b n i (k + 1) ((o (i + k) + nth a i * nth b k + c) / 16777216) (upd o (i + k) ((o (i + k) + nth a i * nth b k + c) % 16777216)) := by
  obtain ⟨h1, h2, h3⟩ := h
  refine ⟨fun j => ?_, fun j hj => ?_, ?_⟩
  · by_cases e : j = i + k
    · subst e; rw [upd_eq]; omega
    · rw [upd_ne e]; exact h1 j
  · rw [upd_ne (by omega)]; exact h2 j hj
  · rw [S_upd o _ _ n (by omega), S_succ, ← Nat.add_assoc, bp_succ]
    generalize hs : o (i + k) + nth a i * nth b k + c = s
    have e1 : s / 16777216 * (16777216 * bp (i + k)) = (s - s % 16777216) * bp (i + k) := by
      rw [← Int.mul_assoc]; congr 1; omega
    have e2 : (s % 16777216 - o (i + k)) * bp (i + k) + (s - s % 16777216) * bp (i + k) = (nth a i * nth b k) * bp (i + k) + c * bp (i + k) := by
      rw [← Int.add_mul, ← Int.add_mul]; congr 1; omega
    have e3 : nth a i * (S (nth b) k + nth b k * bp k) * bp i = nth a i * S (nth b) k * bp i + nth a i * nth b k * bp (i + k) := by
      rw [Int.mul_add, Int.add_mul, bp_add, Int.mul_assoc (nth a i) (nth b k) (bp i * bp k), Int.mul_comm (bp i) (bp k), ← Int.mul_assoc (nth b k), Int.mul_assoc (nth a i) (nth b k * bp k), Int.mul_assoc (nth a i)]
    omega
theorem MulIn.done {a b : List Int} {n i : Nat} {c : Int} {o : Nat → Int} (h : MulIn a b n i b.length c o) (hc : 0 ≤ c ∧ c < 16777216) (hn : i + b.length < n) : MulOut a b n (i + 1) (upd o (i + b.length) c) := by
  obtain ⟨h1, h2, h3⟩ := h
  refine ⟨fun j => ?_, fun j hj => ?_, ?_⟩
  · by_cases e : j = i + b.length
    · subst e; rw [upd_eq]; exact hc
    · rw [upd_ne e]; exact h1 j
  · rw [upd_ne (by omega)]; exact h2 j (by omega)
  · rw [S_upd o _ _ n hn, h2 _ (Nat.le_refl _), S_succ, Int.add_mul]
    rw [val_S_ge (Nat.le_refl _)] at h3
    have e : nth a i * bp i * val b = nth a i * val b * bp i := by rw [Int.mul_assoc, Int.mul_comm (bp i), ← Int.mul_assoc]
    rw [e, Int.sub_zero]; omega
theorem MulOut.start {a b : List Int} {n i : Nat} {o : Nat → Int} (h : MulOut a b n i o) : MulIn a b n i 0 0 o := ⟨h.1, h.2.1, by rw [h.2.2]; simp [S]⟩

set_option maxHeartbeats 1000000 in
theorem rmul_any (w : World) (va vb : Value) (m n : Nat) (ha : N w va m) (hb : N w vb n) (hm : Lt 400 m) (hn : Lt 400 n) : Calls Tryz.prog 65 #[va, vb] w (RetN w (m * n)) := by
  obtain ⟨a, ra, na, ea⟩ := ha
  obtain ⟨b, rb, nb, eb⟩ := hb
  have la : a.length ≤ 400 := N.len hm na ea
  have lb : b.length ≤ 400 := N.len hn nb eb
  obtain ⟨A, c, rfl, h1, h2, h3⟩ := id ra
  obtain ⟨A', c', rfl, h1', h2', h3'⟩ := id rb
  have H3 := Lib.hid h3
  have H3' := Lib.hid h3'
  have NA := Lib.hid na
  have NB := Lib.hid nb
  have EA := Lib.hid ea
  have EB := Lib.hid eb
  clear h3 h3' na nb ea eb ra rb
  go_enter Tryz.func65, Tryz.ntmps65
  go_wp2_with (at_make; refine wpList_mk_ints _ rfl _ rfl (a.length + b.length) _ rfl (by omega) (by omega) ?_; intro w1 hmade)
  obtain ⟨L, hL⟩ : ∃ L, L = a.length + b.length := ⟨_, rfl⟩
  have hC : Cells w1 w.heap.size L (fun _ => 0) := ⟨fun j hj => hmade.cell j (by omega), hmade.frozen⟩
  have hO : MulOut a b L 0 (fun _ => 0) := ⟨fun j => by show 0 ≤ (0 : Int) ∧ (0 : Int) < 16777216; omega, fun _ _ => rfl, by rw [S_zero]; simp [S]⟩
  have E1 := hmade.ext
  have hsz1 : w.heap.size < w1.heap.size := by rw [hmade.size]; omega
  rw [← hL]
  have hL8 : L ≤ 800 := by omega
  have HL := Lib.hid hL
  clear hmade hL
  go_loopw [6] (fun iv wr => ∃ (i : Nat) (o : Nat → Int), i ≤ a.length ∧ iv = .int .i64 i ∧ Cells wr w.heap.size L o ∧ MulOut a b L i o ∧ Ext w wr ∧ w.heap.size < wr.heap.size) (fun iv _ => a.length - (intOf iv).toNat)
  case atStart => exact ⟨0, fun _ => 0, Nat.zero_le _, rfl, hC, hO, E1, hsz1⟩
  case round =>
    clear hC hO E1 hsz1
    obtain ⟨i, o, hi, rfl, hC, hO, he, hsz⟩ := hrel
    by_cases hlt : i < a.length
    · go_wp2
      go_loopw [7, 8] (fun cv kv wk => ∃ (k : Nat) (cy : Int) (o : Nat → Int), k ≤ b.length ∧ kv = .int .i64 k ∧ cv = .int .i64 cy ∧ 0 ≤ cy ∧ cy < 16777216 ∧ Cells wk w.heap.size L o ∧ MulIn a b L i k cy o ∧ Ext w wk ∧ w.heap.size < wk.heap.size) (fun _ kv _ => b.length - (intOf kv).toNat)
      case atStart => exact ⟨0, 0, o, Nat.zero_le _, rfl, rfl, by omega, by omega, hC, hO.start, he, hsz⟩
      case round =>
        clear hC hO he hsz
        obtain ⟨k, cy, o, hk, rfl, rfl, c0, c1, hC, hI, he, hsz⟩ := hrel
        by_cases hkl : k < b.length
        · obtain ⟨b1, off1, rfl, hb1, hc1⟩ := H3.out (by omega)
          obtain ⟨b2, off2, rfl, hb2, hc2⟩ := H3'.out (by omega)
          have hcell1 := (he.cell (p := ⟨b1, off1 + i, none⟩) hb1).trans (hc1 i hlt)
          have hcell2 := (he.cell (p := ⟨b2, off2 + k, none⟩) hb2).trans (hc2 k hkl)
          have hcell3 := hC.cell (i + k) (by have := HL.out; omega)
          have hfr := hC.frozen (i + k)
          obtain ⟨x0, x1⟩ := NA.out.1.at i
          obtain ⟨y0, y1⟩ := NB.out.1.at k
          obtain ⟨z0, z1⟩ := hI.1 (i + k)
          have p0 : 0 ≤ nth a i * nth b k := Int.mul_nonneg x0 y0
          have p1 : nth a i * nth b k ≤ 281474943156225 := by
            have : nth a i * nth b k ≤ 16777215 * 16777215 := Int.mul_le_mul (by omega) (by omega) y0 (by omega)
            omega
          have hst := hI.step hkl (by have := HL.out; omega)
          have HST := Lib.hid hst
          have hik : (i : Int) + (k : Int) < (L : Int) := by have := HL.out; omega
          have hik0 : (0 : Int) ≤ (i : Int) + (k : Int) := by omega
          have hi0 : (0 : Int) ≤ (i : Int) := by omega
          have hk0 : (0 : Int) ≤ (k : Int) := by omega
          have hil : (i : Int) < (a.length : Int) := by omega
          have hkl' : (k : Int) < (b.length : Int) := by omega
          have hcy : (o (i + k) + nth a i * nth b k + cy) / 16777216 < 16777216 := by omega
          have hcy0 : 0 ≤ (o (i + k) + nth a i * nth b k + cy) / 16777216 := by omega
          clear hc1 hc2 H3 H3' hst
          go_wp2
          go_quiet (fail)
          go_wp2
          go_roundw
          case rel => exact ⟨k + 1, _, _, by omega, by go_num, rfl, hcy0, hcy, (hC.drewN _).set (by have := HL.out; omega) _, HST.out, (he.drewN _).setCell (Nat.le_refl _) _, by simpa using hsz⟩
          case measure => simp [intOf]; omega
        · obtain rfl : k = b.length := by omega
          have hik : (i : Int) + (b.length : Int) < (L : Int) := by have := HL.out; omega
          have hik0 : (0 : Int) ≤ (i : Int) + (b.length : Int) := by omega
          have hcell3 := hC.cell (i + b.length) (by omega)
          have hfr := hC.frozen (i + b.length)
          have HD := Lib.hid (hI.done ⟨c0, c1⟩ (by omega))
          go_wp2
          go_roundw
          case rel => exact ⟨i + 1, _, by omega, by go_num, hC.set (by omega) _, HD.out, he.setCell (Nat.le_refl _) _, by simpa using hsz⟩
          case measure => simp [intOf]; omega
    · obtain rfl : i = a.length := by omega
      have hS : ∀ j, j < L → nth ((List.range L).map o) j = o j := fun j hj => by rw [nth_eq (by simpa using hj)]; simp
      have hlimb : Limbs ((List.range L).map o) := fun j hj => by
        rw [hS j (by simpa using hj)]; exact hO.1 j
      have hval : val ((List.range L).map o) = ((m * n : Nat) : Int) := by
        rw [val_S, List.length_map, List.length_range, S_congr L hS, hO.2.2, ← val_S, EA.out, EB.out]; push_cast; rfl
      have HN := Lib.hid (rtrim_nat wr _ _ (m * n) (hC.row hsz (by omega)) hlimb hval (by simp; omega))
      clear hS hlimb hval
      go_wp2_with (go_at_call 93; refine HN.out.mono ?_; rintro e w' ⟨v', rfl, hN, hE⟩)
      go_ret
      exact ⟨_, rfl, hN, he.trans hE⟩

end Go.Proofs.YtomdbmjfehoodaaGreatDoor

/- Walks of the document's answers: Root. -/
namespace Go.Proofs.YtomdbmjfehoodaaGreatDoor
open Go.RowKit

theorem bl_pow (K : Nat) : bl (2 ^ K) = K + 1 := bl_is (Nat.le_refl _) (Nat.pow_lt_pow_right (by omega) (by omega))
theorem one_nat (w : World) (t : TypeId) : N (w.alloc (.cells #[.int .i64 1] t)) (.slice (some ⟨w.heap.size, 0, none⟩) 1 1) 1 :=
  ⟨[1], row_one w 1 t, ⟨fun j hj => by
    obtain rfl : j = 0 := by simpa using hj
    rw [nth_eq (by simp)]; simp, .inr (by rw [nth_eq (by simp)]; simp)⟩, by simp [val]⟩
/-- The root's bits from 2^K on are found. -/
structure Bit (m K r : Nat) : Prop where
  low : r * r ≤ m
  high : m < (r + 2 ^ K) * (r + 2 ^ K)
theorem Bit.start {m K : Nat} (h : bl m ≤ 2 * K) : Bit m K 0 := ⟨by omega, by
  have h1 := bl_lt m
  have h2 : 2 ^ bl m ≤ 2 ^ (2 * K) := Nat.pow_le_pow_right (by omega) h
  rw [Nat.zero_add, ← Nat.pow_add, show K + K = 2 * K by omega]; omega⟩
theorem Bit.yes {m K r : Nat} (h : Bit m (K + 1) r) (hle : (r + 2 ^ K) * (r + 2 ^ K) ≤ m) : Bit m K (r + 2 ^ K) := ⟨hle, by
  have := h.high
  rw [Nat.pow_succ, Nat.mul_two, ← Nat.add_assoc] at this
  exact this⟩
theorem Bit.no {m K r : Nat} (h : Bit m (K + 1) r) (hlt : m < (r + 2 ^ K) * (r + 2 ^ K)) : Bit m K r := ⟨h.low, hlt⟩
theorem Bit.done {m r : Nat} (h : Bit m 0 r) : Sq m r := ⟨h.low, by simpa using h.high⟩
theorem rshl_one (w : World) (t : TypeId) (K : Nat) (hK : K ≤ 20000) : Calls Tryz.prog 62 #[.slice (some ⟨w.heap.size, 0, none⟩) 1 1, .int .i64 K] (w.alloc (.cells #[.int .i64 1] t)) (RetN (w.alloc (.cells #[.int .i64 1] t)) (2 ^ K)) := by
  by_cases h : K = 0
  · subst h
    exact rshl_same _ _ 1 _ (one_nat w t) (Lt.of_bits (by decide)) (.inl (by simp))
  · have := rshl_nat _ _ 1 K (by omega) hK (one_nat w t) (Lt.of_bits (by decide)) (by omega)
    rw [Nat.one_mul] at this
    exact this

set_option maxHeartbeats 1000000 in
theorem rroot_any (w : World) (v : Value) (m : Nat) (h : N w v m) (hm : Lt 400 m) : Calls Tryz.prog 140 #[v] w (RetSq w m) := by
  have HLen := Lib.hid (rlen_any w v m h hm)
  have hbl : bl m ≤ 9600 := hm.bits
  go_enter Tryz.func140, Tryz.ntmps140
  go_wp2_with fail
  refine HLen.out.mono ?_
  rintro e w' ⟨rfl, rfl⟩
  go_wp2
  go_loopw [3, 4] (fun rv kv wr => ∃ K r : Nat, K ≤ 4810 ∧ kv = .int .i64 ((K : Int) - 1) ∧ N wr rv r ∧ Bit m K r ∧ Ext w wr) (fun _ kv _ => (intOf kv + 1).toNat)
  case atStart => exact ⟨(bl m + 1) / 2 + 1, 0, by omega, by go_num, N.zero _ _ _ (by unfold maxLen; omega), Bit.start (by omega), Ext.refl _⟩
  case round =>
    obtain ⟨K, r, hK, rfl, hr, hb, he⟩ := hrel
    by_cases h0 : K = 0
    · subst h0
      go_wp2
      go_ret
      exact ⟨r, hb.done, _, rfl, hr, he⟩
    · obtain ⟨k, rfl⟩ : ∃ k, K = k + 1 := ⟨K - 1, by omega⟩
      have ek : ((k + 1 : Nat) : Int) - 1 = (k : Int) := by omega
      rw [ek]
      clear ek h0
      have lr : Lt 200 r := Lt.root (k := 200) (hm.mono (by omega)) hb.low
      have lp : Lt 201 (2 ^ k) := Lt.of_bits (by rw [bl_pow]; omega)
      have lt : Lt 202 (r + 2 ^ k) := Lt.add (lr.mono (by omega)) lp
      go_wp2_with (go_at_call 62; refine (rshl_one _ _ k (by omega)).mono ?_; rintro e w1 ⟨v1, rfl, n1, e1⟩)
      have hE1 : Ext wr w1 := ((Ext.refl wr).alloc _).trans e1
      go_wp2_with (go_at_call 59; refine (radd_any _ _ _ r (2 ^ k) (hr.ext hE1) n1 (lr.mono (by omega)) (lp.mono (by omega))).mono ?_; rintro e w2 ⟨v2, rfl, n2, e2⟩)
      go_wp2_with (go_at_call 65; refine (rmul_any _ _ _ _ _ n2 n2 (lt.mono (by omega)) (lt.mono (by omega))).mono ?_; rintro e w3 ⟨v3, rfl, n3, e3⟩)
      have hE3 : Ext w w3 := ((he.trans hE1).trans e2).trans e3
      obtain ⟨z, hz⟩ : ∃ z, cmpI (((r + 2 ^ k) * (r + 2 ^ k) : Nat) : Int) (m : Int) = z := ⟨_, rfl⟩
      have hcmp := rcmp_nat _ _ _ _ _ n3 (h.ext hE3)
      rw [hz] at hcmp
      have HC := Lib.hid hcmp
      clear hcmp
      by_cases hle : (r + 2 ^ k) * (r + 2 ^ k) ≤ m
      · have hz0 : z ≤ 0 := by rw [← hz]; unfold cmpI; split <;> (try split) <;> omega
        have HB := Lib.hid (hb.yes hle)
        clear hz hle
        go_wp2_with (go_at_call 63; refine HC.out.mono ?_; rintro e w4 ⟨rfl, q4⟩)
        go_roundw
        case rel => exact ⟨k, _, by omega, rfl, n2.ext (e3.trans q4.ext), HB.out, hE3.trans q4.ext⟩
        case measure => simp [intOf]
      · have hz0 : 0 < z := by rw [← hz]; unfold cmpI; split <;> (try split) <;> omega
        have HB := Lib.hid (hb.no (by omega))
        clear hz hle
        go_wp2_with (go_at_call 63; refine HC.out.mono ?_; rintro e w4 ⟨rfl, q4⟩)
        go_roundw
        case rel => exact ⟨k, _, by omega, rfl, hr.ext (hE1.trans (e2.trans (e3.trans q4.ext))), HB.out, hE3.trans q4.ext⟩
        case measure => simp [intOf]

end Go.Proofs.YtomdbmjfehoodaaGreatDoor

