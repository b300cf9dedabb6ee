/- Walks of the document's answers: at, trim, Cmp, Len, Int, Of. -/
import Derived.Test.YtjnnodbejnmkmaaDoorR1
namespace Go.Proofs.YtjnnodbejnmkmaaDoor
open Go.RowKit

set_option maxHeartbeats 400000 in
theorem rat_any (w : World) (v : Value) (xs : List Int) (i : Int) (h : Row w v xs) (h0 : 0 ≤ i) :
    Calls Tryd.prog 65 #[v, .int .i64 i] w fun e w' => e = .returned (.int .i64 (nth xs i.toNat)) ∧ w = w' := by
  have hl := h.len_le
  obtain ⟨A, c, rfl, h1, h2, h3⟩ := h
  obtain ⟨n, rfl⟩ := Int.eq_ofNat_of_zero_le h0
  rw [Int.toNat_natCast]
  by_cases hlt : n < xs.length
  · obtain ⟨b, off, rfl, hb, hc⟩ := h3 (by omega)
    have hcell := hc n hlt
    clear hc h3
    go_enter Tryd.func65, Tryd.ntmps65
    go_wp2
    go_ret
    exact ⟨rfl, rfl⟩
  · clear h3
    go_enter Tryd.func65, Tryd.ntmps65
    go_wp2
    go_ret
    refine ⟨?_, rfl⟩
    rw [nth_past (by omega)]; rfl

set_option maxHeartbeats 1000000 in
theorem rtrim_nat (w : World) (v : Value) (xs : List Int) (m : Nat) (h : Row w v xs) (hl : Limbs xs) (hv : val xs = (m : Int)) (hn : xs.length ≤ 100000) : Calls Tryd.prog 64 #[v] w (RetN w m) := by
  have hr := h
  obtain ⟨A, c, rfl, h1, h2, h3⟩ := h
  have H3 := Lib.hid h3
  have HL := Lib.hid hl
  have HV := Lib.hid hv
  clear h3 hl hv
  go_enter Tryd.func64, Tryd.ntmps64
  go_wp2
  go_loop [3] (fun n => ∃ k : Nat, k ≤ xs.length ∧ n = .int .i64 k ∧ Hid (∀ j, k ≤ j → nth xs j = 0)) (fun n => (intOf n).toNat)
  case atStart => exact ⟨xs.length, Nat.le_refl _, rfl, fun j hj => nth_past hj⟩
  case round =>
    obtain ⟨k, hk, rfl, hz⟩ := hrel
    have fin : ∀ (hx : k = 0 ∨ nth xs (k - 1) ≠ 0) (v' : Value) (w' : World), Own w' w.heap.size v' ([] ++ xs.take k) → Ext w w' → N w' v' m := fun hx v' w' ho _ => by
      rw [List.nil_append] at ho
      exact ⟨xs.take k, ho.row, nf_take HL.out hk hx, by rw [val_take hk hz.out]; exact HV.out⟩
    have FIN := Lib.hid fin
    have hrk := hr.take k hk
    have hlk : (xs.take k).length ≤ 100000 := by rw [List.length_take]; omega
    clear fin
    by_cases h0 : 0 < k
    · obtain ⟨b, off, rfl, hb, hc⟩ := H3.out (by omega)
      have hcell := hc (k - 1) (by omega)
      clear hc H3
      by_cases hx : nth xs (k - 1) = 0
      · have hx' : (nth xs (k - 1) == 0) = true := by simp [hx]
        have HX := Lib.hid hx
        clear hx
        go_wp2
        go_round
        case rel => exact ⟨k - 1, by omega, by go_num, fun j hj => by
          by_cases e : j = k - 1
          · subst e; exact HX.out
          · exact hz.out j (by omega)⟩
        case measure => simp [intOf]; omega
      · have hx' : (nth xs (k - 1) == 0) = false := by simp [hx]
        have HX := Lib.hid hx
        clear hx
        go_wp2_with (at_builtin; refine wpList_app _ rfl _ _ rfl w.heap.size _ [] _ (xs.take k) rfl rfl (Own.empty w _ (Nat.le_refl _)) (hrk.ext ((Ext.refl w).alloc _)) (by simp) (by simp; omega) ?_; intro v' w' ho hg)
        have e1 : Ext w w' := ((Ext.refl w).alloc _).app (Own.empty w w.heap.size (Nat.le_refl _)) (Nat.le_refl _) hg
        go_ret
        exact ⟨v', rfl, FIN.out (.inr HX.out) v' w' ho e1, e1⟩
    · have hk0 : k = 0 := by omega
      subst hk0
      go_wp2_with (at_builtin; refine wpList_app _ rfl _ _ rfl w.heap.size _ [] _ (xs.take 0) rfl rfl (Own.empty w _ (Nat.le_refl _)) (hrk.ext ((Ext.refl w).alloc _)) (by simp) (by simp) ?_; intro v' w' ho hg)
      have e1 : Ext w w' := ((Ext.refl w).alloc _).app (Own.empty w w.heap.size (Nat.le_refl _)) (Nat.le_refl _) hg
      go_ret
      exact ⟨v', rfl, FIN.out (by simp) v' w' ho e1, e1⟩

set_option maxHeartbeats 1000000 in
theorem rcmp_rows (w : World) (va vb : Value) (a b : List Int) (ra : Row w va a) (rb : Row w vb b) (na : NF a) (nb : NF b) :
    Calls Tryd.prog 45 #[va, vb] w (RetQ w (.int .i64 (cmpI (val a) (val b)))) := by
  have hl := ra.len_le
  have hl' := rb.len_le
  obtain ⟨A, c, rfl, h1, h2, h3⟩ := id ra
  obtain ⟨A', c', rfl, h1', h2', h3'⟩ := id rb
  have H3 := Lib.hid h3
  have H3' := Lib.hid h3'
  have NA := Lib.hid na
  have NB := Lib.hid nb
  clear h3 h3' na nb ra rb
  rcases Nat.lt_trichotomy a.length b.length with hlen | hlen | hlen
  · rw [cmpI_lt (val_short NA.out NB.out hlen)]
    have e1 : ((a.length : Int) != (b.length : Int)) = true := by rw [bne_iff_ne]; omega
    go_enter Tryd.func45, Tryd.ntmps45
    go_wp2
    go_ret
    exact RetQ.same
  · have E := Lib.hid hlen
    have e1 : ((a.length : Int) != (b.length : Int)) = false := by simp [hlen]
    clear hlen
    go_enter Tryd.func45, Tryd.ntmps45
    go_wp2
    go_loopw [5] (fun i wr => ∃ k : Nat, k ≤ a.length ∧ i = .int .i64 ((k : Int) - 1) ∧ Hid (∀ j, k ≤ j → nth a j = nth b j) ∧ Qt w wr) (fun i _ => (intOf i + 1).toNat)
    case atStart => exact ⟨a.length, Nat.le_refl _, rfl, fun j hj => by rw [nth_past hj, nth_past (by have := E.out; omega)], Qt.refl _⟩
    case round =>
      obtain ⟨k, hk, rfl, hz, hq⟩ := hrel
      by_cases h0 : 0 < k
      · obtain ⟨b1, off1, rfl, hb1, hc1⟩ := H3.out (by omega)
        obtain ⟨b2, off2, rfl, hb2, hc2⟩ := H3'.out (by have := E.out; omega)
        have hcell1 := (hq.cell _).trans (hc1 (k - 1) (by omega))
        have hcell2 := (hq.cell _).trans (hc2 (k - 1) (by have := E.out; omega))
        have hkb : (k : Int) - 1 < (b.length : Int) := by have := E.out; omega
        have hka : (k : Int) - 1 < (a.length : Int) := by omega
        have hk0 : (0 : Int) ≤ (k : Int) - 1 := by omega
        clear hc1 hc2 H3 H3'
        rcases Int.lt_trichotomy (nth a (k - 1)) (nth b (k - 1)) with hx | hx | hx
        · have EV := Lib.hid (cmpI_lt (val_lex NA.out.1 NB.out.1 E.out (by omega) (i := k - 1) (fun j hj => hz.out j (by omega)) hx))
          go_wp2
          go_quiet (fail)
          go_wp2
          go_ret
          rw [EV.out]
          exact ⟨rfl, hq.drewN _⟩
        · have h5 : ¬ nth a (k - 1) < nth b (k - 1) := by omega
          have h6 : ¬ nth b (k - 1) < nth a (k - 1) := by omega
          have HX := Lib.hid hx
          clear hx
          go_wp2
          go_quiet (fail)
          go_wp2
          go_quiet (fail)
          go_wp2
          go_roundw
          case rel => exact ⟨k - 1, by omega, by go_num, fun j hj => by
            by_cases e : j = k - 1
            · subst e; exact HX.out
            · exact hz.out j (by omega), hq.drewN _⟩
          case measure => simp [intOf]; omega
        · have EV := Lib.hid (cmpI_gt (val_lex NB.out.1 NA.out.1 E.out.symm (by have := E.out; omega) (i := k - 1) (fun j hj => (hz.out j (by omega)).symm) hx))
          have h5 : ¬ nth a (k - 1) < nth b (k - 1) := by omega
          go_wp2
          go_quiet (fail)
          go_wp2
          go_quiet (fail)
          go_wp2
          go_ret
          rw [EV.out]
          exact ⟨rfl, (hq.drewN _).drewN _⟩
      · have hk0 : k = 0 := by omega
        subst hk0
        have EV := Lib.hid (cmpI_eq (val_eq_of_nth E.out (fun j => hz.out j (Nat.zero_le _))))
        go_wp2
        go_ret
        rw [EV.out]
        exact ⟨rfl, hq⟩
  · rw [cmpI_gt (val_short NB.out NA.out hlen)]
    have e1 : ((a.length : Int) != (b.length : Int)) = true := by rw [bne_iff_ne]; omega
    go_enter Tryd.func45, Tryd.ntmps45
    go_wp2
    go_ret
    exact RetQ.same
theorem rcmp_nat (w : World) (va vb : Value) (m n : Nat) (ha : N w va m) (hb : N w vb n) : Calls Tryd.prog 45 #[va, vb] w (RetQ w (.int .i64 (cmpI m n))) := by
  obtain ⟨a, ra, na, ea⟩ := ha
  obtain ⟨b, rb, nb, eb⟩ := hb
  rw [← ea, ← eb]
  exact rcmp_rows w va vb a b ra rb na nb

set_option maxHeartbeats 400000 in
theorem rlen_any (w : World) (v : Value) (m : Nat) (h : N w v m) (hm : Lt 400 m) : Calls Tryd.prog 32 #[v] w fun e w' => e = .returned (.int .i64 (bl m)) ∧ w = w' := by
  obtain ⟨a, ra, na, ea⟩ := h
  have la : a.length ≤ 400 := N.len hm na ea
  obtain ⟨A, c, rfl, h1, h2, h3⟩ := id ra
  by_cases hp : 0 < a.length
  · obtain ⟨b, off, rfl, hb, hc⟩ := h3 hp
    have hcell := hc (a.length - 1) (by omega)
    obtain ⟨t0, t1⟩ := na.1.at (a.length - 1)
    obtain ⟨t, ht⟩ := Int.eq_ofNat_of_zero_le t0
    have hbl := bl_top na (by intro e; subst e; simp at hp) ea ht
    have hne : ((a.length : Int) == 0) = false := beq_eq_false_iff_ne.2 (by omega)
    rw [ht] at hcell t0 t1
    have HB := Lib.hid hbl
    have hbb : bl t ≤ 24 := bl_of_lt (n := 24) (by omega)
    have hi1 : (0 : Int) ≤ (a.length : Int) - 1 := by omega
    clear hc h3 na ea ht hbl ra hm
    go_enter Tryd.func32, Tryd.ntmps32
    go_wp2
    go_loop [3, 4] (fun n x => ∃ (s y : Nat), n = .int .i64 s ∧ x = .int .i64 y ∧ s + bl y ≤ 9600 ∧ y < 16777216 ∧ Hid (s + bl y = bl m)) (fun _ x => (intOf x).toNat)
    case atStart => exact ⟨24 * (a.length - 1), t, by go_num, rfl, by omega, by omega, by show _ = _; rw [HB.out]⟩
    case round =>
      obtain ⟨s, y, rfl, rfl, hs, hy, hb2⟩ := hrel
      by_cases h0 : 0 < y
      · have hh := bl_half (m := y) (by omega)
        go_wp2
        go_round
        case rel => exact ⟨s + 1, y / 2, by go_num, by go_num, by omega, by omega, by show _ = _; rw [← hb2.out]; omega⟩
        case measure => simp [intOf]; omega
      · have hy0 : y = 0 := by omega
        subst hy0
        go_wp2
        go_ret
        refine ⟨ret_int ?_, rfl⟩
        have := hb2.out
        have e : bl 0 = 0 := rfl
        omega
  · have e0 : a = [] := List.eq_nil_of_length_eq_zero (by omega)
    subst e0
    have hm0 : m = 0 := by simp [val] at ea; omega
    subst hm0
    clear h3 ra na ea
    go_enter Tryd.func32, Tryd.ntmps32
    go_wp2
    go_ret
    exact ⟨rfl, rfl⟩

end Go.Proofs.YtjnnodbejnmkmaaDoor
