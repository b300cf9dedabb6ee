/- Walks of the document's answers: Same, Right. -/
import Derived.Test.YtjnnodbejnmkmaaDoorBase
namespace Go.Proofs.YtjnnodbejnmkmaaDoor
open Go.RowKit

set_option maxHeartbeats 1000000 in
theorem same_any (w : World) (va vb : Value) (a b : List Int) (ra : Row w va a) (rb : Row w vb b) : Calls Tryd.prog 36 #[va, vb] w (RetQ w (.bool (decide (a = b)))) := by
  have hl := ra.len_le
  have hl' := rb.len_le
  obtain ⟨A, c, rfl, h1, h2, h3⟩ := id ra
  obtain ⟨A', c', rfl, h1', h2', h3'⟩ := id rb
  have H3 := Lib.hid h3
  have H3' := Lib.hid h3'
  clear h3 h3' ra rb
  by_cases hlen : a.length = b.length
  · have E := Lib.hid hlen
    have hlb : ((a.length : Int) != (b.length : Int)) = false := by simp [hlen]
    clear hlen
    go_enter Tryd.func36, Tryd.ntmps36
    go_wp2
    go_loopw [5] (fun i wr => ∃ k : Nat, k ≤ a.length ∧ i = .int .i64 k ∧ Hid (∀ j, j < k → nth a j = nth b j) ∧ Qt w wr) (fun i _ => a.length - (intOf i).toNat)
    case atStart => exact ⟨0, Nat.zero_le _, rfl, fun j hj => absurd hj (by omega), Qt.refl _⟩
    case round =>
      obtain ⟨k, hk, rfl, hz, hq⟩ := hrel
      by_cases hlt : k < a.length
      · obtain ⟨b1, off1, rfl, hb1, hc1⟩ := H3.out (by omega)
        obtain ⟨b2, off2, rfl, hb2, hc2⟩ := H3'.out (by have := E.out; omega)
        have hcell1 := (hq.cell _).trans (hc1 k (by omega))
        have hcell2 := (hq.cell _).trans (hc2 k (by have := E.out; omega))
        have hkb : (k : Int) < (b.length : Int) := by have := E.out; omega
        have hka : (k : Int) < (a.length : Int) := by omega
        have hk0 : (0 : Int) ≤ (k : Int) := by omega
        clear hc1 hc2 H3 H3'
        by_cases hx : nth a k = nth b k
        · have hxb : (nth a k != nth b k) = false := by simp [hx]
          have HX := Lib.hid hx
          clear hx
          go_wp2
          go_quiet (fail)
          go_wp2
          go_roundw
          case rel => exact ⟨k + 1, by omega, by go_num, fun j hj => by
            by_cases e : j = k
            · subst e; exact HX.out
            · exact hz.out j (by omega), hq.drewN _⟩
          case measure => simp [intOf]; omega
        · have hxb : (nth a k != nth b k) = true := by simp [hx]
          have hne : decide (a = b) = false := by
            rw [decide_eq_false_iff_not]; intro e; exact hx (by rw [e])
          have HN := Lib.hid hne
          clear hx hne
          go_wp2
          go_quiet (fail)
          go_wp2
          go_ret
          rw [HN.out]
          exact ⟨rfl, hq.drewN _⟩
      · have he : decide (a = b) = true := by
          rw [decide_eq_true_eq]; exact eq_of_nth E.out (fun j hj => hz.out j (by omega))
        have HE := Lib.hid he
        clear he
        go_wp2
        go_ret
        rw [HE.out]
        exact ⟨rfl, hq⟩
  · have hlb : ((a.length : Int) != (b.length : Int)) = true := by rw [bne_iff_ne]; omega
    have hne : decide (a = b) = false := by
      rw [decide_eq_false_iff_not]; intro e; exact hlen (by rw [e])
    have HN := Lib.hid hne
    clear hne
    go_enter Tryd.func36, Tryd.ntmps36
    go_wp2
    go_ret
    rw [HN.out]
    exact RetQ.same

theorem same_nat (w : World) (va vb : Value) (m n : Nat) (ha : N w va m) (hb : N w vb n) : Calls Tryd.prog 36 #[va, vb] w (RetQ w (.bool (decide (m = n)))) := by
  obtain ⟨a, ra, na, ea⟩ := ha
  obtain ⟨b, rb, nb, eb⟩ := hb
  have e : decide (a = b) = decide (m = n) := by
    rw [decide_eq_decide]
    constructor
    · intro e; subst e; omega
    · intro e; subst e; exact na.inj nb (by omega)
  rw [← e]
  exact same_any w va vb a b ra rb

set_option maxHeartbeats 1000000 in
theorem rright_any (w : World) (v : Value) (xs : List Int) (h : Row w v xs) : Calls Tryd.prog 35 #[v] w fun e w' => e = .returned (.bool (rightB xs)) ∧ w = w' := by
  have hl := h.len_le
  obtain ⟨A, c, rfl, h1, h2, h3⟩ := h
  have H3 := Lib.hid h3
  clear h3
  go_enter Tryd.func35, Tryd.ntmps35
  go_wp2
  go_loop [3] (fun i => ∃ k : Nat, k ≤ xs.length ∧ i = .int .i64 k ∧ Hid (∀ j, j < k → 0 ≤ nth xs j ∧ nth xs j ≤ 16777215)) (fun i => xs.length - (intOf i).toNat)
  case atStart => exact ⟨0, Nat.zero_le _, rfl, fun j hj => absurd hj (by omega)⟩
  case round =>
    obtain ⟨k, hk, rfl, hz⟩ := hrel
    by_cases hlt : k < xs.length
    · obtain ⟨b, off, rfl, hb, hc⟩ := H3.out (by omega)
      have hcell := hc k hlt
      clear hc H3
      by_cases hx : nth xs k < 0
      · have HR := Lib.hid (right_bad hlt (.inl hx))
        go_wp2
        go_ret
        rw [HR.out]
        exact ⟨rfl, rfl⟩
      · by_cases hy : 16777216 ≤ nth xs k
        · have HR := Lib.hid (right_bad hlt (.inr (by omega)))
          go_wp2
          go_ret
          rw [HR.out]
          exact ⟨rfl, rfl⟩
        · go_wp2
          go_round
          case rel => exact ⟨k + 1, by omega, by go_num, fun j hj => by
            by_cases e : j = k
            · subst e; omega
            · exact hz.out j (by omega)⟩
          case measure => simp [intOf]; omega
    · by_cases hp : 0 < xs.length
      · obtain ⟨b, off, rfl, hb, hc⟩ := H3.out hp
        have HR := Lib.hid (right_end hp (fun j hj => hz.out j (by omega)))
        have hcell := hc (xs.length - 1) (by omega)
        have hi1 : (0 : Int) ≤ (xs.length : Int) - 1 := by omega
        have hne : ((xs.length : Int) == 0) = false := beq_eq_false_iff_ne.2 (by omega)
        clear hc H3
        by_cases h300 : xs.length ≤ 300
        · have e300 : decide (xs.length ≤ 300) = true := by simpa using h300
          go_wp2
          go_ret
          rw [HR.out, e300]
          exact ⟨rfl, rfl⟩
        · have e300 : decide (xs.length ≤ 300) = false := by simpa using h300
          go_wp2
          go_ret
          rw [HR.out, e300]
          exact ⟨rfl, rfl⟩
      · have e0 : xs = [] := List.eq_nil_of_length_eq_zero (by omega)
        subst e0
        have hk0 : k = 0 := by simpa using hk
        subst hk0
        clear H3
        go_wp2
        go_ret
        exact ⟨rfl, rfl⟩

end Go.Proofs.YtjnnodbejnmkmaaDoor
