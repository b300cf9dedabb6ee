/- Walks of nat's small functions. -/
import Derived.Test.YtjnnodbejnmkmaaDoorBase
namespace Go.Proofs.YtjnnodbejnmkmaaDoor
open Go.RowKit

set_option maxHeartbeats 400000 in
theorem at_any (w : World) (v : Value) (xs : List Int) (i : Int) (h : Row w v xs) (h0 : 0 ≤ i) :
    Calls Tryd.prog 60 #[v, .int .i64 i] w fun e w' => e = .returned (.int .i64 (nth xs i.toNat)) ∧ w = w' := by
  have hl := h.len_le
  obtain ⟨A, c, rfl, h1, h2, h3⟩ := h
  obtain ⟨n, rfl⟩ := Int.eq_ofNat_of_zero_le h0
  rw [Int.toNat_natCast]
  by_cases hlt : n < xs.length
  · obtain ⟨b, off, rfl, hb, hc⟩ := h3 (by omega)
    have hcell := hc n hlt
    clear hc h3
    go_enter Tryd.func60, Tryd.ntmps60
    go_wp2
    go_ret
    exact ⟨rfl, rfl⟩
  · clear h3
    go_enter Tryd.func60, Tryd.ntmps60
    go_wp2
    go_ret
    refine ⟨?_, rfl⟩
    rw [nth_past (by omega)]; rfl


set_option maxHeartbeats 400000 in
theorem limb_any (w : World) (b : Nat) (c sum : Int) (hc : w.cell? ⟨b, 0, none⟩ = some (.int .i64 c)) (hf : w.frozen? ⟨b, 0, none⟩ = false)
    (h1 : -9000000000000000000 ≤ sum + c) (h2 : sum + c ≤ 9223372036854775807) :
    Calls Tryd.prog 61 #[.pointer (some ⟨b, 0, none⟩), .int .i64 sum] w fun e w' =>
      e = .returned (.int .i64 ((sum + c) % 16777216)) ∧ w.setCell ⟨b, 0, none⟩ (.int .i64 ((sum + c) / 16777216)) = w' := by
  go_enter Tryd.func61, Tryd.ntmps61
  go_wp2
  go_ret
  exact ⟨ret_int (i64_and24 _), rfl⟩

set_option maxHeartbeats 400000 in
theorem trimmed_any (w : World) (v : Value) (xs : List Int) (h : Row w v xs) :
    Calls Tryd.prog 76 #[v] w fun e w' =>
      TrimPost w v xs e w' := by
  have hl := h.len_le
  obtain ⟨A, c, rfl, h1, h2, h3⟩ := h
  have H3 := Lib.hid h3
  clear h3
  go_enter Tryd.func76, Tryd.ntmps76
  go_wp2
  go_loop [3] (fun n => ∃ k : Nat, k ≤ xs.length ∧ n = .int .i64 k ∧ Hid (∀ j, k ≤ j → nth xs j = 0)) (fun n => (intOf n).toNat)
  case atStart => exact ⟨xs.length, Nat.le_refl _, rfl, fun j hj => nth_past hj⟩
  case round =>
    obtain ⟨k, hk, rfl, hz⟩ := hrel
    by_cases h0 : 0 < k
    · obtain ⟨b, off, rfl, hb, hc⟩ := H3.out (by omega)
      have hcell := hc (k - 1) (by omega)
      clear hc H3
      by_cases hx : nth xs (k - 1) = 0
      · have hx' : (nth xs (k - 1) == 0) = true := by simp [hx]
        have HX := Lib.hid hx
        clear hx
        go_wp2
        go_round
        case rel => exact ⟨k - 1, by omega, by go_num, fun j hj => by
          by_cases e : j = k - 1
          · subst e; exact HX.out
          · exact hz.out j (by omega)⟩
        case measure => simp [intOf]; omega
      · have hx' : (nth xs (k - 1) == 0) = false := by simp [hx]
        have HX := Lib.hid hx
        clear hx
        go_wp2
        go_ret
        exact ⟨_, _, k, rfl, hk, rfl, rfl, hz.out, .inr HX.out⟩
    · have hk0 : k = 0 := by omega
      subst hk0
      go_wp2
      go_ret
      exact ⟨_, _, 0, rfl, hk, rfl, rfl, hz.out, .inl rfl⟩

set_option maxHeartbeats 400000 in
theorem sums_any (w : World) (bo bc off n cap : Nat) (F : Nat) (caps : Array Value) (h : Nat → Int) (c : Int)
    (hn : n ≤ cap) (hcap : cap ≤ maxLen) (hbo : bo < w.heap.size) (hne : bo ≠ bc)
    (hcells : ∀ j, j < n → ∃ u, w.cell? ⟨bo, off + j, none⟩ = some (.int .i64 u)) (hfr : ∀ j, w.frozen? ⟨bo, j, none⟩ = false)
    (hc : w.cell? ⟨bc, 0, none⟩ = some (.int .i64 c)) (hf : w.frozen? ⟨bc, 0, none⟩ = false)
    (hb : ∀ j, j < n → -9000000000000000000 ≤ h j + carryAt h c j ∧ h j + carryAt h c j ≤ 9223372036854775807)
    (hcall : ∀ (x : Array Value) (W : World), (callFunc F x).run Tryd.prog W = .ok (.enter F x) W)
    (hhow : ∀ (w' : World) (j : Nat), Only [bo, bc] w w' → j < n → Calls Tryd.prog F (#[.int .i64 j] ++ caps) w' fun e w'' => e = .returned (.int .i64 (h j)) ∧ ∃ q, w'' = w'.drewN q) :
    Calls Tryd.prog 58 #[.slice (some ⟨bo, off, none⟩) n cap, .func (.func F) #[] caps, .func (.func 61) #[.pointer (some ⟨bc, 0, none⟩)] #[]] w
      (SumsPost w bo bc off n cap h c) := by
  unfold maxLen at hcap
  have HC := Lib.hid hcells
  have HF := Lib.hid hfr
  have HB := Lib.hid hb
  have HH := Lib.hid hhow
  clear hcells hfr hb hhow
  go_enter Tryd.func58, Tryd.ntmps58
  go_wp2
  go_loopw [10] (fun i wr => ∃ k : Nat, k ≤ n ∧ i = .int .i64 k ∧ Only [bo, bc] w wr ∧ wr.cell? ⟨bc, 0, none⟩ = some (.int .i64 (carryAt h c k)) ∧
      Hid (∀ j, j < k → wr.cell? ⟨bo, off + j, none⟩ = some (.int .i64 (limbAt h c j))) ∧ Hid (∀ j, k ≤ j → j < n → ∃ u, wr.cell? ⟨bo, off + j, none⟩ = some (.int .i64 u)) ∧
      Hid (∀ j, wr.frozen? ⟨bo, j, none⟩ = false) ∧ wr.frozen? ⟨bc, 0, none⟩ = false ∧ Hid (∀ x, x < off → wr.cell? ⟨bo, x, none⟩ = w.cell? ⟨bo, x, none⟩)) (fun i _ => n - (intOf i).toNat)
  case atStart => exact ⟨0, Nat.zero_le _, rfl, Only.refl _ _, hc, fun j hj => absurd hj (by omega), fun j _ hj => HC.out j hj, HF.out, hf, fun _ _ => rfl⟩
  case round =>
    obtain ⟨k, hk, rfl, ho, hcr, hdone, hleft, hfz, hfc, hlow⟩ := hrel
    by_cases hlt : k < n
    · obtain ⟨u, hu⟩ := hleft.out k (Nat.le_refl _) hlt
      have hfk := hfz.out (off + k)
      have HFC := Lib.hid hfc
      obtain ⟨hb1, hb2⟩ := HB.out k hlt
      go_wp2_with fail
      refine (HH.out wr k ho hlt).mono ?_
      rintro e w1 ⟨rfl, q, hw1⟩
      obtain rfl : wr.drewN q = w1 := hw1.symm
      go_wp2_with fail
      refine (limb_any _ bc (carryAt h c k) (h k) ?_ ?_ hb1 hb2).mono ?_
      · exact hcr
      · exact hfc
      rintro e w2 ⟨rfl, hw2⟩
      have ho2 : Only [bo, bc] w w2 := by rw [← hw2]; exact (ho.drewN q).setCell (by simp) _
      have hcell2 : ∀ x, w2.cell? ⟨bo, x, none⟩ = wr.cell? ⟨bo, x, none⟩ := fun x => by
        rw [← hw2, World.cell?_setCell_other _ _ _ _ (by simp <;> omega)]; rfl
      have hc2 : w2.cell? ⟨bc, 0, none⟩ = some (.int .i64 (carryAt h c (k + 1))) := by
        rw [← hw2, World.cell?_setCell_same (wr.drewN q) _ _ hcr]; rfl
      have hfr2 : ∀ p, w2.frozen? p = wr.frozen? p := fun p => by rw [← hw2, World.frozen?_setCell]; rfl
      clear hw2
      have hk2 : w2.cell? ⟨bo, off + k, none⟩ = some (.int .i64 u) := (hcell2 _).trans hu
      have hf2 : w2.frozen? ⟨bo, off + k, none⟩ = false := (hfr2 _).trans hfk
      have HC2 := Lib.hid hcell2
      have HF2 := Lib.hid hfr2
      clear hcell2 hfr2 hcr hfc hu hfk hcall hc hf
      go_wp2
      go_roundw
      case rel =>
        refine ⟨k + 1, by omega, by go_num, ho2.setCell (by simp) _, ?_, fun j hj => ?_, fun j hj1 hj2 => ?_, fun j => ?_, ?_, fun x hx => ?_⟩
        · rw [World.cell?_setCell_other _ _ _ _ (by simp <;> omega)]; exact hc2
        · by_cases e : j = k
          · subst e; exact World.cell?_setCell_same _ _ _ hk2
          · rw [World.cell?_setCell_other _ _ _ _ (by simp <;> omega), HC2.out]; exact hdone.out j (by omega)
        · rw [World.cell?_setCell_other _ _ _ _ (by simp <;> omega), HC2.out]; exact hleft.out j (by omega) hj2
        · rw [World.frozen?_setCell, HF2.out]; exact hfz.out j
        · rw [World.frozen?_setCell, HF2.out]; exact HFC.out
        · rw [World.cell?_setCell_other _ _ _ _ (by simp <;> omega), HC2.out]; exact hlow.out x hx
      case measure => simp [intOf]; omega
    · have hkn : k = n := by omega
      subst hkn
      have hrow : Row wr (.slice (some ⟨bo, off, none⟩) (List.map (limbAt h c) (List.range k)).length cap) (List.map (limbAt h c) (List.range k)) :=
        ⟨_, cap, rfl, by simpa using hn, by unfold maxLen; exact hcap, fun _ => ⟨bo, off, rfl, Nat.lt_of_lt_of_le hbo ho.size, fun j hj => by
          rw [nth_eq hj]; simp at hj ⊢; exact hdone.out j hj⟩⟩
      have hlen : (List.map (limbAt h c) (List.range k)).length = k := by simp
      have HT := Lib.hid (trimmed_any wr _ _ hrow)
      rw [hlen] at HT
      clear hrow hlen
      go_wp2_with fail
      refine HT.out.mono ?_
      rintro e w1 ⟨A', c', k', hv, hk', rfl, rfl, hz, hlast⟩
      injection hv with hv1 hv2 hv3
      subst hv1 hv3
      have hn1 : ∀ j, j < k → nth (List.map (limbAt h c) (List.range k)) j = limbAt h c j := fun j hj => by rw [nth_eq (by simpa using hj)]; simp
      have HZ := Lib.hid hz
      have HL := Lib.hid hlast
      have HN := Lib.hid hn1
      have HV := Lib.hid hv2
      clear hz hlast hn1 hv2
      go_wp2
      go_ret
      rw [List.length_map, List.length_range] at hk'
      refine ⟨k', hk', rfl, ho, hdone.out, fun j h1 h2 => ?_, ?_, hlow.out⟩
      · rw [← HN.out j h2]; exact HZ.out j h1
      · rcases HL.out with h0 | h0
        · exact .inl h0
        · by_cases e : k' = 0
          · exact .inl e
          · rw [HN.out _ (by omega)] at h0; exact .inr h0

end Go.Proofs.YtjnnodbejnmkmaaDoor
