/- Walks of package nat. -/
import Derived.Test.YtomdbmjfehoodaaGreatDoorMA
import Derived.Deep.RegionWith
set_option maxRecDepth 8000
/- Walks of nat's small functions. -/
namespace Go.Proofs.YtomdbmjfehoodaaGreatDoor
open Go.RowKit

set_option maxHeartbeats 400000 in
theorem at_any (w : World) (v : Value) (xs : List Int) (i : Int) (h : Row w v xs) (h0 : 0 ≤ i) :
    Calls Tryz.prog 88 #[v, .int .i64 i] w fun e w' => e = .returned (.int .i64 (nth xs i.toNat)) ∧ w = w' := by
  have hl := h.len_le
  obtain ⟨A, c, rfl, h1, h2, h3⟩ := h
  obtain ⟨n, rfl⟩ := Int.eq_ofNat_of_zero_le h0
  rw [Int.toNat_natCast]
  by_cases hlt : n < xs.length
  · obtain ⟨b, off, rfl, hb, hc⟩ := h3 (by omega)
    have hcell := hc n hlt
    clear hc h3
    go_enter Tryz.func88, Tryz.ntmps88
    go_wp2
    go_ret
    exact ⟨rfl, rfl⟩
  · clear h3
    go_enter Tryz.func88, Tryz.ntmps88
    go_wp2
    go_ret
    refine ⟨?_, rfl⟩
    rw [nth_past (by omega)]; rfl


set_option maxHeartbeats 400000 in
theorem limb_any (w : World) (b : Nat) (c sum : Int) (hc : w.cell? ⟨b, 0, none⟩ = some (.int .i64 c)) (hf : w.frozen? ⟨b, 0, none⟩ = false)
    (h1 : -9000000000000000000 ≤ sum + c) (h2 : sum + c ≤ 9223372036854775807) :
    Calls Tryz.prog 89 #[.pointer (some ⟨b, 0, none⟩), .int .i64 sum] w fun e w' =>
      e = .returned (.int .i64 ((sum + c) % 16777216)) ∧ w.setCell ⟨b, 0, none⟩ (.int .i64 ((sum + c) / 16777216)) = w' := by
  go_enter Tryz.func89, Tryz.ntmps89
  go_wp2
  go_ret
  exact ⟨ret_int (i64_and24 _), rfl⟩

set_option maxHeartbeats 400000 in
theorem trimmed_any (w : World) (v : Value) (xs : List Int) (h : Row w v xs) :
    Calls Tryz.prog 114 #[v] w fun e w' =>
      TrimPost w v xs e w' := by
  have hl := h.len_le
  obtain ⟨A, c, rfl, h1, h2, h3⟩ := h
  have H3 := Lib.hid h3
  clear h3
  go_enter Tryz.func114, Tryz.ntmps114
  go_wp2
  go_loop [3] (fun n => ∃ k : Nat, k ≤ xs.length ∧ n = .int .i64 k ∧ Hid (∀ j, k ≤ j → nth xs j = 0)) (fun n => (intOf n).toNat)
  case atStart => exact ⟨xs.length, Nat.le_refl _, rfl, fun j hj => nth_past hj⟩
  case round =>
    obtain ⟨k, hk, rfl, hz⟩ := hrel
    by_cases h0 : 0 < k
    · obtain ⟨b, off, rfl, hb, hc⟩ := H3.out (by omega)
      have hcell := hc (k - 1) (by omega)
      clear hc H3
      by_cases hx : nth xs (k - 1) = 0
      · have hx' : (nth xs (k - 1) == 0) = true := by simp [hx]
        have HX := Lib.hid hx
        clear hx
        go_wp2
        go_round
        case rel => exact ⟨k - 1, by omega, by go_num, fun j hj => by
          by_cases e : j = k - 1
          · subst e; exact HX.out
          · exact hz.out j (by omega)⟩
        case measure => simp [intOf]; omega
      · have hx' : (nth xs (k - 1) == 0) = false := by simp [hx]
        have HX := Lib.hid hx
        clear hx
        go_wp2
        go_ret
        exact ⟨_, _, k, rfl, hk, rfl, rfl, hz.out, .inr HX.out⟩
    · have hk0 : k = 0 := by omega
      subst hk0
      go_wp2
      go_ret
      exact ⟨_, _, 0, rfl, hk, rfl, rfl, hz.out, .inl rfl⟩

set_option maxHeartbeats 400000 in
theorem sums_any (w : World) (bo bc off n cap : Nat) (F : Nat) (caps : Array Value) (h : Nat → Int) (c : Int)
    (hn : n ≤ cap) (hcap : cap ≤ maxLen) (hbo : bo < w.heap.size) (hne : bo ≠ bc)
    (hcells : ∀ j, j < n → ∃ u, w.cell? ⟨bo, off + j, none⟩ = some (.int .i64 u)) (hfr : ∀ j, w.frozen? ⟨bo, j, none⟩ = false)
    (hc : w.cell? ⟨bc, 0, none⟩ = some (.int .i64 c)) (hf : w.frozen? ⟨bc, 0, none⟩ = false)
    (hb : ∀ j, j < n → -9000000000000000000 ≤ h j + carryAt h c j ∧ h j + carryAt h c j ≤ 9223372036854775807)
    (hcall : ∀ (x : Array Value) (W : World), (callFunc F x).run Tryz.prog W = .ok (.enter F x) W)
    (hhow : ∀ (w' : World) (j : Nat), Only [bo, bc] w w' → j < n → Calls Tryz.prog F (#[.int .i64 j] ++ caps) w' fun e w'' => e = .returned (.int .i64 (h j)) ∧ ∃ q, w'' = w'.drewN q) :
    Calls Tryz.prog 86 #[.slice (some ⟨bo, off, none⟩) n cap, .func (.func F) #[] caps, .func (.func 89) #[.pointer (some ⟨bc, 0, none⟩)] #[]] w
      (SumsPost w bo bc off n cap h c) := by
  unfold maxLen at hcap
  have HC := Lib.hid hcells
  have HF := Lib.hid hfr
  have HB := Lib.hid hb
  have HH := Lib.hid hhow
  clear hcells hfr hb hhow
  go_enter Tryz.func86, Tryz.ntmps86
  go_wp2
  go_loopw [10] (fun i wr => ∃ k : Nat, k ≤ n ∧ i = .int .i64 k ∧ Only [bo, bc] w wr ∧ wr.cell? ⟨bc, 0, none⟩ = some (.int .i64 (carryAt h c k)) ∧
      Hid (∀ j, j < k → wr.cell? ⟨bo, off + j, none⟩ = some (.int .i64 (limbAt h c j))) ∧ Hid (∀ j, k ≤ j → j < n → ∃ u, wr.cell? ⟨bo, off + j, none⟩ = some (.int .i64 u)) ∧
      Hid (∀ j, wr.frozen? ⟨bo, j, none⟩ = false) ∧ wr.frozen? ⟨bc, 0, none⟩ = false ∧ Hid (∀ x, x < off → wr.cell? ⟨bo, x, none⟩ = w.cell? ⟨bo, x, none⟩)) (fun i _ => n - (intOf i).toNat)
  case atStart => exact ⟨0, Nat.zero_le _, rfl, Only.refl _ _, hc, fun j hj => absurd hj (by omega), fun j _ hj => HC.out j hj, HF.out, hf, fun _ _ => rfl⟩
  case round =>
    obtain ⟨k, hk, rfl, ho, hcr, hdone, hleft, hfz, hfc, hlow⟩ := hrel
    by_cases hlt : k < n
    · obtain ⟨u, hu⟩ := hleft.out k (Nat.le_refl _) hlt
      have hfk := hfz.out (off + k)
      have HFC := Lib.hid hfc
      obtain ⟨hb1, hb2⟩ := HB.out k hlt
      go_wp2_with fail
      refine (HH.out wr k ho hlt).mono ?_
      rintro e w1 ⟨rfl, q, hw1⟩
      obtain rfl : wr.drewN q = w1 := hw1.symm
      go_wp2_with fail
      refine (limb_any _ bc (carryAt h c k) (h k) ?_ ?_ hb1 hb2).mono ?_
      · exact hcr
      · exact hfc
      rintro e w2 ⟨rfl, hw2⟩
      have ho2 : Only [bo, bc] w w2 := by rw [← hw2]; exact (ho.drewN q).setCell (by simp) _
      have hcell2 : ∀ x, w2.cell? ⟨bo, x, none⟩ = wr.cell? ⟨bo, x, none⟩ := fun x => by
        rw [← hw2, World.cell?_setCell_other _ _ _ _ (by simp <;> omega)]; rfl
      have hc2 : w2.cell? ⟨bc, 0, none⟩ = some (.int .i64 (carryAt h c (k + 1))) := by
        rw [← hw2, World.cell?_setCell_same (wr.drewN q) _ _ hcr]; rfl
      have hfr2 : ∀ p, w2.frozen? p = wr.frozen? p := fun p => by rw [← hw2, World.frozen?_setCell]; rfl
      clear hw2
      have hk2 : w2.cell? ⟨bo, off + k, none⟩ = some (.int .i64 u) := (hcell2 _).trans hu
      have hf2 : w2.frozen? ⟨bo, off + k, none⟩ = false := (hfr2 _).trans hfk
      have HC2 := Lib.hid hcell2
      have HF2 := Lib.hid hfr2
      clear hcell2 hfr2 hcr hfc hu hfk hcall hc hf
      go_wp2
      go_roundw
      case rel =>
        refine ⟨k + 1, by omega, by go_num, ho2.setCell (by simp) _, ?_, fun j hj => ?_, fun j hj1 hj2 => ?_, fun j => ?_, ?_, fun x hx => ?_⟩
        · rw [World.cell?_setCell_other _ _ _ _ (by simp <;> omega)]; exact hc2
        · by_cases e : j = k
          · subst e; exact World.cell?_setCell_same _ _ _ hk2
          · rw [World.cell?_setCell_other _ _ _ _ (by simp <;> omega), HC2.out]; exact hdone.out j (by omega)
        · rw [World.cell?_setCell_other _ _ _ _ (by simp <;> omega), HC2.out]; exact hleft.out j (by omega) hj2
        · rw [World.frozen?_setCell, HF2.out]; exact hfz.out j
        · rw [World.frozen?_setCell, HF2.out]; exact HFC.out
        · rw [World.cell?_setCell_other _ _ _ _ (by simp <;> omega), HC2.out]; exact hlow.out x hx
      case measure => simp [intOf]; omega
    · have hkn : k = n := by omega
      subst hkn
      have hrow : Row wr (.slice (some ⟨bo, off, none⟩) (List.map (limbAt h c) (List.range k)).length cap) (List.map (limbAt h c) (List.range k)) :=
        ⟨_, cap, rfl, by simpa using hn, by unfold maxLen; exact hcap, fun _ => ⟨bo, off, rfl, Nat.lt_of_lt_of_le hbo ho.size, fun j hj => by
          rw [nth_eq hj]; simp at hj ⊢; exact hdone.out j hj⟩⟩
      have hlen : (List.map (limbAt h c) (List.range k)).length = k := by simp
      have HT := Lib.hid (trimmed_any wr _ _ hrow)
      rw [hlen] at HT
      clear hrow hlen
      go_wp2_with fail
      refine HT.out.mono ?_
      rintro e w1 ⟨A', c', k', hv, hk', rfl, rfl, hz, hlast⟩
      injection hv with hv1 hv2 hv3
      subst hv1 hv3
      have hn1 : ∀ j, j < k → nth (List.map (limbAt h c) (List.range k)) j = limbAt h c j := fun j hj => by rw [nth_eq (by simpa using hj)]; simp
      have HZ := Lib.hid hz
      have HL := Lib.hid hlast
      have HN := Lib.hid hn1
      have HV := Lib.hid hv2
      clear hz hlast hn1 hv2
      go_wp2
      go_ret
      rw [List.length_map, List.length_range] at hk'
      refine ⟨k', hk', rfl, ho, hdone.out, fun j h1 h2 => ?_, ?_, hlow.out⟩
      · rw [← HN.out j h2]; exact HZ.out j h1
      · rcases HL.out with h0 | h0
        · exact .inl h0
        · by_cases e : k' = 0
          · exact .inl e
          · rw [HN.out _ (by omega)] at h0; exact .inr h0

end Go.Proofs.YtomdbmjfehoodaaGreatDoor

/- Walks of nat's sums: Of, Add, Sub, Mul, Shl, Shr. -/
namespace Go.Proofs.YtomdbmjfehoodaaGreatDoor
open Go.RowKit

theorem call36 : ∀ (x : Array Value) (W : World), (callFunc 91 x).run Tryz.prog W = .ok (.enter 91 x) W := fun _ _ => by kernel_rfl
theorem callAdd : ∀ (x : Array Value) (W : World), (callFunc 90 x).run Tryz.prog W = .ok (.enter 90 x) W := fun _ _ => by kernel_rfl

set_option maxHeartbeats 400000 in
theorem add1_any (w : World) (ba bb : Nat) (va vb : Value) (a b : List Int) (j : Nat) (hj : j ≤ 9000000000000000000)
    (ca : w.cell? ⟨ba, 0, none⟩ = some va) (cb : w.cell? ⟨bb, 0, none⟩ = some vb) (ra : Row w va a) (rb : Row w vb b)
    (b1 : 0 ≤ nth a j ∧ nth a j < 16777216) (b2 : 0 ≤ nth b j ∧ nth b j < 16777216) :
    Calls Tryz.prog 90 #[.int .i64 j, .pointer (some ⟨ba, 0, none⟩), .pointer (some ⟨bb, 0, none⟩)] w fun e w' =>
      e = .returned (.int .i64 (nth a j + nth b j)) ∧ ∃ q, w' = w.drewN q := by
  obtain ⟨b11, b12⟩ := b1
  obtain ⟨b21, b22⟩ := b2
  obtain ⟨A, c, rfl, h1, h2, h3⟩ := id ra
  obtain ⟨A', c', rfl, h1', h2', h3'⟩ := id rb
  clear h3 h3'
  go_enter Tryz.func90, Tryz.ntmps90
  go_wp2
  have hj0 : (0 : Int) ≤ (j : Int) := by omega
  go_quiet ((go_at_call 88; first | with_reducible exact quiet_left (at_any _ _ _ _ (ra.drewN _) hj0) | with_reducible exact quiet_left (at_any _ _ _ _ (rb.drewN _) hj0)))
  go_wp2
  go_ret
  exact ⟨rfl, _, rfl⟩

theorem sums_new (W w1 : World) (bc L : Nat) (F : Nat) (caps : Array Value) (h : Nat → Int) (c : Int) (m : Nat)
    (hL : L ≤ 1000000) (hm : Made L W w1) (hc : W.cell? ⟨bc, 0, none⟩ = some (.int .i64 c)) (hf : W.frozen? ⟨bc, 0, none⟩ = false)
    (hb : ∀ j, j < L → -9000000000000000000 ≤ h j + carryAt h c j ∧ h j + carryAt h c j ≤ 9223372036854775807)
    (hT : c + S h L = (m : Int)) (hlt : (m : Int) < bp L)
    (hcall : ∀ (x : Array Value) (W : World), (callFunc F x).run Tryz.prog W = .ok (.enter F x) W)
    (hhow : ∀ (w' : World) (j : Nat), Only [W.heap.size, bc] w1 w' → j < L → Calls Tryz.prog F (#[.int .i64 j] ++ caps) w' fun e w'' => e = .returned (.int .i64 (h j)) ∧ ∃ q, w'' = w'.drewN q) :
    Calls Tryz.prog 86 #[.slice (some ⟨W.heap.size, 0, none⟩) L L, .func (.func F) #[] caps, .func (.func 89) #[.pointer (some ⟨bc, 0, none⟩)] #[]] w1
      (SumN w1 W.heap.size bc m) := by
  have hbc : bc < W.heap.size := World.block_lt_of_cell? W _ hc
  have h0 : 0 ≤ c + S h L := by omega
  have hcc := (hm.ext.cell (p := ⟨bc, 0, none⟩) hbc).trans hc
  have hff := (hm.ext.frozen (p := ⟨bc, 0, none⟩) hbc).trans hf
  refine (sums_any w1 W.heap.size bc 0 L L F caps h c (Nat.le_refl _) (by unfold maxLen; omega) (by rw [hm.size]; omega) (by omega) (fun j hj => ⟨0, by simpa using hm.cell j hj⟩) hm.frozen hcc hff hb hcall hhow).mono ?_
  rintro e w' ⟨k, hk, rfl, ho, hcell, hz, hlast, _⟩
  have hS := carry_end h0 (by omega)
  have hlen : ((List.range k).map (limbAt h c)).length = k := by simp
  have hn : ∀ j, j < k → nth ((List.range k).map (limbAt h c)) j = limbAt h c j := fun j hj => by rw [nth_eq (by simpa using hj)]; simp
  refine ⟨_, rfl, ⟨(List.range k).map (limbAt h c), ⟨_, L, by rw [hlen], by omega, by unfold maxLen; omega, fun _ => ⟨W.heap.size, 0, rfl, by have := ho.size; rw [hm.size] at this; omega, fun j hj => ?_⟩⟩, ⟨fun j hj => ?_, ?_⟩, ?_⟩, ho⟩
  · rw [hlen] at hj; rw [hn j hj]; exact hcell j (by omega)
  · rw [hlen] at hj; rw [hn j hj]; exact limbAt_bounds h c j
  · rw [hlen]
    rcases hlast with e | e
    · left; subst e; rfl
    · by_cases e0 : k = 0
      · left; subst e0; rfl
      · right; rw [hn _ (by omega)]; exact e
  · rw [val_S, hlen, S_congr k hn, ← S_more (m := L) hk hz, hS, hT]

/-- Two boxes that a closure captures, a carry of 0, and a new row. -/
theorem box_sums (w W w1 : World) (x1 x2 : Value) (b1 b2 bc bo L m : Nat) (F : Nat) (caps : Array Value) (h : Nat → Int)
    (e0 : Ext w W) (c1 : W.cell? ⟨b1, 0, none⟩ = some x1) (c2 : W.cell? ⟨b2, 0, none⟩ = some x2) (cc : W.cell? ⟨bc, 0, none⟩ = some (.int .i64 0)) (fc : W.frozen? ⟨bc, 0, none⟩ = false)
    (hbc : w.heap.size ≤ bc) (n1 : b1 ≠ bc) (n2 : b2 ≠ bc) (hbo : W.heap.size = bo)
    (hmade : Made L W w1) (hL4 : L ≤ 1000000)
    (hbd : ∀ j, j < L → -1152921504606846976 ≤ h j ∧ h j ≤ 1152921504606846976) (hT : S h L = (m : Int)) (hlt : (m : Int) < bp L)
    (hcall : ∀ (x : Array Value) (W : World), (callFunc F x).run Tryz.prog W = .ok (.enter F x) W)
    (hhow : ∀ (w' : World) (j : Nat), Ext w w' → w'.cell? ⟨b1, 0, none⟩ = some x1 → w'.cell? ⟨b2, 0, none⟩ = some x2 → j < L →
      Calls Tryz.prog F (#[.int .i64 j] ++ caps) w' fun e w'' => e = .returned (.int .i64 (h j)) ∧ ∃ q, w'' = w'.drewN q) :
    Calls Tryz.prog 86 #[.slice (some ⟨bo, 0, none⟩) L L, .func (.func F) #[] caps, .func (.func 89) #[.pointer (some ⟨bc, 0, none⟩)] #[]] w1 (RetN w m) := by
  subst hbo
  have l1 := World.block_lt_of_cell? W _ c1
  have l2 := World.block_lt_of_cell? W _ c2
  have lc := World.block_lt_of_cell? W _ cc
  simp only at l1 l2 lc
  have e1 : Ext w w1 := e0.trans hmade.ext
  have hs := e0.size
  have hs1 := hmade.ext.size
  have key := sums_new W w1 bc L F caps h 0 m hL4 hmade cc fc
    (fun j hj => by have := hbd j hj; have := carry_bound (n := j) (M := 1152921504606846976) (h := h) (c := 0) (by omega) (by omega) (fun i _ => hbd i (by omega)) j (Nat.le_refl _); omega) (by omega) hlt hcall
    (fun w' j ho hj => by
      have k1 : w'.cell? ⟨b1, 0, none⟩ = some x1 := by
        rw [ho.cell (by show b1 < _; omega) (by simp; omega), hmade.ext.cell (by show b1 < _; omega), c1]
      have k2 : w'.cell? ⟨b2, 0, none⟩ = some x2 := by
        rw [ho.cell (by show b2 < _; omega) (by simp; omega), hmade.ext.cell (by show b2 < _; omega), c2]
      exact hhow w' j (e1.only ho (fun i hi => by simp at hi; omega)) k1 k2 hj)
  refine key.mono ?_
  rintro e w' ⟨v, rfl, hN, ho⟩
  exact ⟨v, rfl, hN, e1.only ho (fun i hi => by simp at hi; omega)⟩

theorem add_sums (w w1 : World) (A A' : Option Addr) (a b : List Int) (c c' L m n : Nat) (ra : Row w (.slice A a.length c) a) (rb : Row w (.slice A' b.length c') b) (na : NF a) (nb : NF b)
    (ea : val a = m) (eb : val b = n) (hL : L = max a.length b.length + 1) (hL4 : L ≤ 1000000)
    (hmade : Made L (three w #[.slice A a.length c] #[.slice A' b.length c'] #[.int .i64 0] 24 24 93) w1) :
    Calls Tryz.prog 86 #[.slice (some ⟨w.heap.size + 1 + 1 + 1, 0, none⟩) L L, .func (.func 90) #[] #[.pointer (some ⟨w.heap.size, 0, none⟩), .pointer (some ⟨w.heap.size + 1, 0, none⟩)],
      .func (.func 89) #[.pointer (some ⟨w.heap.size + 1 + 1, 0, none⟩)] #[]] w1 (RetN w (m + n)) := by
  refine box_sums w _ w1 _ _ w.heap.size (w.heap.size + 1) (w.heap.size + 1 + 1) _ L (m + n) _ _ (fun j => nth a j + nth b j) (three_ext ..) (three_0 ..) (three_1 ..) (three_2 ..) (three_f2 ..) (by omega) (by omega) (by omega) (three_size ..) hmade hL4 (fun j _ => by have := na.1.at j; have := nb.1.at j; omega) ?_ ?_ callAdd
    (fun w' j he h1 h2 hj => add1_any w' _ _ _ _ a b j (by omega) h1 h2 (ra.ext he) (rb.ext he) (na.1.at j) (nb.1.at j))
  · rw [S_add, val_S_ge (by omega), val_S_ge (by omega), ea, eb]; omega
  · have h1 := (val_bounds na.1).2
    have h2 := (val_bounds nb.1).2
    have h3 := bp_mono (show a.length ≤ max a.length b.length by omega)
    have h4 := bp_mono (show b.length ≤ max a.length b.length by omega)
    rw [hL, bp_succ]
    have := bp_pos (max a.length b.length)
    omega

set_option maxHeartbeats 400000 in
theorem add_any (w : World) (va vb : Value) (m n : Nat) (ha : N w va m) (hb : N w vb n) (hm : Lt 400 m) (hn : Lt 400 n) :
    Calls Tryz.prog 55 #[va, vb] w (RetN w (m + n)) := by
  obtain ⟨a, ra, na, ea⟩ := ha
  obtain ⟨b, rb, nb, eb⟩ := hb
  have la : a.length ≤ 400 := N.len hm na ea
  have lb : b.length ≤ 400 := N.len hn nb eb
  obtain ⟨A, c, rfl, h1, h2, h3⟩ := id ra
  obtain ⟨A', c', rfl, h1', h2', h3'⟩ := id rb
  clear h3 h3'
  have HA := Lib.hid ea
  have HB := Lib.hid eb
  clear ea eb
  obtain ⟨L, hL⟩ : ∃ L, L = max a.length b.length + 1 := ⟨_, rfl⟩
  have hL4 : L ≤ 401 := by omega
  have HL := Lib.hid hL
  clear hL
  have hmf : ∀ (fn : Fn) (first cap : Array Value) (w : World), (Instr.makeFunc fn first cap).run Tryz.prog w = .ok (.func fn first cap) w := fun _ _ _ _ => rfl
  by_cases hlt : a.length < b.length
  all_goals
    go_enter Tryz.func55, Tryz.ntmps55
    go_wp2_with (at_make; go_loud (refine wpList_mk_ints _ rfl _ rfl L _ rfl (by have := HL.out; omega) (by omega) ?_; intro w1 hmade))
    refine (add_sums w w1 A A' a b c c' L m n ra rb na nb HA.out HB.out HL.out (by omega) hmade).mono ?_
    rintro e w2 ⟨v, rfl, hN, hE⟩
    go_wp2
    go_ret
    exact ⟨v, rfl, hN, hE⟩

end Go.Proofs.YtomdbmjfehoodaaGreatDoor

