/- Walks of package turn. -/
import Derived.Test.YtomdbmjfehoodaaGreatDoorMT
import Derived.Test.YtomdbmjfehoodaaGreatDoorTab
import Derived.Laws.StructEq
set_option maxRecDepth 8000
/- Walks of package turn: reduced. -/
namespace Go.Proofs.YtomdbmjfehoodaaGreatDoor
open Go.RowKit
set_option linter.unusedVariables false
theorem i64_mask (K : Int) (Q : Nat) (hQ : Q ≤ 40) : bits .and .i64 K (2 ^ Q - 1) = K % 2 ^ Q := by
  have hp : 0 < 2 ^ Q := Nat.two_pow_pos Q
  have hl : 2 ^ Q ≤ 2 ^ 40 := Nat.pow_le_pow_right (by omega) hQ
  have e0 : (2 : Int) ^ Q - 1 = ((2 ^ Q - 1 : Nat) : Int) := by
    rw [Int.natCast_sub hp, Int.natCast_pow]; rfl
  show IntKind.i64.wrap ((BitVec.ofInt 64 K &&& BitVec.ofInt 64 ((2 : Int) ^ Q - 1)).toNat : Int) = _
  rw [e0]
  have e1 : (BitVec.ofInt 64 ((2 ^ Q - 1 : Nat) : Int)).toNat = 2 ^ Q - 1 := by rw [BitVec.toNat_ofInt]; omega
  have e2 : (BitVec.ofInt 64 K).toNat = (K % 18446744073709551616).toNat := by rw [BitVec.toNat_ofInt]; rfl
  rw [BitVec.toNat_and, e1, e2, Nat.and_two_pow_sub_one_eq_mod]
  have e3 : (((K % 18446744073709551616).toNat % 2 ^ Q : Nat) : Int) = K % 2 ^ Q := by
    rw [Int.natCast_emod, Int.toNat_of_nonneg (by omega), Int.natCast_pow]
    show K % 18446744073709551616 % 2 ^ Q = _
    refine Int.emod_emod_of_dvd _ ?_
    refine ⟨2 ^ (64 - Q), ?_⟩
    rw [← p2_add, show Q + (64 - Q) = 64 by omega]; decide
  have e4 := Nat.mod_lt (K % 18446744073709551616).toNat hp
  rw [← e3]
  exact IntWalk.i64_in _ (by omega)
/-- The form of so many parts, by the lowest bit. -/
theorem fm_low {X : Int} {Q n : Nat} (hX : X = (n : Int)) (h0 : n ≠ 0) (h1 : X < 2 ^ Q) (hQ : Q ≤ 40) : Lib.ctz 64 n ≤ Q ∧ Fm (X * 2 ^ (40 - Q)) (X / 2 ^ Lib.ctz 64 n) (Q - Lib.ctz 64 n) := by
  have hl := p2_le hQ
  rw [p2_40] at hl
  obtain ⟨m, hm, _⟩ := Lib.ctzFrom_spec 64 n (by omega) (by omega)
  have e : Lib.ctz 64 n = Lib.ctzFrom 64 n := by simp [Lib.ctz, h0]
  rw [e]
  generalize Lib.ctzFrom 64 n = t at *
  have hXm : X = (2 * (m : Int) + 1) * 2 ^ t := by rw [hX, hm, Int.natCast_mul, Int.natCast_add, Int.natCast_mul, Int.natCast_pow, Int.mul_comm]; rfl
  have hpt := p2_pos t
  have htQ : t ≤ Q := by
    rcases Nat.lt_or_ge Q t with g | g
    · have a := p2_le (show Q + 1 ≤ t by omega)
      have b : 2 ^ t ≤ (2 * (m : Int) + 1) * 2 ^ t := by
        have := Int.mul_le_mul_of_nonneg_right (show (1 : Int) ≤ 2 * m + 1 by omega) (Int.le_of_lt hpt)
        rwa [Int.one_mul] at this
      rw [Int.pow_succ] at a
      have := p2_pos Q
      omega
    · exact g
  have hd : X / 2 ^ t = 2 * (m : Int) + 1 := by rw [hXm]; exact Int.mul_ediv_cancel _ (Int.ne_of_gt hpt)
  refine ⟨htQ, ?_⟩
  rw [hd]
  refine ⟨.inr ⟨by omega, by omega, ?_, by omega, ?_⟩⟩
  · have s : (2 : Int) ^ Q = 2 ^ (Q - t) * 2 ^ t := by rw [← p2_add]; congr 1; omega
    rw [hXm, s] at h1
    exact Int.lt_of_mul_lt_mul_right h1 (Int.le_of_lt hpt)
  · rw [hXm, Int.mul_assoc, ← p2_add]; congr 2; omega
set_option maxRecDepth 4000 in
set_option maxHeartbeats 1000000 in
theorem treduced_any (w : World) (T : Tb w) (K k : Int) (Q q : Nat) (hK : -9223372036854775808 ≤ K ∧ K ≤ 9223372036854775807) (hQ : Q ≤ 40) (h : Fm (tv K Q) k q) :
    Calls Tryz.prog 78 #[.int .i64 K, .int .i64 Q] w (RetE w (.agg #[.int .i64 k, .int .i64 q])) := by
  have hw := two_pow_word (show Q ≤ 41 by omega)
  have hp := p2_pos Q
  have hle := p2_le hQ
  rw [p2_40] at hle
  have hx0 := Int.emod_nonneg K (Int.ne_of_gt hp)
  have hx1 := Int.emod_lt_of_pos K hp
  have hw1 : wrap64 (2 ^ Q - 1) = 2 ^ Q - 1 := by unfold wrap64; omega
  have hm := i64_mask K Q hQ
  rw [tv_mod hQ] at h
  obtain ⟨X, hX⟩ : ∃ X, K % 2 ^ Q = X := ⟨_, rfl⟩
  rw [hX] at hm h hx0 hx1
  clear hX hK
  by_cases hz : X = 0
  · subst hz
    rw [Int.zero_mul] at h
    obtain ⟨rfl, rfl⟩ := h.uniq fm_zero
    clear hx0 hx1 h
    clear hp hle
    go_enter Tryz.func78, Tryz.ntmps78
    go_wp2
    exact bodyPost_ret (by simp [results, Tryz.results78, go_sem]) rfl ⟨rfl, (Ext.refl w).alloc _⟩
  · obtain ⟨n, rfl⟩ := Int.eq_ofNat_of_zero_le hx0
    have hn0 : n ≠ 0 := by omega
    have hz' : ((n : Int) == 0) = false := beq_eq_false_iff_ne.2 hz
    obtain ⟨ht, hf⟩ := fm_low rfl hn0 hx1 hQ
    obtain ⟨e1, e2⟩ := h.uniq hf
    have hu : IntKind.u64.wrap (n : Int) = n := by rw [IntKind.wrap_u64]; omega
    have hd2 : wrap64 ((Q : Int) - (Lib.ctz 64 n : Int)) = (q : Int) := by unfold wrap64; omega
    have HT := Lib.hid (fun w' (T' : Tb w') => tz_any w' n hn0 (by omega) T')
    have HB := Lib.hid T
    have hd3 : (Q : Int) - (Lib.ctz 64 n : Int) = (q : Int) := by omega
    rw [e1]
    have hc : Lib.ctz 64 n ≤ 40 := by omega
    clear hp hle h hf e1 e2 hx1 hn0 T
    go_enter Tryz.func78, Tryz.ntmps78
    go_wp2_with fail
    refine (HT.out _ (HB.out.ext ((Ext.refl w).alloc _))).mono ?_
    rintro _ _ ⟨rfl, rfl⟩
    go_wp2
    exact bodyPost_ret (by simp [results, Tryz.results78, go_sem]) rfl ⟨rfl, (Ext.refl w).alloc _⟩
end Go.Proofs.YtomdbmjfehoodaaGreatDoor

/- Walks of package turn: Right, Form, Times, Flip. -/
namespace Go.Proofs.YtomdbmjfehoodaaGreatDoor
open Go.RowKit
set_option linter.unusedVariables false
theorem B2.fresh {w : World} {x y : Value} {t : TypeId} {g : Nat} (hg : w.heap.size = g) : B2 (w.alloc (.cells #[x, y] t)) g x y := B2.at (Ext.refl _) hg
theorem Z2.fresh {w : World} {t : TypeId} {g : Nat} (hg : w.heap.size = g) : Z2 (w.alloc (.cells #[.int .i64 0, .int .i64 0] t)) g := Z2.at (Ext.refl _) hg
theorem Z2.off {w : World} {g g' : Nat} {a b : Value} (h : Z2 w g) (hg : g ≠ g') : Z2 ((w.setCell ⟨g', 0, none⟩ a).setCell ⟨g', 1, none⟩ b) g := by
  have o : ∀ j, ((w.setCell ⟨g', 0, none⟩ a).setCell ⟨g', 1, none⟩ b).cell? ⟨g, j, none⟩ = w.cell? ⟨g, j, none⟩ := fun j => by
    rw [World.cell?_setCell_other _ _ _ _ (fun e => hg (by injection e with e; exact e.symm)), World.cell?_setCell_other _ _ _ _ (fun e => hg (by injection e with e; exact e.symm))]
  exact ⟨(o 0).trans h.c0, (o 1).trans h.c1, fun j => by simp only [World.frozen?_setCell]; exact h.f j⟩
/-- At g lies an angle's variable that may be stored into. -/
structure M2 (w : World) (g : Nat) (x y : Value) : Prop where
  c0 : w.cell? ⟨g, 0, none⟩ = some x
  c1 : w.cell? ⟨g, 1, none⟩ = some y
  f : ∀ j, w.frozen? ⟨g, j, none⟩ = false
theorem M2.ext {w w' : World} {g : Nat} {x y : Value} (h : M2 w g x y) (E : Ext w w') : M2 w' g x y := by
  have hg : g < w.heap.size := World.block_lt_of_cell? w _ h.c0
  exact ⟨(E.cell hg).trans h.c0, (E.cell hg).trans h.c1, fun j => (E.frozen hg).trans (h.f j)⟩
theorem M2.fresh {w : World} {x y : Value} {t : TypeId} {g : Nat} (hg : w.heap.size = g) : M2 (w.alloc (.cells #[x, y] t)) g x y := by
  subst hg
  exact ⟨by rw [World.cell?_alloc_new]; rfl, by rw [World.cell?_alloc_new]; rfl, fun j => by simp⟩
theorem M2.b2 {w : World} {g : Nat} {x y : Value} (h : M2 w g x y) : B2 w g x y := ⟨h.c0, h.c1⟩
theorem M2.store {w : World} {g : Nat} {x y a b : Value} (h : M2 w g x y) : M2 ((w.setCell ⟨g, 0, none⟩ a).setCell ⟨g, 1, none⟩ b) g a b := by
  have o : ∀ (W : World) (i j : Nat) (v : Value), i ≠ j → (W.setCell ⟨g, i, none⟩ v).cell? ⟨g, j, none⟩ = W.cell? ⟨g, j, none⟩ := fun W i j v hij => World.cell?_setCell_other _ _ _ _ (fun h => hij (by injection h))
  exact ⟨by rw [o _ 1 0 _ (by omega)]; exact World.cell?_setCell_same _ _ _ h.c0, World.cell?_setCell_same _ _ _ (by rw [o _ 0 1 _ (by omega)]; exact h.c1), fun j => by simp only [World.frozen?_setCell]; exact h.f j⟩
theorem M2.off {w : World} {g g' : Nat} {x y a b : Value} (h : M2 w g x y) (hg : g ≠ g') : M2 ((w.setCell ⟨g', 0, none⟩ a).setCell ⟨g', 1, none⟩ b) g x y := by
  obtain ⟨k0, k1⟩ := B2.off (a := a) (b := b) h.b2 hg
  exact ⟨k0, k1, fun j => by simp only [World.frozen?_setCell]; exact h.f j⟩
set_option maxRecDepth 4000 in
set_option maxHeartbeats 1000000 in
theorem tright_any (w : World) (K Q : Int) (hK : -9223372036854775808 ≤ K ∧ K ≤ 9223372036854775807) (hQ : -9223372036854775808 ≤ Q ∧ Q ≤ 9223372036854775807) :
    Calls Tryz.prog 41 #[.agg #[.int .i64 K, .int .i64 Q]] w (RetE w (.bool (rightT K Q))) := by
  unfold rightT
  by_cases c0 : 0 ≤ Q
  · rw [decide_eq_true c0]
    have d0 : decide (0 ≤ Q) = true := decide_eq_true c0
    by_cases c1 : Q ≤ 40
    · rw [decide_eq_true c1]
      have d1 : decide (Q ≤ 40) = true := decide_eq_true c1
      by_cases c2 : -1099511627776 ≤ K
      · rw [decide_eq_true c2]
        have d2 : decide (-1099511627776 ≤ K) = true := decide_eq_true c2
        by_cases c3 : K ≤ 1099511627776
        · rw [decide_eq_true c3]
          have d3 : decide (K ≤ 1099511627776) = true := decide_eq_true c3
          go_enter Tryz.func41, Tryz.ntmps41
          go_wp2
          go_ret
          exact ⟨by simp, (Ext.refl w).alloc _⟩
        · rw [decide_eq_false c3]
          have d3 : decide (K ≤ 1099511627776) = false := decide_eq_false c3
          go_enter Tryz.func41, Tryz.ntmps41
          go_wp2
          go_ret
          exact ⟨by simp, (Ext.refl w).alloc _⟩
      · rw [decide_eq_false c2]
        have d2 : decide (-1099511627776 ≤ K) = false := decide_eq_false c2
        go_enter Tryz.func41, Tryz.ntmps41
        go_wp2
        go_ret
        exact ⟨by simp, (Ext.refl w).alloc _⟩
    · rw [decide_eq_false c1]
      have d1 : decide (Q ≤ 40) = false := decide_eq_false c1
      go_enter Tryz.func41, Tryz.ntmps41
      go_wp2
      go_ret
      exact ⟨by simp, (Ext.refl w).alloc _⟩
  · rw [decide_eq_false c0]
    have d0 : decide (0 ≤ Q) = false := decide_eq_false c0
    go_enter Tryz.func41, Tryz.ntmps41
    go_wp2
    go_ret
    exact ⟨by simp, (Ext.refl w).alloc _⟩
theorem tright_lit (w : World) (K Q : Int) (r : Bool) (hr : rightT K Q = r) (hK : -9223372036854775808 ≤ K ∧ K ≤ 9223372036854775807) (hQ : -9223372036854775808 ≤ Q ∧ Q ≤ 9223372036854775807) : Calls Tryz.prog 41 #[.agg #[.int .i64 K, .int .i64 Q]] w (RetE w (.bool r)) := by
  subst hr; exact tright_any w K Q hK hQ
set_option maxRecDepth 4000 in
set_option maxHeartbeats 1000000 in
theorem tform_any (w : World) (T : Tb w) (K k : Int) (Q q : Nat) (hK : -1099511627776 ≤ K ∧ K ≤ 1099511627776) (hQ : Q ≤ 40) (h : Fm (tv K Q) k q) :
    Calls Tryz.prog 44 #[.agg #[.int .i64 K, .int .i64 Q]] w (RetE w (.agg #[.int .i64 k, .int .i64 q])) := by
  have HR := Lib.hid (fun w' => tright_lit w' K Q true (rightT_iff.2 (by omega)) (by omega) (by omega))
  have HC := Lib.hid (fun w' T' => treduced_any w' T' K k Q q (by omega) hQ h)
  replace T := Lib.hid T
  clear h
  go_enter Tryz.func44, Tryz.ntmps44
  go_wp2_with fail
  refine (HR.out _).mono ?_
  rintro _ w1 ⟨rfl, f1⟩
  have B_n : B2 w1 (w.heap.size) (.int .i64 K) (.int .i64 (Q : Int)) := ((B2.fresh (by simp)).ext ((Ext.refl _).alloc _)).ext f1
  have Z_n : Z2 w1 (w.heap.size + 1) := (Z2.fresh (by simp)).ext f1
  have E_n : Ext w w1 := (((Ext.refl w).alloc _).alloc _).trans f1
  clear f1
  have B := B_n
  clear B_n
  have Z := Z_n
  clear Z_n
  have E := E_n
  clear E_n
  obtain ⟨B_0, B_1⟩ := id B
  have B_l := World.block_lt_of_cell? _ _ B_0
  go_wp2_with fail
  refine (HC.out _ (T.out.ext E)).mono ?_
  rintro _ w2 ⟨rfl, f2⟩
  clear B_0 B_1 B_l
  have B_n : B2 w2 (w.heap.size) (.int .i64 K) (.int .i64 (Q : Int)) := B.ext f2
  have Z_n : Z2 w2 (w.heap.size + 1) := Z.ext f2
  have E_n : Ext w w2 := E.trans f2
  clear f2 B Z E
  have B := B_n
  clear B_n
  have Z := Z_n
  clear Z_n
  have E := E_n
  clear E_n
  have Z_c0 := Z.c0
  have Z_f0 := Z.f 0
  have Z_c1 := Z.c1
  have Z_f1 := Z.f 1
  have Z_l := World.block_lt_of_cell? _ _ Z_c0
  go_wp2
  obtain ⟨k0, k1, hD⟩ := Z.done E (by omega)
  exact bodyPost_ret (by simp [results, Tryz.results44, go_sem, k0, k1]) rfl ⟨rfl, hD⟩
set_option maxRecDepth 4000 in
set_option maxHeartbeats 1000000 in
theorem ttimes_any (w : World) (T : Tb w) (K n k : Int) (Q q : Nat) (hK : -1099511627776 ≤ K ∧ K ≤ 1099511627776) (hQ : Q ≤ 40) (h : Fm (n * tv K Q % 1099511627776) k q) :
    Calls Tryz.prog 137 #[.agg #[.int .i64 K, .int .i64 Q], .int .i64 n] w (RetE w (.agg #[.int .i64 k, .int .i64 q])) := by
  obtain ⟨kf, qf, hf⟩ := fm_there (tv_range K Q).1 (tv_range K Q).2
  have HF := Lib.hid (fun w' T' => tform_any w' T' K kf Q qf hK hQ hf)
  have hv : Fm (tv (wrap64 (kf * n)) qf) k q := by
    rw [tv_wrap]
    unfold tv
    rw [show kf * n * 2 ^ (40 - qf) = n * (kf * 2 ^ (40 - qf)) by rw [Int.mul_comm kf, Int.mul_assoc], ← hf.low.2.2.2]
    exact h
  have HC := Lib.hid (fun w' T' => treduced_any w' T' (wrap64 (kf * n)) k qf q (by unfold wrap64; omega) hf.low.2.2.1 hv)
  replace T := Lib.hid T
  clear h hf hv
  go_enter Tryz.func137, Tryz.ntmps137
  go_wp2_with fail
  refine (HF.out _ (T.out.ext (((Ext.refl w).alloc _).alloc _))).mono ?_
  rintro _ w1 ⟨rfl, f1⟩
  have B_n : M2 w1 (w.heap.size) (.int .i64 K) (.int .i64 (Q : Int)) := ((M2.fresh (by simp)).ext ((Ext.refl _).alloc _)).ext f1
  have Z_n : Z2 w1 (w.heap.size + 1) := (Z2.fresh (by simp)).ext f1
  have E_n : Ext w w1 := (((Ext.refl w).alloc _).alloc _).trans f1
  clear f1
  have B := B_n
  clear B_n
  have Z := Z_n
  clear Z_n
  have E := E_n
  clear E_n
  obtain ⟨B_0, B_1, B_f⟩ := id B
  have B_f0 := B_f 0
  have B_f1 := B_f 1
  clear B_f
  have B_l := World.block_lt_of_cell? _ _ B_0
  go_wp2_with fail
  refine (HC.out _ (T.out.ext ((E.setCell (show w.heap.size ≤ w.heap.size by omega) _).setCell (show w.heap.size ≤ w.heap.size by omega) _))).mono ?_
  rintro _ w2 ⟨rfl, f2⟩
  clear B_0 B_1 B_f0 B_f1 B_l
  have B_n : M2 w2 (w.heap.size) (.int .i64 kf) (.int .i64 (qf : Int)) := (B.store).ext f2
  have Z_n : Z2 w2 (w.heap.size + 1) := (Z.off (show (w.heap.size + 1 : Nat) ≠ w.heap.size by omega)).ext f2
  have E_n : Ext w w2 := ((E.setCell (show w.heap.size ≤ w.heap.size by omega) _).setCell (show w.heap.size ≤ w.heap.size by omega) _).trans f2
  clear f2 B Z E
  have B := B_n
  clear B_n
  have Z := Z_n
  clear Z_n
  have E := E_n
  clear E_n
  have Z_c0 := Z.c0
  have Z_f0 := Z.f 0
  have Z_c1 := Z.c1
  have Z_f1 := Z.f 1
  have Z_l := World.block_lt_of_cell? _ _ Z_c0
  go_wp2
  obtain ⟨k0, k1, hD⟩ := Z.done E (by omega)
  exact bodyPost_ret (by simp [results, Tryz.results137, go_sem, k0, k1]) rfl ⟨rfl, hD⟩
set_option maxRecDepth 4000 in
set_option maxHeartbeats 1000000 in
theorem tflip_any (w : World) (T : Tb w) (K k : Int) (Q q : Nat) (hK : -1099511627776 ≤ K ∧ K ≤ 1099511627776) (hQ : Q ≤ 40) (h : Fm ((-tv K Q) % 1099511627776) k q) :
    Calls Tryz.prog 120 #[.agg #[.int .i64 K, .int .i64 Q]] w (RetE w (.agg #[.int .i64 k, .int .i64 q])) := by
  have HC := Lib.hid (fun w' T' => ttimes_any w' T' K (-1) k Q q hK hQ (by rw [Int.neg_one_mul]; exact h))
  replace T := Lib.hid T
  clear h
  go_enter Tryz.func120, Tryz.ntmps120
  go_wp2_with fail
  refine (HC.out _ (T.out.ext (((Ext.refl w).alloc _).alloc _))).mono ?_
  rintro _ w1 ⟨rfl, f1⟩
  have B_n : B2 w1 (w.heap.size) (.int .i64 K) (.int .i64 (Q : Int)) := ((B2.fresh (by simp)).ext ((Ext.refl _).alloc _)).ext f1
  have Z_n : Z2 w1 (w.heap.size + 1) := (Z2.fresh (by simp)).ext f1
  have E_n : Ext w w1 := (((Ext.refl w).alloc _).alloc _).trans f1
  clear f1
  have B := B_n
  clear B_n
  have Z := Z_n
  clear Z_n
  have E := E_n
  clear E_n
  have Z_c0 := Z.c0
  have Z_f0 := Z.f 0
  have Z_c1 := Z.c1
  have Z_f1 := Z.f 1
  have Z_l := World.block_lt_of_cell? _ _ Z_c0
  go_wp2
  obtain ⟨k0, k1, hD⟩ := Z.done E (by omega)
  exact bodyPost_ret (by simp [results, Tryz.results120, go_sem, k0, k1]) rfl ⟨rfl, hD⟩
end Go.Proofs.YtomdbmjfehoodaaGreatDoor

/- Walks of package turn: Add. -/
namespace Go.Proofs.YtomdbmjfehoodaaGreatDoor
open Go.RowKit
set_option linter.unusedVariables false
theorem cell_ext {w w' : World} {g : Nat} {x : Value} (h : w.cell? ⟨g, 0, none⟩ = some x) (E : Ext w w') : w'.cell? ⟨g, 0, none⟩ = some x := by
  have hg : g < w.heap.size := World.block_lt_of_cell? w _ h
  exact (E.cell hg).trans h
theorem cell_off {w : World} {g g' : Nat} {x a b : Value} (h : w.cell? ⟨g, 0, none⟩ = some x) (hg : g ≠ g') : ((w.setCell ⟨g', 0, none⟩ a).setCell ⟨g', 1, none⟩ b).cell? ⟨g, 0, none⟩ = some x := by
  rw [World.cell?_setCell_other _ _ _ _ (fun e => hg (by injection e with e; exact e.symm)), World.cell?_setCell_other _ _ _ _ (fun e => hg (by injection e with e; exact e.symm))]; exact h
theorem callParts : ∀ (x : Array Value) (W : World), (callFunc 85 x).run Tryz.prog W = .ok (.enter 85 x) W := fun _ _ => by kernel_rfl
set_option maxRecDepth 4000 in
set_option maxHeartbeats 1000000 in
theorem tpart_any (w : World) (g : Nat) (k M N : Int) (q j : Nat) (hg : w.cell? ⟨g, 0, none⟩ = some (.int .i64 M)) (hM : M = ((q + j : Nat) : Int)) (hj : q + j ≤ 40) (hk : 0 ≤ k ∧ k < 2 ^ q) (hN : k * 2 ^ j = N) :
    Calls Tryz.prog 85 #[.agg #[.int .i64 k, .int .i64 q], .pointer (some ⟨g, 0, none⟩)] w (RetE w (.int .i64 N)) := by
  have hw1 : wrap64 (M - (q : Int)) = (j : Int) := by unfold wrap64; omega
  have hs := p2_le hj
  rw [p2_40, p2_add] at hs
  have hp := p2_pos j
  have h1 := Int.mul_nonneg hk.1 (Int.le_of_lt hp)
  have h2 := Int.mul_lt_mul_of_pos_right hk.2 hp
  have hw2 : IntKind.i64.wrap (k * 2 ^ j) = N := by rw [IntWalk.i64_in _ (by omega)]; exact hN
  have hj2 : (j : Int) ≤ 40 := by omega
  have hl := World.block_lt_of_cell? _ _ hg
  clear hs hp h1 h2 hk hM hj hN
  go_enter Tryz.func85, Tryz.ntmps85
  go_wp2
  go_ret
  exact ⟨rfl, (Ext.refl w).alloc _⟩
set_option maxRecDepth 4000 in
set_option maxHeartbeats 1000000 in
theorem tadd_lt (w : World) (T : Tb w) (Ka Kb ka kb k : Int) (Qa Qb qa qb q : Nat) (hKa : -1099511627776 ≤ Ka ∧ Ka ≤ 1099511627776) (hKb : -1099511627776 ≤ Kb ∧ Kb ≤ 1099511627776) (hQa : Qa ≤ 40) (hQb : Qb ≤ 40) (ha : Fm (tv Ka Qa) ka qa) (hb : Fm (tv Kb Qb) kb qb) (h : Fm ((tv Ka Qa + tv Kb Qb) % 1099511627776) k q) (hle : qa < qb) :
    Calls Tryz.prog 52 #[.agg #[.int .i64 Ka, .int .i64 Qa], .agg #[.int .i64 Kb, .int .i64 Qb]] w (RetE w (.agg #[.int .i64 k, .int .i64 q])) := by
  obtain ⟨la0, la1, la2, la3⟩ := ha.low
  obtain ⟨lb0, lb1, lb2, lb3⟩ := hb.low
  have pa := parts_range ha (show qa ≤ qb by omega) (by omega)
  have pb := parts_range hb (show qb ≤ qb by omega) (by omega)
  have va := fm_parts ha (show qa ≤ qb by omega) (by omega)
  have vb := fm_parts hb (show qb ≤ qb by omega) (by omega)
  have hl := p2_le (show qb ≤ 40 by omega)
  rw [p2_40] at hl
  have HA := Lib.hid (fun w' T' => tform_any w' T' Ka ka Qa qa hKa hQa ha)
  have HB := Lib.hid (fun w' T' => tform_any w' T' Kb kb Qb qb hKb hQb hb)
  obtain ⟨A, hA⟩ : ∃ A, ka * 2 ^ (qb - qa) = A := ⟨_, rfl⟩
  obtain ⟨B, hB⟩ : ∃ B, kb * 2 ^ (qb - qb) = B := ⟨_, rfl⟩
  have HPA := Lib.hid (fun w' g hg => tpart_any w' g ka (qb : Int) A qa (qb - qa) hg (by omega) (by omega) ⟨la0, la1⟩ hA)
  have HPB := Lib.hid (fun w' g hg => tpart_any w' g kb (qb : Int) B qb (qb - qb) hg (by omega) (by omega) ⟨lb0, lb1⟩ hB)
  rw [hA] at pa va
  rw [hB] at pb vb
  have ht := tv_add va vb
  rw [← ht] at h
  have HC := Lib.hid (fun w' T' => treduced_any w' T' (A + B) k qb q (by omega) (by omega) h)
  have hw : IntKind.i64.wrap (A + B) = A + B := IntWalk.i64_in _ (by omega)
  have hw' : wrap64 (A + B) = A + B := by unfold wrap64; omega
  have hmx : max (qa : Int) (qb : Int) = (qb : Int) := by omega
  have h2 : (qa : Int) < (qb : Int) := by omega
  have h3 : decide ((qa : Int) < (qb : Int)) = true := decide_eq_true (by omega)
  clear hKa hKb hQa hQb ha hb h la0 la1 la2 la3 lb0 lb1 lb2 lb3 pa pb va vb hl ht hA hB
  replace T := Lib.hid T
  have hmf : ∀ (fn : Fn) (first cap : Array Value) (w : World), (Instr.makeFunc fn first cap).run Tryz.prog w = .ok (.func fn first cap) w := fun _ _ _ _ => rfl
  have hcall := callParts
  go_enter Tryz.func52, Tryz.ntmps52
  go_upto_region 1 with fail
  go_cut [] from 7 (fun wx => Ext w wx ∧ M2 wx w.heap.size (.int .i64 ka) (.int .i64 (qa : Int)) ∧ M2 wx (w.heap.size + 1) (.int .i64 kb) (.int .i64 (qb : Int)) ∧ Z2 wx (w.heap.size + 1 + 1))
  case first =>
    refine wp_region_held_drew (S := fun _ => True) (by as_aux_lemma => kernel_rfl) trivial (fun hHeld => ?_)
    have hd : Ext (((w.alloc (.cells #[.int .i64 Ka, .int .i64 (Qa : Int)] 23)).alloc (.cells #[.int .i64 Kb, .int .i64 (Qb : Int)] 23)).alloc (.cells #[.int .i64 0, .int .i64 0] 23)) (World.drew (((w.alloc (.cells #[.int .i64 Ka, .int .i64 (Qa : Int)] 23)).alloc (.cells #[.int .i64 Kb, .int .i64 (Qb : Int)] 23)).alloc (.cells #[.int .i64 0, .int .i64 0] 23))) := (Ext.refl _).drew
    generalize hgen : World.drew (((w.alloc (.cells #[.int .i64 Ka, .int .i64 (Qa : Int)] 23)).alloc (.cells #[.int .i64 Kb, .int .i64 (Qb : Int)] 23)).alloc (.cells #[.int .i64 0, .int .i64 0] 23)) = W1 at hd ⊢
    clear hgen
    have Ba_n : M2 W1 (w.heap.size) (.int .i64 Ka) (.int .i64 (Qa : Int)) := (((M2.fresh (by simp)).ext ((Ext.refl _).alloc _)).ext ((Ext.refl _).alloc _)).ext hd
    have Bb_n : M2 W1 (w.heap.size + 1) (.int .i64 Kb) (.int .i64 (Qb : Int)) := ((M2.fresh (by simp)).ext ((Ext.refl _).alloc _)).ext hd
    have Z_n : Z2 W1 (w.heap.size + 1 + 1) := (Z2.fresh (by simp)).ext hd
    have E_n : Ext w W1 := ((((Ext.refl w).alloc _).alloc _).alloc _).trans hd
    clear hd
    have Ba := Ba_n
    clear Ba_n
    have Bb := Bb_n
    clear Bb_n
    have Z := Z_n
    clear Z_n
    have E := E_n
    clear E_n
    obtain ⟨Ba_0, Ba_1, Ba_f⟩ := id Ba
    have Ba_f0 := Ba_f 0
    have Ba_f1 := Ba_f 1
    clear Ba_f
    have Ba_l := World.block_lt_of_cell? _ _ Ba_0
    obtain ⟨Bb_0, Bb_1, Bb_f⟩ := id Bb
    have Bb_f0 := Bb_f 0
    have Bb_f1 := Bb_f 1
    clear Bb_f
    have Bb_l := World.block_lt_of_cell? _ _ Bb_0
    refine wpAnyH_ready (rs := [0, 2]) (by as_aux_lemma => kernel_rfl) (by simp) ?_
    refine AllReadyH.cons rfl (fun K hK => ?_) (AllReadyH.cons rfl (fun K hK => ?_) AllReadyH.nil)
    · go_simp
      refine hK.out _ _ trivial (fun hHeld => ?_)
      clear hK K
      refine wpAnyH_ready (rs := [1, 2]) (by as_aux_lemma => kernel_rfl) (by simp) ?_
      refine AllReadyH.cons rfl (fun K hK => ?_) (AllReadyH.cons rfl (fun K hK => ?_) AllReadyH.nil)
      · go_simp
        refine (HA.out _ (T.out.ext E)).mono ?_
        rintro _ w1 ⟨rfl, f1⟩
        clear Ba_0 Ba_1 Ba_f0 Ba_f1 Ba_l Bb_0 Bb_1 Bb_f0 Bb_f1 Bb_l
        have Ba_n : M2 w1 (w.heap.size) (.int .i64 Ka) (.int .i64 (Qa : Int)) := Ba.ext f1
        have Bb_n : M2 w1 (w.heap.size + 1) (.int .i64 Kb) (.int .i64 (Qb : Int)) := Bb.ext f1
        have Z_n : Z2 w1 (w.heap.size + 1 + 1) := Z.ext f1
        have E_n : Ext w w1 := E.trans f1
        clear f1 Ba Bb Z E
        have Ba := Ba_n
        clear Ba_n
        have Bb := Bb_n
        clear Bb_n
        have Z := Z_n
        clear Z_n
        have E := E_n
        clear E_n
        obtain ⟨Ba_0, Ba_1, Ba_f⟩ := id Ba
        have Ba_f0 := Ba_f 0
        have Ba_f1 := Ba_f 1
        clear Ba_f
        have Ba_l := World.block_lt_of_cell? _ _ Ba_0
        obtain ⟨Bb_0, Bb_1, Bb_f⟩ := id Bb
        have Bb_f0 := Bb_f 0
        have Bb_f1 := Bb_f 1
        clear Bb_f
        have Bb_l := World.block_lt_of_cell? _ _ Bb_0
        refine hK.out _ _ trivial (fun hHeld => ?_)
        clear hK K
        refine wpAnyH_ready (rs := [2]) (by as_aux_lemma => kernel_rfl) (by simp) ?_
        refine AllReadyH.cons rfl (fun K hK => ?_) AllReadyH.nil
        go_simp
        refine hK.out _ _ trivial (fun hHeld => ?_)
        clear hK K
        refine wpAnyH_ready (rs := [3]) (by as_aux_lemma => kernel_rfl) (by simp) ?_
        refine AllReadyH.cons rfl (fun K hK => ?_) AllReadyH.nil
        go_simp
        refine (HB.out _ (T.out.ext E)).mono ?_
        rintro _ w2 ⟨rfl, f2⟩
        clear Ba_0 Ba_1 Ba_f0 Ba_f1 Ba_l Bb_0 Bb_1 Bb_f0 Bb_f1 Bb_l
        have Ba_n : M2 w2 (w.heap.size) (.int .i64 Ka) (.int .i64 (Qa : Int)) := Ba.ext f2
        have Bb_n : M2 w2 (w.heap.size + 1) (.int .i64 Kb) (.int .i64 (Qb : Int)) := Bb.ext f2
        have Z_n : Z2 w2 (w.heap.size + 1 + 1) := Z.ext f2
        have E_n : Ext w w2 := E.trans f2
        clear f2 Ba Bb Z E
        have Ba := Ba_n
        clear Ba_n
        have Bb := Bb_n
        clear Bb_n
        have Z := Z_n
        clear Z_n
        have E := E_n
        clear E_n
        obtain ⟨Ba_0, Ba_1, Ba_f⟩ := id Ba
        have Ba_f0 := Ba_f 0
        have Ba_f1 := Ba_f 1
        clear Ba_f
        have Ba_l := World.block_lt_of_cell? _ _ Ba_0
        obtain ⟨Bb_0, Bb_1, Bb_f⟩ := id Bb
        have Bb_f0 := Bb_f 0
        have Bb_f1 := Bb_f 1
        clear Bb_f
        have Bb_l := World.block_lt_of_cell? _ _ Bb_0
        refine hK.out _ _ trivial (fun hHeld => ?_)
        clear hK K
        refine wpAnyH_ready (rs := [4]) (by as_aux_lemma => kernel_rfl) (by simp) ?_
        refine AllReadyH.cons rfl (fun K hK => ?_) AllReadyH.nil
        go_simp
        refine hK.out _ _ trivial (fun hHeld => ?_)
        clear hK K
        refine wpAnyH_ready (rs := [5]) (by as_aux_lemma => kernel_rfl) (by simp) ?_
        refine AllReadyH.cons rfl (fun K hK => ?_) AllReadyH.nil
        go_simp
        refine hK.out _ _ trivial (fun hHeld => ?_)
        clear hK K
        refine wpAnyH_done (by as_aux_lemma => kernel_rfl) ?_ _
        go_wp2_with fail
        go_meet
        case rel =>
          exact ⟨((((E.setCell (show w.heap.size ≤ w.heap.size by omega) _).setCell (show w.heap.size ≤ w.heap.size by omega) _).setCell (show w.heap.size ≤ w.heap.size + 1 by omega) _).setCell (show w.heap.size ≤ w.heap.size + 1 by omega) _), ((Ba.store).off (show (w.heap.size : Nat) ≠ w.heap.size + 1 by omega)), ((Bb.off (show (w.heap.size + 1 : Nat) ≠ w.heap.size by omega)).store), ((Z.off (show (w.heap.size + 1 + 1 : Nat) ≠ w.heap.size by omega)).off (show (w.heap.size + 1 + 1 : Nat) ≠ w.heap.size + 1 by omega))⟩
      · go_simp
        refine hK.out _ _ trivial (fun hHeld => ?_)
        clear hK K
        refine wpAnyH_ready (rs := [1]) (by as_aux_lemma => kernel_rfl) (by simp) ?_
        refine AllReadyH.cons rfl (fun K hK => ?_) AllReadyH.nil
        go_simp
        refine (HA.out _ (T.out.ext E)).mono ?_
        rintro _ w1 ⟨rfl, f1⟩
        clear Ba_0 Ba_1 Ba_f0 Ba_f1 Ba_l Bb_0 Bb_1 Bb_f0 Bb_f1 Bb_l
        have Ba_n : M2 w1 (w.heap.size) (.int .i64 Ka) (.int .i64 (Qa : Int)) := Ba.ext f1
        have Bb_n : M2 w1 (w.heap.size + 1) (.int .i64 Kb) (.int .i64 (Qb : Int)) := Bb.ext f1
        have Z_n : Z2 w1 (w.heap.size + 1 + 1) := Z.ext f1
        have E_n : Ext w w1 := E.trans f1
        clear f1 Ba Bb Z E
        have Ba := Ba_n
        clear Ba_n
        have Bb := Bb_n
        clear Bb_n
        have Z := Z_n
        clear Z_n
        have E := E_n
        clear E_n
        obtain ⟨Ba_0, Ba_1, Ba_f⟩ := id Ba
        have Ba_f0 := Ba_f 0
        have Ba_f1 := Ba_f 1
        clear Ba_f
        have Ba_l := World.block_lt_of_cell? _ _ Ba_0
        obtain ⟨Bb_0, Bb_1, Bb_f⟩ := id Bb
        have Bb_f0 := Bb_f 0
        have Bb_f1 := Bb_f 1
        clear Bb_f
        have Bb_l := World.block_lt_of_cell? _ _ Bb_0
        refine hK.out _ _ trivial (fun hHeld => ?_)
        clear hK K
        refine wpAnyH_ready (rs := [3]) (by as_aux_lemma => kernel_rfl) (by simp) ?_
        refine AllReadyH.cons rfl (fun K hK => ?_) AllReadyH.nil
        go_simp
        refine (HB.out _ (T.out.ext E)).mono ?_
        rintro _ w2 ⟨rfl, f2⟩
        clear Ba_0 Ba_1 Ba_f0 Ba_f1 Ba_l Bb_0 Bb_1 Bb_f0 Bb_f1 Bb_l
        have Ba_n : M2 w2 (w.heap.size) (.int .i64 Ka) (.int .i64 (Qa : Int)) := Ba.ext f2
        have Bb_n : M2 w2 (w.heap.size + 1) (.int .i64 Kb) (.int .i64 (Qb : Int)) := Bb.ext f2
        have Z_n : Z2 w2 (w.heap.size + 1 + 1) := Z.ext f2
        have E_n : Ext w w2 := E.trans f2
        clear f2 Ba Bb Z E
        have Ba := Ba_n
        clear Ba_n
        have Bb := Bb_n
        clear Bb_n
        have Z := Z_n
        clear Z_n
        have E := E_n
        clear E_n
        obtain ⟨Ba_0, Ba_1, Ba_f⟩ := id Ba
        have Ba_f0 := Ba_f 0
        have Ba_f1 := Ba_f 1
        clear Ba_f
        have Ba_l := World.block_lt_of_cell? _ _ Ba_0
        obtain ⟨Bb_0, Bb_1, Bb_f⟩ := id Bb
        have Bb_f0 := Bb_f 0
        have Bb_f1 := Bb_f 1
        clear Bb_f
        have Bb_l := World.block_lt_of_cell? _ _ Bb_0
        refine hK.out _ _ trivial (fun hHeld => ?_)
        clear hK K
        refine wpAnyH_ready (rs := [4]) (by as_aux_lemma => kernel_rfl) (by simp) ?_
        refine AllReadyH.cons rfl (fun K hK => ?_) AllReadyH.nil
        go_simp
        refine hK.out _ _ trivial (fun hHeld => ?_)
        clear hK K
        refine wpAnyH_ready (rs := [5]) (by as_aux_lemma => kernel_rfl) (by simp) ?_
        refine AllReadyH.cons rfl (fun K hK => ?_) AllReadyH.nil
        go_simp
        refine hK.out _ _ trivial (fun hHeld => ?_)
        clear hK K
        refine wpAnyH_done (by as_aux_lemma => kernel_rfl) ?_ _
        go_wp2_with fail
        go_meet
        case rel =>
          exact ⟨((((E.setCell (show w.heap.size ≤ w.heap.size by omega) _).setCell (show w.heap.size ≤ w.heap.size by omega) _).setCell (show w.heap.size ≤ w.heap.size + 1 by omega) _).setCell (show w.heap.size ≤ w.heap.size + 1 by omega) _), ((Ba.store).off (show (w.heap.size : Nat) ≠ w.heap.size + 1 by omega)), ((Bb.off (show (w.heap.size + 1 : Nat) ≠ w.heap.size by omega)).store), ((Z.off (show (w.heap.size + 1 + 1 : Nat) ≠ w.heap.size by omega)).off (show (w.heap.size + 1 + 1 : Nat) ≠ w.heap.size + 1 by omega))⟩
    · go_simp
      refine hK.out _ _ trivial (fun hHeld => ?_)
      clear hK K
      refine wpAnyH_ready (rs := [0]) (by as_aux_lemma => kernel_rfl) (by simp) ?_
      refine AllReadyH.cons rfl (fun K hK => ?_) AllReadyH.nil
      go_simp
      refine hK.out _ _ trivial (fun hHeld => ?_)
      clear hK K
      refine wpAnyH_ready (rs := [1]) (by as_aux_lemma => kernel_rfl) (by simp) ?_
      refine AllReadyH.cons rfl (fun K hK => ?_) AllReadyH.nil
      go_simp
      refine (HA.out _ (T.out.ext E)).mono ?_
      rintro _ w1 ⟨rfl, f1⟩
      clear Ba_0 Ba_1 Ba_f0 Ba_f1 Ba_l Bb_0 Bb_1 Bb_f0 Bb_f1 Bb_l
      have Ba_n : M2 w1 (w.heap.size) (.int .i64 Ka) (.int .i64 (Qa : Int)) := Ba.ext f1
      have Bb_n : M2 w1 (w.heap.size + 1) (.int .i64 Kb) (.int .i64 (Qb : Int)) := Bb.ext f1
      have Z_n : Z2 w1 (w.heap.size + 1 + 1) := Z.ext f1
      have E_n : Ext w w1 := E.trans f1
      clear f1 Ba Bb Z E
      have Ba := Ba_n
      clear Ba_n
      have Bb := Bb_n
      clear Bb_n
      have Z := Z_n
      clear Z_n
      have E := E_n
      clear E_n
      obtain ⟨Ba_0, Ba_1, Ba_f⟩ := id Ba
      have Ba_f0 := Ba_f 0
      have Ba_f1 := Ba_f 1
      clear Ba_f
      have Ba_l := World.block_lt_of_cell? _ _ Ba_0
      obtain ⟨Bb_0, Bb_1, Bb_f⟩ := id Bb
      have Bb_f0 := Bb_f 0
      have Bb_f1 := Bb_f 1
      clear Bb_f
      have Bb_l := World.block_lt_of_cell? _ _ Bb_0
      refine hK.out _ _ trivial (fun hHeld => ?_)
      clear hK K
      refine wpAnyH_ready (rs := [3]) (by as_aux_lemma => kernel_rfl) (by simp) ?_
      refine AllReadyH.cons rfl (fun K hK => ?_) AllReadyH.nil
      go_simp
      refine (HB.out _ (T.out.ext E)).mono ?_
      rintro _ w2 ⟨rfl, f2⟩
      clear Ba_0 Ba_1 Ba_f0 Ba_f1 Ba_l Bb_0 Bb_1 Bb_f0 Bb_f1 Bb_l
      have Ba_n : M2 w2 (w.heap.size) (.int .i64 Ka) (.int .i64 (Qa : Int)) := Ba.ext f2
      have Bb_n : M2 w2 (w.heap.size + 1) (.int .i64 Kb) (.int .i64 (Qb : Int)) := Bb.ext f2
      have Z_n : Z2 w2 (w.heap.size + 1 + 1) := Z.ext f2
      have E_n : Ext w w2 := E.trans f2
      clear f2 Ba Bb Z E
      have Ba := Ba_n
      clear Ba_n
      have Bb := Bb_n
      clear Bb_n
      have Z := Z_n
      clear Z_n
      have E := E_n
      clear E_n
      obtain ⟨Ba_0, Ba_1, Ba_f⟩ := id Ba
      have Ba_f0 := Ba_f 0
      have Ba_f1 := Ba_f 1
      clear Ba_f
      have Ba_l := World.block_lt_of_cell? _ _ Ba_0
      obtain ⟨Bb_0, Bb_1, Bb_f⟩ := id Bb
      have Bb_f0 := Bb_f 0
      have Bb_f1 := Bb_f 1
      clear Bb_f
      have Bb_l := World.block_lt_of_cell? _ _ Bb_0
      refine hK.out _ _ trivial (fun hHeld => ?_)
      clear hK K
      refine wpAnyH_ready (rs := [4]) (by as_aux_lemma => kernel_rfl) (by simp) ?_
      refine AllReadyH.cons rfl (fun K hK => ?_) AllReadyH.nil
      go_simp
      refine hK.out _ _ trivial (fun hHeld => ?_)
      clear hK K
      refine wpAnyH_ready (rs := [5]) (by as_aux_lemma => kernel_rfl) (by simp) ?_
      refine AllReadyH.cons rfl (fun K hK => ?_) AllReadyH.nil
      go_simp
      refine hK.out _ _ trivial (fun hHeld => ?_)
      clear hK K
      refine wpAnyH_done (by as_aux_lemma => kernel_rfl) ?_ _
      go_wp2_with fail
      go_meet
      case rel =>
        exact ⟨((((E.setCell (show w.heap.size ≤ w.heap.size by omega) _).setCell (show w.heap.size ≤ w.heap.size by omega) _).setCell (show w.heap.size ≤ w.heap.size + 1 by omega) _).setCell (show w.heap.size ≤ w.heap.size + 1 by omega) _), ((Ba.store).off (show (w.heap.size : Nat) ≠ w.heap.size + 1 by omega)), ((Bb.off (show (w.heap.size + 1 : Nat) ≠ w.heap.size by omega)).store), ((Z.off (show (w.heap.size + 1 + 1 : Nat) ≠ w.heap.size by omega)).off (show (w.heap.size + 1 + 1 : Nat) ≠ w.heap.size + 1 by omega))⟩
  case rest =>
    obtain ⟨E, Ba, Bb, Z⟩ := hcut
    have hZl := World.block_lt_of_cell? _ _ Z.c0
    skip
    clear hcall
    obtain ⟨Ba_0, Ba_1, Ba_f⟩ := id Ba
    have Ba_f0 := Ba_f 0
    have Ba_f1 := Ba_f 1
    clear Ba_f
    have Ba_l := World.block_lt_of_cell? _ _ Ba_0
    obtain ⟨Bb_0, Bb_1, Bb_f⟩ := id Bb
    have Bb_f0 := Bb_f 0
    have Bb_f1 := Bb_f 1
    clear Bb_f
    have Bb_l := World.block_lt_of_cell? _ _ Bb_0
    go_upto_region 4 with fail
    have hcall := callParts
    have Bq : (wc.alloc (.cells #[.int .i64 (qb : Int)] 3)).cell? ⟨wc.heap.size, 0, none⟩ = some (.int .i64 (qb : Int)) := by rw [World.cell?_alloc_new]; rfl
    have eQ : Ext wc (wc.alloc (.cells #[.int .i64 (qb : Int)] 3)) := (Ext.refl _).alloc _
    clear Ba_0 Ba_1 Ba_f0 Ba_f1 Ba_l Bb_0 Bb_1 Bb_f0 Bb_f1 Bb_l
    have Ba2 := Ba.b2.ext eQ
    have Bb2 := Bb.b2.ext eQ
    replace Z := Z.ext eQ
    replace E := E.trans eQ
    have hq : (wc.heap.size : Nat) ≠ w.heap.size + 1 + 1 := by have := hZl; simp at this; omega
    clear Ba Bb eQ hZl
    generalize hgen : wc.alloc (.cells #[.int .i64 (qb : Int)] 3) = W3 at *
    clear hgen
    generalize hgq : wc.heap.size = gq at *
    clear hgq
    refine wp_region_held_drew (S := (fun w' => (w'.cell? ⟨w.heap.size, 0, none⟩ = some (.int .i64 ka) ∧ w'.cell? ⟨w.heap.size, 1, none⟩ = some (.int .i64 (qa : Int))) ∧ (w'.cell? ⟨w.heap.size + 1, 0, none⟩ = some (.int .i64 kb) ∧ w'.cell? ⟨w.heap.size + 1, 1, none⟩ = some (.int .i64 (qb : Int))) ∧ w'.cell? ⟨gq, 0, none⟩ = some (.int .i64 (qb : Int)))) (by as_aux_lemma => kernel_rfl) ⟨b2 (Ba2.ext (Ext.refl W3).drew), b2 (Bb2.ext (Ext.refl W3).drew), cell_ext Bq (Ext.refl W3).drew⟩ (fun hHeld => ?_)
    refine wpAnyH_take (i := 0) (v := ?_) rfl (by as_aux_lemma => kernel_rfl) (by as_aux_lemma => kernel_rfl) (by as_aux_lemma => kernel_rfl) (fun _ _ _ h => h) (Or.inl ⟨by rfl, ?_⟩) (by assumption) ?_
    rotate_left
    · (intro w hSw; (try dsimp only at hSw); go_simp); (try with_reducible rfl)
    simp only [List.getElem_toArray, List.getElem_cons_zero, Act.put, List.setIfInBounds_toArray, List.set_cons_zero, List.set_cons_succ]
    refine wpAnyH_take (i := 1) (v := ?_) rfl (by as_aux_lemma => kernel_rfl) (by as_aux_lemma => kernel_rfl) (by as_aux_lemma => kernel_rfl) (fun _ _ _ h => h) (Or.inl ⟨by rfl, ?_⟩) (by assumption) ?_
    rotate_left
    · (intro w hSw; (try dsimp only at hSw); go_simp); (try with_reducible rfl)
    simp only [List.getElem_toArray, List.getElem_cons_zero, List.getElem_cons_succ, Act.put, List.setIfInBounds_toArray, List.set_cons_zero, List.set_cons_succ]
    refine wpAnyH_take (i := 3) (v := ?_) rfl (by as_aux_lemma => kernel_rfl) (by as_aux_lemma => kernel_rfl) (by as_aux_lemma => kernel_rfl) (fun _ _ _ h => h) (Or.inl ⟨by rfl, ?_⟩) (by assumption) ?_
    rotate_left
    · (intro w hSw; (try dsimp only at hSw); go_simp); (try with_reducible rfl)
    simp only [List.getElem_toArray, List.getElem_cons_zero, List.getElem_cons_succ, Act.put, List.setIfInBounds_toArray, List.set_cons_zero, List.set_cons_succ]
    refine wpAnyH_take (i := 4) (v := ?_) rfl (by as_aux_lemma => kernel_rfl) (by as_aux_lemma => kernel_rfl) (by as_aux_lemma => kernel_rfl) (fun _ _ _ h => h) (Or.inl ⟨by rfl, ?_⟩) (by assumption) ?_
    rotate_left
    · (intro w hSw; (try dsimp only at hSw); go_simp); (try with_reducible rfl)
    simp only [List.getElem_toArray, List.getElem_cons_zero, List.getElem_cons_succ, Act.put, List.setIfInBounds_toArray, List.set_cons_zero, List.set_cons_succ]
    refine wpAnyH_take (i := 7) (v := ?_) rfl (by as_aux_lemma => kernel_rfl) (by as_aux_lemma => kernel_rfl) (by as_aux_lemma => kernel_rfl) (fun _ _ _ h => h) (Or.inl ⟨by rfl, ?_⟩) (by assumption) ?_
    rotate_left
    · (intro w hSw; (try dsimp only at hSw); go_simp); (try with_reducible rfl)
    simp only [List.getElem_toArray, List.getElem_cons_zero, List.getElem_cons_succ, Act.put, List.setIfInBounds_toArray, List.set_cons_zero, List.set_cons_succ]
    refine wpAnyH_ready (rs := [2]) (by as_aux_lemma => kernel_rfl) (by simp) ?_
    refine AllReadyH.cons rfl (fun K hK => ?_) AllReadyH.nil
    go_simp
    refine (HPA.out _ _ (cell_ext Bq (Ext.refl W3).drew)).mono ?_
    rintro _ u1 ⟨rfl, eu1⟩
    have F1 : Ext W3 u1 := (Ext.refl W3).drew.trans eu1
    refine hK.out _ _ ⟨b2 (Ba2.ext F1), b2 (Bb2.ext F1), cell_ext Bq F1⟩ (fun hHeld => ?_)
    clear hK K eu1
    refine wpAnyH_ready (rs := [5]) (by as_aux_lemma => kernel_rfl) (by simp) ?_
    refine AllReadyH.cons rfl (fun K hK => ?_) AllReadyH.nil
    go_simp
    refine (HPB.out _ _ (cell_ext Bq F1)).mono ?_
    rintro _ u2 ⟨rfl, eu2⟩
    have F2 : Ext W3 u2 := F1.trans eu2
    refine hK.out _ _ ⟨b2 (Ba2.ext F2), b2 (Bb2.ext F2), cell_ext Bq F2⟩ (fun hHeld => ?_)
    clear hK K eu2 F1
    refine wpAnyH_take (i := 6) (v := ?_) rfl (by as_aux_lemma => kernel_rfl) (by as_aux_lemma => kernel_rfl) (by as_aux_lemma => kernel_rfl) (fun _ _ _ h => h) (Or.inl ⟨by rfl, ?_⟩) (by assumption) ?_
    rotate_left
    · (intro w hSw; (try dsimp only at hSw); go_simp); (try with_reducible rfl)
    simp only [List.getElem_toArray, List.getElem_cons_zero, List.getElem_cons_succ, Act.put, List.setIfInBounds_toArray, List.set_cons_zero, List.set_cons_succ]
    refine wpAnyH_ready (rs := [8]) (by as_aux_lemma => kernel_rfl) (by simp) ?_
    refine AllReadyH.cons rfl (fun K hK => ?_) AllReadyH.nil
    go_simp
    refine (HC.out _ (T.out.ext (E.trans F2))).mono ?_
    rintro _ u3 ⟨rfl, eu3⟩
    have F3 : Ext W3 u3 := F2.trans eu3
    refine hK.out _ _ ⟨b2 (Ba2.ext F3), b2 (Bb2.ext F3), cell_ext Bq F3⟩ (fun hHeld => ?_)
    clear hK K eu3 F2
    have Zr := Z.ext F3
    have Zr_c0 := Zr.c0
    have Zr_c1 := Zr.c1
    have Zr_f0 := Zr.f 0
    have Zr_f1 := Zr.f 1
    refine wpAnyH_ready (rs := [9]) (by as_aux_lemma => kernel_rfl) (by simp) ?_
    refine AllReadyH.cons rfl (fun K hK => ?_) AllReadyH.nil
    go_simp
    refine hK.out _ _ ⟨b2 (B2.off (Ba2.ext F3) (show (w.heap.size : Nat) ≠ w.heap.size + 1 + 1 by omega)), b2 (B2.off (Bb2.ext F3) (show (w.heap.size + 1 : Nat) ≠ w.heap.size + 1 + 1 by omega)), cell_off (cell_ext Bq F3) hq⟩ (fun hHeld => ?_)
    clear hK K
    refine wpAnyH_done (by as_aux_lemma => kernel_rfl) ?_ _
    go_wp2
    obtain ⟨k0, k1, hD⟩ := Zr.done (E.trans F3) (by omega)
    exact bodyPost_ret (by simp [results, Tryz.results52, go_sem, k0, k1]) rfl ⟨rfl, hD⟩
set_option maxRecDepth 4000 in
set_option maxHeartbeats 1000000 in
theorem tadd_ge (w : World) (T : Tb w) (Ka Kb ka kb k : Int) (Qa Qb qa qb q : Nat) (hKa : -1099511627776 ≤ Ka ∧ Ka ≤ 1099511627776) (hKb : -1099511627776 ≤ Kb ∧ Kb ≤ 1099511627776) (hQa : Qa ≤ 40) (hQb : Qb ≤ 40) (ha : Fm (tv Ka Qa) ka qa) (hb : Fm (tv Kb Qb) kb qb) (h : Fm ((tv Ka Qa + tv Kb Qb) % 1099511627776) k q) (hle : ¬ qa < qb) :
    Calls Tryz.prog 52 #[.agg #[.int .i64 Ka, .int .i64 Qa], .agg #[.int .i64 Kb, .int .i64 Qb]] w (RetE w (.agg #[.int .i64 k, .int .i64 q])) := by
  obtain ⟨la0, la1, la2, la3⟩ := ha.low
  obtain ⟨lb0, lb1, lb2, lb3⟩ := hb.low
  have pa := parts_range ha (show qa ≤ qa by omega) (by omega)
  have pb := parts_range hb (show qb ≤ qa by omega) (by omega)
  have va := fm_parts ha (show qa ≤ qa by omega) (by omega)
  have vb := fm_parts hb (show qb ≤ qa by omega) (by omega)
  have hl := p2_le (show qa ≤ 40 by omega)
  rw [p2_40] at hl
  have HA := Lib.hid (fun w' T' => tform_any w' T' Ka ka Qa qa hKa hQa ha)
  have HB := Lib.hid (fun w' T' => tform_any w' T' Kb kb Qb qb hKb hQb hb)
  obtain ⟨A, hA⟩ : ∃ A, ka * 2 ^ (qa - qa) = A := ⟨_, rfl⟩
  obtain ⟨B, hB⟩ : ∃ B, kb * 2 ^ (qa - qb) = B := ⟨_, rfl⟩
  have HPA := Lib.hid (fun w' g hg => tpart_any w' g ka (qa : Int) A qa (qa - qa) hg (by omega) (by omega) ⟨la0, la1⟩ hA)
  have HPB := Lib.hid (fun w' g hg => tpart_any w' g kb (qa : Int) B qb (qa - qb) hg (by omega) (by omega) ⟨lb0, lb1⟩ hB)
  rw [hA] at pa va
  rw [hB] at pb vb
  have ht := tv_add va vb
  rw [← ht] at h
  have HC := Lib.hid (fun w' T' => treduced_any w' T' (A + B) k qa q (by omega) (by omega) h)
  have hw : IntKind.i64.wrap (A + B) = A + B := IntWalk.i64_in _ (by omega)
  have hw' : wrap64 (A + B) = A + B := by unfold wrap64; omega
  have hmx : max (qa : Int) (qb : Int) = (qa : Int) := by omega
  have h2 : ¬ (qa : Int) < (qb : Int) := by omega
  have h3 : decide ((qa : Int) < (qb : Int)) = false := decide_eq_false (by omega)
  clear hKa hKb hQa hQb ha hb h la0 la1 la2 la3 lb0 lb1 lb2 lb3 pa pb va vb hl ht hA hB
  replace T := Lib.hid T
  have hmf : ∀ (fn : Fn) (first cap : Array Value) (w : World), (Instr.makeFunc fn first cap).run Tryz.prog w = .ok (.func fn first cap) w := fun _ _ _ _ => rfl
  have hcall := callParts
  go_enter Tryz.func52, Tryz.ntmps52
  go_upto_region 1 with fail
  go_cut [] from 7 (fun wx => Ext w wx ∧ M2 wx w.heap.size (.int .i64 ka) (.int .i64 (qa : Int)) ∧ M2 wx (w.heap.size + 1) (.int .i64 kb) (.int .i64 (qb : Int)) ∧ Z2 wx (w.heap.size + 1 + 1))
  case first =>
    refine wp_region_held_drew (S := fun _ => True) (by as_aux_lemma => kernel_rfl) trivial (fun hHeld => ?_)
    have hd : Ext (((w.alloc (.cells #[.int .i64 Ka, .int .i64 (Qa : Int)] 23)).alloc (.cells #[.int .i64 Kb, .int .i64 (Qb : Int)] 23)).alloc (.cells #[.int .i64 0, .int .i64 0] 23)) (World.drew (((w.alloc (.cells #[.int .i64 Ka, .int .i64 (Qa : Int)] 23)).alloc (.cells #[.int .i64 Kb, .int .i64 (Qb : Int)] 23)).alloc (.cells #[.int .i64 0, .int .i64 0] 23))) := (Ext.refl _).drew
    generalize hgen : World.drew (((w.alloc (.cells #[.int .i64 Ka, .int .i64 (Qa : Int)] 23)).alloc (.cells #[.int .i64 Kb, .int .i64 (Qb : Int)] 23)).alloc (.cells #[.int .i64 0, .int .i64 0] 23)) = W1 at hd ⊢
    clear hgen
    have Ba_n : M2 W1 (w.heap.size) (.int .i64 Ka) (.int .i64 (Qa : Int)) := (((M2.fresh (by simp)).ext ((Ext.refl _).alloc _)).ext ((Ext.refl _).alloc _)).ext hd
    have Bb_n : M2 W1 (w.heap.size + 1) (.int .i64 Kb) (.int .i64 (Qb : Int)) := ((M2.fresh (by simp)).ext ((Ext.refl _).alloc _)).ext hd
    have Z_n : Z2 W1 (w.heap.size + 1 + 1) := (Z2.fresh (by simp)).ext hd
    have E_n : Ext w W1 := ((((Ext.refl w).alloc _).alloc _).alloc _).trans hd
    clear hd
    have Ba := Ba_n
    clear Ba_n
    have Bb := Bb_n
    clear Bb_n
    have Z := Z_n
    clear Z_n
    have E := E_n
    clear E_n
    obtain ⟨Ba_0, Ba_1, Ba_f⟩ := id Ba
    have Ba_f0 := Ba_f 0
    have Ba_f1 := Ba_f 1
    clear Ba_f
    have Ba_l := World.block_lt_of_cell? _ _ Ba_0
    obtain ⟨Bb_0, Bb_1, Bb_f⟩ := id Bb
    have Bb_f0 := Bb_f 0
    have Bb_f1 := Bb_f 1
    clear Bb_f
    have Bb_l := World.block_lt_of_cell? _ _ Bb_0
    refine wpAnyH_ready (rs := [0, 2]) (by as_aux_lemma => kernel_rfl) (by simp) ?_
    refine AllReadyH.cons rfl (fun K hK => ?_) (AllReadyH.cons rfl (fun K hK => ?_) AllReadyH.nil)
    · go_simp
      refine hK.out _ _ trivial (fun hHeld => ?_)
      clear hK K
      refine wpAnyH_ready (rs := [1, 2]) (by as_aux_lemma => kernel_rfl) (by simp) ?_
      refine AllReadyH.cons rfl (fun K hK => ?_) (AllReadyH.cons rfl (fun K hK => ?_) AllReadyH.nil)
      · go_simp
        refine (HA.out _ (T.out.ext E)).mono ?_
        rintro _ w1 ⟨rfl, f1⟩
        clear Ba_0 Ba_1 Ba_f0 Ba_f1 Ba_l Bb_0 Bb_1 Bb_f0 Bb_f1 Bb_l
        have Ba_n : M2 w1 (w.heap.size) (.int .i64 Ka) (.int .i64 (Qa : Int)) := Ba.ext f1
        have Bb_n : M2 w1 (w.heap.size + 1) (.int .i64 Kb) (.int .i64 (Qb : Int)) := Bb.ext f1
        have Z_n : Z2 w1 (w.heap.size + 1 + 1) := Z.ext f1
        have E_n : Ext w w1 := E.trans f1
        clear f1 Ba Bb Z E
        have Ba := Ba_n
        clear Ba_n
        have Bb := Bb_n
        clear Bb_n
        have Z := Z_n
        clear Z_n
        have E := E_n
        clear E_n
        obtain ⟨Ba_0, Ba_1, Ba_f⟩ := id Ba
        have Ba_f0 := Ba_f 0
        have Ba_f1 := Ba_f 1
        clear Ba_f
        have Ba_l := World.block_lt_of_cell? _ _ Ba_0
        obtain ⟨Bb_0, Bb_1, Bb_f⟩ := id Bb
        have Bb_f0 := Bb_f 0
        have Bb_f1 := Bb_f 1
        clear Bb_f
        have Bb_l := World.block_lt_of_cell? _ _ Bb_0
        refine hK.out _ _ trivial (fun hHeld => ?_)
        clear hK K
        refine wpAnyH_ready (rs := [2]) (by as_aux_lemma => kernel_rfl) (by simp) ?_
        refine AllReadyH.cons rfl (fun K hK => ?_) AllReadyH.nil
        go_simp
        refine hK.out _ _ trivial (fun hHeld => ?_)
        clear hK K
        refine wpAnyH_ready (rs := [3]) (by as_aux_lemma => kernel_rfl) (by simp) ?_
        refine AllReadyH.cons rfl (fun K hK => ?_) AllReadyH.nil
        go_simp
        refine (HB.out _ (T.out.ext E)).mono ?_
        rintro _ w2 ⟨rfl, f2⟩
        clear Ba_0 Ba_1 Ba_f0 Ba_f1 Ba_l Bb_0 Bb_1 Bb_f0 Bb_f1 Bb_l
        have Ba_n : M2 w2 (w.heap.size) (.int .i64 Ka) (.int .i64 (Qa : Int)) := Ba.ext f2
        have Bb_n : M2 w2 (w.heap.size + 1) (.int .i64 Kb) (.int .i64 (Qb : Int)) := Bb.ext f2
        have Z_n : Z2 w2 (w.heap.size + 1 + 1) := Z.ext f2
        have E_n : Ext w w2 := E.trans f2
        clear f2 Ba Bb Z E
        have Ba := Ba_n
        clear Ba_n
        have Bb := Bb_n
        clear Bb_n
        have Z := Z_n
        clear Z_n
        have E := E_n
        clear E_n
        obtain ⟨Ba_0, Ba_1, Ba_f⟩ := id Ba
        have Ba_f0 := Ba_f 0
        have Ba_f1 := Ba_f 1
        clear Ba_f
        have Ba_l := World.block_lt_of_cell? _ _ Ba_0
        obtain ⟨Bb_0, Bb_1, Bb_f⟩ := id Bb
        have Bb_f0 := Bb_f 0
        have Bb_f1 := Bb_f 1
        clear Bb_f
        have Bb_l := World.block_lt_of_cell? _ _ Bb_0
        refine hK.out _ _ trivial (fun hHeld => ?_)
        clear hK K
        refine wpAnyH_ready (rs := [4]) (by as_aux_lemma => kernel_rfl) (by simp) ?_
        refine AllReadyH.cons rfl (fun K hK => ?_) AllReadyH.nil
        go_simp
        refine hK.out _ _ trivial (fun hHeld => ?_)
        clear hK K
        refine wpAnyH_ready (rs := [5]) (by as_aux_lemma => kernel_rfl) (by simp) ?_
        refine AllReadyH.cons rfl (fun K hK => ?_) AllReadyH.nil
        go_simp
        refine hK.out _ _ trivial (fun hHeld => ?_)
        clear hK K
        refine wpAnyH_done (by as_aux_lemma => kernel_rfl) ?_ _
        go_wp2_with fail
        go_meet
        case rel =>
          exact ⟨((((E.setCell (show w.heap.size ≤ w.heap.size by omega) _).setCell (show w.heap.size ≤ w.heap.size by omega) _).setCell (show w.heap.size ≤ w.heap.size + 1 by omega) _).setCell (show w.heap.size ≤ w.heap.size + 1 by omega) _), ((Ba.store).off (show (w.heap.size : Nat) ≠ w.heap.size + 1 by omega)), ((Bb.off (show (w.heap.size + 1 : Nat) ≠ w.heap.size by omega)).store), ((Z.off (show (w.heap.size + 1 + 1 : Nat) ≠ w.heap.size by omega)).off (show (w.heap.size + 1 + 1 : Nat) ≠ w.heap.size + 1 by omega))⟩
      · go_simp
        refine hK.out _ _ trivial (fun hHeld => ?_)
        clear hK K
        refine wpAnyH_ready (rs := [1]) (by as_aux_lemma => kernel_rfl) (by simp) ?_
        refine AllReadyH.cons rfl (fun K hK => ?_) AllReadyH.nil
        go_simp
        refine (HA.out _ (T.out.ext E)).mono ?_
        rintro _ w1 ⟨rfl, f1⟩
        clear Ba_0 Ba_1 Ba_f0 Ba_f1 Ba_l Bb_0 Bb_1 Bb_f0 Bb_f1 Bb_l
        have Ba_n : M2 w1 (w.heap.size) (.int .i64 Ka) (.int .i64 (Qa : Int)) := Ba.ext f1
        have Bb_n : M2 w1 (w.heap.size + 1) (.int .i64 Kb) (.int .i64 (Qb : Int)) := Bb.ext f1
        have Z_n : Z2 w1 (w.heap.size + 1 + 1) := Z.ext f1
        have E_n : Ext w w1 := E.trans f1
        clear f1 Ba Bb Z E
        have Ba := Ba_n
        clear Ba_n
        have Bb := Bb_n
        clear Bb_n
        have Z := Z_n
        clear Z_n
        have E := E_n
        clear E_n
        obtain ⟨Ba_0, Ba_1, Ba_f⟩ := id Ba
        have Ba_f0 := Ba_f 0
        have Ba_f1 := Ba_f 1
        clear Ba_f
        have Ba_l := World.block_lt_of_cell? _ _ Ba_0
        obtain ⟨Bb_0, Bb_1, Bb_f⟩ := id Bb
        have Bb_f0 := Bb_f 0
        have Bb_f1 := Bb_f 1
        clear Bb_f
        have Bb_l := World.block_lt_of_cell? _ _ Bb_0
        refine hK.out _ _ trivial (fun hHeld => ?_)
        clear hK K
        refine wpAnyH_ready (rs := [3]) (by as_aux_lemma => kernel_rfl) (by simp) ?_
        refine AllReadyH.cons rfl (fun K hK => ?_) AllReadyH.nil
        go_simp
        refine (HB.out _ (T.out.ext E)).mono ?_
        rintro _ w2 ⟨rfl, f2⟩
        clear Ba_0 Ba_1 Ba_f0 Ba_f1 Ba_l Bb_0 Bb_1 Bb_f0 Bb_f1 Bb_l
        have Ba_n : M2 w2 (w.heap.size) (.int .i64 Ka) (.int .i64 (Qa : Int)) := Ba.ext f2
        have Bb_n : M2 w2 (w.heap.size + 1) (.int .i64 Kb) (.int .i64 (Qb : Int)) := Bb.ext f2
        have Z_n : Z2 w2 (w.heap.size + 1 + 1) := Z.ext f2
        have E_n : Ext w w2 := E.trans f2
        clear f2 Ba Bb Z E
        have Ba := Ba_n
        clear Ba_n
        have Bb := Bb_n
        clear Bb_n
        have Z := Z_n
        clear Z_n
        have E := E_n
        clear E_n
        obtain ⟨Ba_0, Ba_1, Ba_f⟩ := id Ba
        have Ba_f0 := Ba_f 0
        have Ba_f1 := Ba_f 1
        clear Ba_f
        have Ba_l := World.block_lt_of_cell? _ _ Ba_0
        obtain ⟨Bb_0, Bb_1, Bb_f⟩ := id Bb
        have Bb_f0 := Bb_f 0
        have Bb_f1 := Bb_f 1
        clear Bb_f
        have Bb_l := World.block_lt_of_cell? _ _ Bb_0
        refine hK.out _ _ trivial (fun hHeld => ?_)
        clear hK K
        refine wpAnyH_ready (rs := [4]) (by as_aux_lemma => kernel_rfl) (by simp) ?_
        refine AllReadyH.cons rfl (fun K hK => ?_) AllReadyH.nil
        go_simp
        refine hK.out _ _ trivial (fun hHeld => ?_)
        clear hK K
        refine wpAnyH_ready (rs := [5]) (by as_aux_lemma => kernel_rfl) (by simp) ?_
        refine AllReadyH.cons rfl (fun K hK => ?_) AllReadyH.nil
        go_simp
        refine hK.out _ _ trivial (fun hHeld => ?_)
        clear hK K
        refine wpAnyH_done (by as_aux_lemma => kernel_rfl) ?_ _
        go_wp2_with fail
        go_meet
        case rel =>
          exact ⟨((((E.setCell (show w.heap.size ≤ w.heap.size by omega) _).setCell (show w.heap.size ≤ w.heap.size by omega) _).setCell (show w.heap.size ≤ w.heap.size + 1 by omega) _).setCell (show w.heap.size ≤ w.heap.size + 1 by omega) _), ((Ba.store).off (show (w.heap.size : Nat) ≠ w.heap.size + 1 by omega)), ((Bb.off (show (w.heap.size + 1 : Nat) ≠ w.heap.size by omega)).store), ((Z.off (show (w.heap.size + 1 + 1 : Nat) ≠ w.heap.size by omega)).off (show (w.heap.size + 1 + 1 : Nat) ≠ w.heap.size + 1 by omega))⟩
    · go_simp
      refine hK.out _ _ trivial (fun hHeld => ?_)
      clear hK K
      refine wpAnyH_ready (rs := [0]) (by as_aux_lemma => kernel_rfl) (by simp) ?_
      refine AllReadyH.cons rfl (fun K hK => ?_) AllReadyH.nil
      go_simp
      refine hK.out _ _ trivial (fun hHeld => ?_)
      clear hK K
      refine wpAnyH_ready (rs := [1]) (by as_aux_lemma => kernel_rfl) (by simp) ?_
      refine AllReadyH.cons rfl (fun K hK => ?_) AllReadyH.nil
      go_simp
      refine (HA.out _ (T.out.ext E)).mono ?_
      rintro _ w1 ⟨rfl, f1⟩
      clear Ba_0 Ba_1 Ba_f0 Ba_f1 Ba_l Bb_0 Bb_1 Bb_f0 Bb_f1 Bb_l
      have Ba_n : M2 w1 (w.heap.size) (.int .i64 Ka) (.int .i64 (Qa : Int)) := Ba.ext f1
      have Bb_n : M2 w1 (w.heap.size + 1) (.int .i64 Kb) (.int .i64 (Qb : Int)) := Bb.ext f1
      have Z_n : Z2 w1 (w.heap.size + 1 + 1) := Z.ext f1
      have E_n : Ext w w1 := E.trans f1
      clear f1 Ba Bb Z E
      have Ba := Ba_n
      clear Ba_n
      have Bb := Bb_n
      clear Bb_n
      have Z := Z_n
      clear Z_n
      have E := E_n
      clear E_n
      obtain ⟨Ba_0, Ba_1, Ba_f⟩ := id Ba
      have Ba_f0 := Ba_f 0
      have Ba_f1 := Ba_f 1
      clear Ba_f
      have Ba_l := World.block_lt_of_cell? _ _ Ba_0
      obtain ⟨Bb_0, Bb_1, Bb_f⟩ := id Bb
      have Bb_f0 := Bb_f 0
      have Bb_f1 := Bb_f 1
      clear Bb_f
      have Bb_l := World.block_lt_of_cell? _ _ Bb_0
      refine hK.out _ _ trivial (fun hHeld => ?_)
      clear hK K
      refine wpAnyH_ready (rs := [3]) (by as_aux_lemma => kernel_rfl) (by simp) ?_
      refine AllReadyH.cons rfl (fun K hK => ?_) AllReadyH.nil
      go_simp
      refine (HB.out _ (T.out.ext E)).mono ?_
      rintro _ w2 ⟨rfl, f2⟩
      clear Ba_0 Ba_1 Ba_f0 Ba_f1 Ba_l Bb_0 Bb_1 Bb_f0 Bb_f1 Bb_l
      have Ba_n : M2 w2 (w.heap.size) (.int .i64 Ka) (.int .i64 (Qa : Int)) := Ba.ext f2
      have Bb_n : M2 w2 (w.heap.size + 1) (.int .i64 Kb) (.int .i64 (Qb : Int)) := Bb.ext f2
      have Z_n : Z2 w2 (w.heap.size + 1 + 1) := Z.ext f2
      have E_n : Ext w w2 := E.trans f2
      clear f2 Ba Bb Z E
      have Ba := Ba_n
      clear Ba_n
      have Bb := Bb_n
      clear Bb_n
      have Z := Z_n
      clear Z_n
      have E := E_n
      clear E_n
      obtain ⟨Ba_0, Ba_1, Ba_f⟩ := id Ba
      have Ba_f0 := Ba_f 0
      have Ba_f1 := Ba_f 1
      clear Ba_f
      have Ba_l := World.block_lt_of_cell? _ _ Ba_0
      obtain ⟨Bb_0, Bb_1, Bb_f⟩ := id Bb
      have Bb_f0 := Bb_f 0
      have Bb_f1 := Bb_f 1
      clear Bb_f
      have Bb_l := World.block_lt_of_cell? _ _ Bb_0
      refine hK.out _ _ trivial (fun hHeld => ?_)
      clear hK K
      refine wpAnyH_ready (rs := [4]) (by as_aux_lemma => kernel_rfl) (by simp) ?_
      refine AllReadyH.cons rfl (fun K hK => ?_) AllReadyH.nil
      go_simp
      refine hK.out _ _ trivial (fun hHeld => ?_)
      clear hK K
      refine wpAnyH_ready (rs := [5]) (by as_aux_lemma => kernel_rfl) (by simp) ?_
      refine AllReadyH.cons rfl (fun K hK => ?_) AllReadyH.nil
      go_simp
      refine hK.out _ _ trivial (fun hHeld => ?_)
      clear hK K
      refine wpAnyH_done (by as_aux_lemma => kernel_rfl) ?_ _
      go_wp2_with fail
      go_meet
      case rel =>
        exact ⟨((((E.setCell (show w.heap.size ≤ w.heap.size by omega) _).setCell (show w.heap.size ≤ w.heap.size by omega) _).setCell (show w.heap.size ≤ w.heap.size + 1 by omega) _).setCell (show w.heap.size ≤ w.heap.size + 1 by omega) _), ((Ba.store).off (show (w.heap.size : Nat) ≠ w.heap.size + 1 by omega)), ((Bb.off (show (w.heap.size + 1 : Nat) ≠ w.heap.size by omega)).store), ((Z.off (show (w.heap.size + 1 + 1 : Nat) ≠ w.heap.size by omega)).off (show (w.heap.size + 1 + 1 : Nat) ≠ w.heap.size + 1 by omega))⟩
  case rest =>
    obtain ⟨E, Ba, Bb, Z⟩ := hcut
    have hZl := World.block_lt_of_cell? _ _ Z.c0
    skip
    clear hcall
    obtain ⟨Ba_0, Ba_1, Ba_f⟩ := id Ba
    have Ba_f0 := Ba_f 0
    have Ba_f1 := Ba_f 1
    clear Ba_f
    have Ba_l := World.block_lt_of_cell? _ _ Ba_0
    obtain ⟨Bb_0, Bb_1, Bb_f⟩ := id Bb
    have Bb_f0 := Bb_f 0
    have Bb_f1 := Bb_f 1
    clear Bb_f
    have Bb_l := World.block_lt_of_cell? _ _ Bb_0
    go_upto_region 4 with fail
    have hcall := callParts
    have Bq : (wc.alloc (.cells #[.int .i64 (qa : Int)] 3)).cell? ⟨wc.heap.size, 0, none⟩ = some (.int .i64 (qa : Int)) := by rw [World.cell?_alloc_new]; rfl
    have eQ : Ext wc (wc.alloc (.cells #[.int .i64 (qa : Int)] 3)) := (Ext.refl _).alloc _
    clear Ba_0 Ba_1 Ba_f0 Ba_f1 Ba_l Bb_0 Bb_1 Bb_f0 Bb_f1 Bb_l
    have Ba2 := Ba.b2.ext eQ
    have Bb2 := Bb.b2.ext eQ
    replace Z := Z.ext eQ
    replace E := E.trans eQ
    have hq : (wc.heap.size : Nat) ≠ w.heap.size + 1 + 1 := by have := hZl; simp at this; omega
    clear Ba Bb eQ hZl
    generalize hgen : wc.alloc (.cells #[.int .i64 (qa : Int)] 3) = W3 at *
    clear hgen
    generalize hgq : wc.heap.size = gq at *
    clear hgq
    refine wp_region_held_drew (S := (fun w' => (w'.cell? ⟨w.heap.size, 0, none⟩ = some (.int .i64 ka) ∧ w'.cell? ⟨w.heap.size, 1, none⟩ = some (.int .i64 (qa : Int))) ∧ (w'.cell? ⟨w.heap.size + 1, 0, none⟩ = some (.int .i64 kb) ∧ w'.cell? ⟨w.heap.size + 1, 1, none⟩ = some (.int .i64 (qb : Int))) ∧ w'.cell? ⟨gq, 0, none⟩ = some (.int .i64 (qa : Int)))) (by as_aux_lemma => kernel_rfl) ⟨b2 (Ba2.ext (Ext.refl W3).drew), b2 (Bb2.ext (Ext.refl W3).drew), cell_ext Bq (Ext.refl W3).drew⟩ (fun hHeld => ?_)
    refine wpAnyH_take (i := 0) (v := ?_) rfl (by as_aux_lemma => kernel_rfl) (by as_aux_lemma => kernel_rfl) (by as_aux_lemma => kernel_rfl) (fun _ _ _ h => h) (Or.inl ⟨by rfl, ?_⟩) (by assumption) ?_
    rotate_left
    · (intro w hSw; (try dsimp only at hSw); go_simp); (try with_reducible rfl)
    simp only [List.getElem_toArray, List.getElem_cons_zero, Act.put, List.setIfInBounds_toArray, List.set_cons_zero, List.set_cons_succ]
    refine wpAnyH_take (i := 1) (v := ?_) rfl (by as_aux_lemma => kernel_rfl) (by as_aux_lemma => kernel_rfl) (by as_aux_lemma => kernel_rfl) (fun _ _ _ h => h) (Or.inl ⟨by rfl, ?_⟩) (by assumption) ?_
    rotate_left
    · (intro w hSw; (try dsimp only at hSw); go_simp); (try with_reducible rfl)
    simp only [List.getElem_toArray, List.getElem_cons_zero, List.getElem_cons_succ, Act.put, List.setIfInBounds_toArray, List.set_cons_zero, List.set_cons_succ]
    refine wpAnyH_take (i := 3) (v := ?_) rfl (by as_aux_lemma => kernel_rfl) (by as_aux_lemma => kernel_rfl) (by as_aux_lemma => kernel_rfl) (fun _ _ _ h => h) (Or.inl ⟨by rfl, ?_⟩) (by assumption) ?_
    rotate_left
    · (intro w hSw; (try dsimp only at hSw); go_simp); (try with_reducible rfl)
    simp only [List.getElem_toArray, List.getElem_cons_zero, List.getElem_cons_succ, Act.put, List.setIfInBounds_toArray, List.set_cons_zero, List.set_cons_succ]
    refine wpAnyH_take (i := 4) (v := ?_) rfl (by as_aux_lemma => kernel_rfl) (by as_aux_lemma => kernel_rfl) (by as_aux_lemma => kernel_rfl) (fun _ _ _ h => h) (Or.inl ⟨by rfl, ?_⟩) (by assumption) ?_
    rotate_left
    · (intro w hSw; (try dsimp only at hSw); go_simp); (try with_reducible rfl)
    simp only [List.getElem_toArray, List.getElem_cons_zero, List.getElem_cons_succ, Act.put, List.setIfInBounds_toArray, List.set_cons_zero, List.set_cons_succ]
    refine wpAnyH_take (i := 7) (v := ?_) rfl (by as_aux_lemma => kernel_rfl) (by as_aux_lemma => kernel_rfl) (by as_aux_lemma => kernel_rfl) (fun _ _ _ h => h) (Or.inl ⟨by rfl, ?_⟩) (by assumption) ?_
    rotate_left
    · (intro w hSw; (try dsimp only at hSw); go_simp); (try with_reducible rfl)
    simp only [List.getElem_toArray, List.getElem_cons_zero, List.getElem_cons_succ, Act.put, List.setIfInBounds_toArray, List.set_cons_zero, List.set_cons_succ]
    refine wpAnyH_ready (rs := [2]) (by as_aux_lemma => kernel_rfl) (by simp) ?_
    refine AllReadyH.cons rfl (fun K hK => ?_) AllReadyH.nil
    go_simp
    refine (HPA.out _ _ (cell_ext Bq (Ext.refl W3).drew)).mono ?_
    rintro _ u1 ⟨rfl, eu1⟩
    have F1 : Ext W3 u1 := (Ext.refl W3).drew.trans eu1
    refine hK.out _ _ ⟨b2 (Ba2.ext F1), b2 (Bb2.ext F1), cell_ext Bq F1⟩ (fun hHeld => ?_)
    clear hK K eu1
    refine wpAnyH_ready (rs := [5]) (by as_aux_lemma => kernel_rfl) (by simp) ?_
    refine AllReadyH.cons rfl (fun K hK => ?_) AllReadyH.nil
    go_simp
    refine (HPB.out _ _ (cell_ext Bq F1)).mono ?_
    rintro _ u2 ⟨rfl, eu2⟩
    have F2 : Ext W3 u2 := F1.trans eu2
    refine hK.out _ _ ⟨b2 (Ba2.ext F2), b2 (Bb2.ext F2), cell_ext Bq F2⟩ (fun hHeld => ?_)
    clear hK K eu2 F1
    refine wpAnyH_take (i := 6) (v := ?_) rfl (by as_aux_lemma => kernel_rfl) (by as_aux_lemma => kernel_rfl) (by as_aux_lemma => kernel_rfl) (fun _ _ _ h => h) (Or.inl ⟨by rfl, ?_⟩) (by assumption) ?_
    rotate_left
    · (intro w hSw; (try dsimp only at hSw); go_simp); (try with_reducible rfl)
    simp only [List.getElem_toArray, List.getElem_cons_zero, List.getElem_cons_succ, Act.put, List.setIfInBounds_toArray, List.set_cons_zero, List.set_cons_succ]
    refine wpAnyH_ready (rs := [8]) (by as_aux_lemma => kernel_rfl) (by simp) ?_
    refine AllReadyH.cons rfl (fun K hK => ?_) AllReadyH.nil
    go_simp
    refine (HC.out _ (T.out.ext (E.trans F2))).mono ?_
    rintro _ u3 ⟨rfl, eu3⟩
    have F3 : Ext W3 u3 := F2.trans eu3
    refine hK.out _ _ ⟨b2 (Ba2.ext F3), b2 (Bb2.ext F3), cell_ext Bq F3⟩ (fun hHeld => ?_)
    clear hK K eu3 F2
    have Zr := Z.ext F3
    have Zr_c0 := Zr.c0
    have Zr_c1 := Zr.c1
    have Zr_f0 := Zr.f 0
    have Zr_f1 := Zr.f 1
    refine wpAnyH_ready (rs := [9]) (by as_aux_lemma => kernel_rfl) (by simp) ?_
    refine AllReadyH.cons rfl (fun K hK => ?_) AllReadyH.nil
    go_simp
    refine hK.out _ _ ⟨b2 (B2.off (Ba2.ext F3) (show (w.heap.size : Nat) ≠ w.heap.size + 1 + 1 by omega)), b2 (B2.off (Bb2.ext F3) (show (w.heap.size + 1 : Nat) ≠ w.heap.size + 1 + 1 by omega)), cell_off (cell_ext Bq F3) hq⟩ (fun hHeld => ?_)
    clear hK K
    refine wpAnyH_done (by as_aux_lemma => kernel_rfl) ?_ _
    go_wp2
    obtain ⟨k0, k1, hD⟩ := Zr.done (E.trans F3) (by omega)
    exact bodyPost_ret (by simp [results, Tryz.results52, go_sem, k0, k1]) rfl ⟨rfl, hD⟩
theorem tadd_any (w : World) (T : Tb w) (Ka Kb k : Int) (Qa Qb q : Nat) (hKa : -1099511627776 ≤ Ka ∧ Ka ≤ 1099511627776) (hKb : -1099511627776 ≤ Kb ∧ Kb ≤ 1099511627776) (hQa : Qa ≤ 40) (hQb : Qb ≤ 40) (h : Fm ((tv Ka Qa + tv Kb Qb) % 1099511627776) k q) :
    Calls Tryz.prog 52 #[.agg #[.int .i64 Ka, .int .i64 Qa], .agg #[.int .i64 Kb, .int .i64 Qb]] w (RetE w (.agg #[.int .i64 k, .int .i64 q])) := by
  obtain ⟨ka, qa, ha⟩ := fm_there (tv_range Ka Qa).1 (tv_range Ka Qa).2
  obtain ⟨kb, qb, hb⟩ := fm_there (tv_range Kb Qb).1 (tv_range Kb Qb).2
  by_cases hle : qa < qb
  · exact tadd_lt w T Ka Kb ka kb k Qa Qb qa qb q hKa hKb hQa hQb ha hb h hle
  · exact tadd_ge w T Ka Kb ka kb k Qa Qb qa qb q hKa hKb hQa hQb ha hb h hle
end Go.Proofs.YtomdbmjfehoodaaGreatDoor

/- Walks of package turn: measures and its closures. -/
namespace Go.Proofs.YtomdbmjfehoodaaGreatDoor
open Go.RowKit
set_option linter.unusedVariables false
set_option maxRecDepth 4000 in
set_option maxHeartbeats 1000000 in
theorem tmeas1_any (w : World) (T : Tb w) (g : Nat) (vq kq K k : Int) (qq Q q : Nat) (B : B2 w g (.int .i64 kq) (.int .i64 (qq : Int))) (hq : Fm vq kq qq) (hK : -1099511627776 ≤ K ∧ K ≤ 1099511627776) (hQ : Q ≤ 40) (h : Fm ((vq - tv K Q) % 1099511627776) k q) :
    Calls Tryz.prog 119 #[.agg #[.int .i64 K, .int .i64 Q], .pointer (some ⟨g, 0, none⟩)] w (RetE w (.agg #[.int .i64 k, .int .i64 q])) := by
  have hlq := hq.low
  have hle := p2_le hlq.2.2.1
  rw [p2_40] at hle
  have hgl := World.block_lt_of_cell? _ _ B.c0
  obtain ⟨kf, qf, hf⟩ : ∃ k q, Fm ((-tv K Q) % 1099511627776) k q := fm_there (by omega) (by omega)
  have hlf := hf.low
  have hlf2 := p2_le hlf.2.2.1
  rw [p2_40] at hlf2
  have HF := Lib.hid (fun w' T' => tflip_any w' T' K kf Q qf hK hQ hf)
  have HA := Lib.hid (fun w' T' => tadd_any w' T' kq kf k qq qf q (by omega) (by omega) hlq.2.2.1 hlf.2.2.1 (by rw [hq.tv, hf.tv, show (vq + -tv K Q % 1099511627776) % 1099511627776 = (vq - tv K Q) % 1099511627776 by omega]; exact h))
  clear hf hlf hlf2
  have hgl' : g < w.heap.size := hgl
  clear hq hlq hle h hK hQ hgl
  replace T := Lib.hid T
  go_enter Tryz.func119, Tryz.ntmps119
  go_upto_region 1 with fail
  generalize hW : ((w.alloc (.cells #[.int .i64 K, .int .i64 (Q : Int)] 23)).alloc (.cells #[.int .i64 0, .int .i64 0] 23)) = W0
  have B_n : B2 W0 (g) (.int .i64 kq) (.int .i64 (qq : Int)) := by rw [← hW]; exact ((B.ext ((Ext.refl _).alloc _)).ext ((Ext.refl _).alloc _))
  have Bt_n : B2 W0 (w.heap.size) (.int .i64 K) (.int .i64 (Q : Int)) := by rw [← hW]; exact ((B2.fresh (by simp)).ext ((Ext.refl _).alloc _))
  have Z_n : Z2 W0 (w.heap.size + 1) := by rw [← hW]; exact (Z2.fresh (by simp))
  have E_n : Ext w W0 := by rw [← hW]; exact (((Ext.refl w).alloc _).alloc _)
  clear hW B
  have B := B_n
  clear B_n
  have Bt := Bt_n
  clear Bt_n
  have Z := Z_n
  clear Z_n
  have E := E_n
  clear E_n
  refine wp_region_held_drew (S := (fun w' => (w'.cell? ⟨w.heap.size, 0, none⟩ = some (.int .i64 K) ∧ w'.cell? ⟨w.heap.size, 1, none⟩ = some (.int .i64 (Q : Int))) ∧ (w'.cell? ⟨g, 0, none⟩ = some (.int .i64 kq) ∧ w'.cell? ⟨g, 1, none⟩ = some (.int .i64 (qq : Int))))) (by as_aux_lemma => kernel_rfl) ⟨b2 (Bt.ext (Ext.refl W0).drew), b2 (B.ext (Ext.refl W0).drew)⟩ (fun hHeld => ?_)
  refine wpAnyH_take (i := 0) (v := ?_) rfl (by as_aux_lemma => kernel_rfl) (by as_aux_lemma => kernel_rfl) (by as_aux_lemma => kernel_rfl) (fun _ _ _ h => h) (Or.inl ⟨by rfl, ?_⟩) (by assumption) ?_
  rotate_left
  · (intro w hSw; (try dsimp only at hSw); go_simp); (try with_reducible rfl)
  simp only [List.getElem_toArray, List.getElem_cons_zero, Act.put, List.setIfInBounds_toArray, List.set_cons_zero, List.set_cons_succ]
  refine wpAnyH_take (i := 1) (v := ?_) rfl (by as_aux_lemma => kernel_rfl) (by as_aux_lemma => kernel_rfl) (by as_aux_lemma => kernel_rfl) (fun _ _ _ h => h) (Or.inl ⟨by rfl, ?_⟩) (by assumption) ?_
  rotate_left
  · (intro w hSw; (try dsimp only at hSw); go_simp); (try with_reducible rfl)
  simp only [List.getElem_toArray, List.getElem_cons_zero, List.getElem_cons_succ, Act.put, List.setIfInBounds_toArray, List.set_cons_zero, List.set_cons_succ]
  refine wpAnyH_ready (rs := [2]) (by as_aux_lemma => kernel_rfl) (by simp) ?_
  refine AllReadyH.cons rfl (fun K hK => ?_) AllReadyH.nil
  go_simp
  refine (HF.out _ (T.out.ext (E.trans (Ext.refl W0).drew))).mono ?_
  rintro _ u1 ⟨rfl, eu1⟩
  have Fu1 : Ext W0 u1 := (Ext.refl W0).drew.trans eu1
  refine hK.out _ _ ⟨b2 (Bt.ext Fu1), b2 (B.ext Fu1)⟩ (fun hHeld => ?_)
  clear hK K eu1
  refine wpAnyH_ready (rs := [3]) (by as_aux_lemma => kernel_rfl) (by simp) ?_
  refine AllReadyH.cons rfl (fun K hK => ?_) AllReadyH.nil
  go_simp
  refine (HA.out _ (T.out.ext (E.trans Fu1))).mono ?_
  rintro _ u2 ⟨rfl, eu2⟩
  have Fu2 : Ext W0 u2 := Fu1.trans eu2
  refine hK.out _ _ ⟨b2 (Bt.ext Fu2), b2 (B.ext Fu2)⟩ (fun hHeld => ?_)
  clear hK K eu2 Fu1
  have Zr := Z.ext Fu2
  have Zr_c0 := Zr.c0
  have Zr_c1 := Zr.c1
  have Zr_f0 := Zr.f 0
  have Zr_f1 := Zr.f 1
  refine wpAnyH_ready (rs := [4]) (by as_aux_lemma => kernel_rfl) (by simp) ?_
  refine AllReadyH.cons rfl (fun K hK => ?_) AllReadyH.nil
  go_simp
  refine hK.out _ _ ⟨b2 (B2.off (Bt.ext Fu2) (show (w.heap.size : Nat) ≠ w.heap.size + 1 by omega)), b2 (B2.off (B.ext Fu2) (show (g : Nat) ≠ w.heap.size + 1 by omega))⟩ (fun hHeld => ?_)
  clear hK K
  refine wpAnyH_done (by as_aux_lemma => kernel_rfl) ?_ _
  go_wp2
  obtain ⟨k0, k1, hD⟩ := Zr.done (E.trans Fu2) (by omega)
  exact bodyPost_ret (by simp [results, Tryz.results119, go_sem, k0, k1]) rfl ⟨rfl, hD⟩
set_option maxRecDepth 4000 in
set_option maxHeartbeats 1000000 in
theorem tmeas2_any (w : World) (T : Tb w) (g : Nat) (vq kq K k : Int) (qq Q q : Nat) (B : B2 w g (.int .i64 kq) (.int .i64 (qq : Int))) (hq : Fm vq kq qq) (hK : -1099511627776 ≤ K ∧ K ≤ 1099511627776) (hQ : Q ≤ 40) (h : Fm ((tv K Q - vq) % 1099511627776) k q) :
    Calls Tryz.prog 121 #[.agg #[.int .i64 K, .int .i64 Q], .pointer (some ⟨g, 0, none⟩)] w (RetE w (.agg #[.int .i64 k, .int .i64 q])) := by
  have hlq := hq.low
  have hle := p2_le hlq.2.2.1
  rw [p2_40] at hle
  have hgl := World.block_lt_of_cell? _ _ B.c0
  have hvq := hq.tv
  obtain ⟨kf, qf, hf⟩ : ∃ k q, Fm ((-tv kq qq) % 1099511627776) k q := fm_there (by omega) (by omega)
  have hlf := hf.low
  have hlf2 := p2_le hlf.2.2.1
  rw [p2_40] at hlf2
  have HF := Lib.hid (fun w' T' => tflip_any w' T' kq kf qq qf (by omega) hlq.2.2.1 hf)
  have HA := Lib.hid (fun w' T' => tadd_any w' T' K kf k Q qf q (by omega) (by omega) hQ hlf.2.2.1 (by rw [hf.tv, hvq, show (tv K Q + -vq % 1099511627776) % 1099511627776 = (tv K Q - vq) % 1099511627776 by omega]; exact h))
  clear hf hlf hlf2 hvq
  have hgl' : g < w.heap.size := hgl
  clear hq hlq hle h hK hQ hgl
  replace T := Lib.hid T
  go_enter Tryz.func121, Tryz.ntmps121
  go_upto_region 1 with fail
  generalize hW : ((w.alloc (.cells #[.int .i64 K, .int .i64 (Q : Int)] 23)).alloc (.cells #[.int .i64 0, .int .i64 0] 23)) = W0
  have B_n : B2 W0 (g) (.int .i64 kq) (.int .i64 (qq : Int)) := by rw [← hW]; exact ((B.ext ((Ext.refl _).alloc _)).ext ((Ext.refl _).alloc _))
  have Bt_n : B2 W0 (w.heap.size) (.int .i64 K) (.int .i64 (Q : Int)) := by rw [← hW]; exact ((B2.fresh (by simp)).ext ((Ext.refl _).alloc _))
  have Z_n : Z2 W0 (w.heap.size + 1) := by rw [← hW]; exact (Z2.fresh (by simp))
  have E_n : Ext w W0 := by rw [← hW]; exact (((Ext.refl w).alloc _).alloc _)
  clear hW B
  have B := B_n
  clear B_n
  have Bt := Bt_n
  clear Bt_n
  have Z := Z_n
  clear Z_n
  have E := E_n
  clear E_n
  refine wp_region_held_drew (S := (fun w' => (w'.cell? ⟨w.heap.size, 0, none⟩ = some (.int .i64 K) ∧ w'.cell? ⟨w.heap.size, 1, none⟩ = some (.int .i64 (Q : Int))) ∧ (w'.cell? ⟨g, 0, none⟩ = some (.int .i64 kq) ∧ w'.cell? ⟨g, 1, none⟩ = some (.int .i64 (qq : Int))))) (by as_aux_lemma => kernel_rfl) ⟨b2 (Bt.ext (Ext.refl W0).drew), b2 (B.ext (Ext.refl W0).drew)⟩ (fun hHeld => ?_)
  refine wpAnyH_take (i := 0) (v := ?_) rfl (by as_aux_lemma => kernel_rfl) (by as_aux_lemma => kernel_rfl) (by as_aux_lemma => kernel_rfl) (fun _ _ _ h => h) (Or.inl ⟨by rfl, ?_⟩) (by assumption) ?_
  rotate_left
  · (intro w hSw; (try dsimp only at hSw); go_simp); (try with_reducible rfl)
  simp only [List.getElem_toArray, List.getElem_cons_zero, Act.put, List.setIfInBounds_toArray, List.set_cons_zero, List.set_cons_succ]
  refine wpAnyH_take (i := 1) (v := ?_) rfl (by as_aux_lemma => kernel_rfl) (by as_aux_lemma => kernel_rfl) (by as_aux_lemma => kernel_rfl) (fun _ _ _ h => h) (Or.inl ⟨by rfl, ?_⟩) (by assumption) ?_
  rotate_left
  · (intro w hSw; (try dsimp only at hSw); go_simp); (try with_reducible rfl)
  simp only [List.getElem_toArray, List.getElem_cons_zero, List.getElem_cons_succ, Act.put, List.setIfInBounds_toArray, List.set_cons_zero, List.set_cons_succ]
  refine wpAnyH_ready (rs := [2]) (by as_aux_lemma => kernel_rfl) (by simp) ?_
  refine AllReadyH.cons rfl (fun K hK => ?_) AllReadyH.nil
  go_simp
  refine (HF.out _ (T.out.ext (E.trans (Ext.refl W0).drew))).mono ?_
  rintro _ u1 ⟨rfl, eu1⟩
  have Fu1 : Ext W0 u1 := (Ext.refl W0).drew.trans eu1
  refine hK.out _ _ ⟨b2 (Bt.ext Fu1), b2 (B.ext Fu1)⟩ (fun hHeld => ?_)
  clear hK K eu1
  refine wpAnyH_ready (rs := [3]) (by as_aux_lemma => kernel_rfl) (by simp) ?_
  refine AllReadyH.cons rfl (fun K hK => ?_) AllReadyH.nil
  go_simp
  refine (HA.out _ (T.out.ext (E.trans Fu1))).mono ?_
  rintro _ u2 ⟨rfl, eu2⟩
  have Fu2 : Ext W0 u2 := Fu1.trans eu2
  refine hK.out _ _ ⟨b2 (Bt.ext Fu2), b2 (B.ext Fu2)⟩ (fun hHeld => ?_)
  clear hK K eu2 Fu1
  have Zr := Z.ext Fu2
  have Zr_c0 := Zr.c0
  have Zr_c1 := Zr.c1
  have Zr_f0 := Zr.f 0
  have Zr_f1 := Zr.f 1
  refine wpAnyH_ready (rs := [4]) (by as_aux_lemma => kernel_rfl) (by simp) ?_
  refine AllReadyH.cons rfl (fun K hK => ?_) AllReadyH.nil
  go_simp
  refine hK.out _ _ ⟨b2 (B2.off (Bt.ext Fu2) (show (w.heap.size : Nat) ≠ w.heap.size + 1 by omega)), b2 (B2.off (B.ext Fu2) (show (g : Nat) ≠ w.heap.size + 1 by omega))⟩ (fun hHeld => ?_)
  clear hK K
  refine wpAnyH_done (by as_aux_lemma => kernel_rfl) ?_ _
  go_wp2
  obtain ⟨k0, k1, hD⟩ := Zr.done (E.trans Fu2) (by omega)
  exact bodyPost_ret (by simp [results, Tryz.results121, go_sem, k0, k1]) rfl ⟨rfl, hD⟩
set_option maxRecDepth 4000 in
set_option maxHeartbeats 1000000 in
theorem tmeas3_any (w : World) (T : Tb w) (g : Nat) (vq kq K k : Int) (qq Q q : Nat) (B : B2 w g (.int .i64 kq) (.int .i64 (qq : Int))) (hq : Fm vq kq qq) (hK : -1099511627776 ≤ K ∧ K ≤ 1099511627776) (hQ : Q ≤ 40) (h : Fm ((tv K Q + vq) % 1099511627776) k q) :
    Calls Tryz.prog 122 #[.agg #[.int .i64 K, .int .i64 Q], .pointer (some ⟨g, 0, none⟩)] w (RetE w (.agg #[.int .i64 k, .int .i64 q])) := by
  have hlq := hq.low
  have hle := p2_le hlq.2.2.1
  rw [p2_40] at hle
  have hgl := World.block_lt_of_cell? _ _ B.c0
  have HA := Lib.hid (fun w' T' => tadd_any w' T' K kq k Q qq q (by omega) (by omega) hQ hlq.2.2.1 (by rw [hq.tv]; exact h))
  have hgl' : g < w.heap.size := hgl
  clear hq hlq hle h hK hQ hgl
  replace T := Lib.hid T
  go_enter Tryz.func122, Tryz.ntmps122
  obtain ⟨B_0, B_1⟩ := id B
  have B_l := World.block_lt_of_cell? _ _ B_0
  go_wp2_with fail
  refine (HA.out _ (T.out.ext (((Ext.refl w).alloc _).alloc _))).mono ?_
  rintro _ w1 ⟨rfl, f1⟩
  clear B_0 B_1 B_l
  have B_n : B2 w1 (g) (.int .i64 kq) (.int .i64 (qq : Int)) := ((B.ext ((Ext.refl _).alloc _)).ext ((Ext.refl _).alloc _)).ext f1
  have Bt_n : B2 w1 (w.heap.size) (.int .i64 K) (.int .i64 (Q : Int)) := ((B2.fresh (by simp)).ext ((Ext.refl _).alloc _)).ext f1
  have Z_n : Z2 w1 (w.heap.size + 1) := (Z2.fresh (by simp)).ext f1
  have E_n : Ext w w1 := (((Ext.refl w).alloc _).alloc _).trans f1
  clear f1 B
  have B := B_n
  clear B_n
  have Bt := Bt_n
  clear Bt_n
  have Z := Z_n
  clear Z_n
  have E := E_n
  clear E_n
  have Z_c0 := Z.c0
  have Z_f0 := Z.f 0
  have Z_c1 := Z.c1
  have Z_f1 := Z.f 1
  have Z_l := World.block_lt_of_cell? _ _ Z_c0
  go_wp2
  obtain ⟨k0, k1, hD⟩ := Z.done E (by omega)
  exact bodyPost_ret (by simp [results, Tryz.results122, go_sem, k0, k1]) rfl ⟨rfl, hD⟩
/-- It returned the two closures over a quarter. -/
def RetM (w : World) (F G : Nat) (k : Int) (q : Nat) (e : Ending) (w' : World) : Prop :=
  ∃ g, e = .returned (.tuple #[.func (.func F) #[] #[.pointer (some ⟨g, 0, none⟩)], .func (.func G) #[] #[.pointer (some ⟨g, 0, none⟩)]]) ∧ B2 w' g (.int .i64 k) (.int .i64 (q : Int)) ∧ Ext w w'
set_option maxRecDepth 4000 in
set_option maxHeartbeats 1000000 in
theorem tmeas_odd (w : World) (T : Tb w) (e kq : Int) (qq : Nat) (he : 0 ≤ e ∧ e ≤ 7) (hp : e % 2 = 1) (h : Fm (tv ((e + 1) / 2) 2) kq qq) :
    Calls Tryz.prog 98 #[.int .i64 e] w (RetM w 119 119 kq qq) := by
  have hw1 : wrap64 (e + 1) = e + 1 := by unfold wrap64; omega
  have hw1' : IntKind.i64.wrap (e + 1) = e + 1 := IntWalk.i64_in _ (by omega)
  have hd : (e + 1).tdiv 2 = (e + 1) / 2 := Int.tdiv_eq_ediv_of_nonneg (by omega)
  have hw2 : wrap64 ((e + 1) / 2) = (e + 1) / 2 := by unfold wrap64; omega
  have ht : e.tmod 2 = 1 := by rw [Int.tmod_eq_emod_of_nonneg he.1]; exact hp
  have HC := Lib.hid (fun w' T' => treduced_any w' T' ((e + 1) / 2) kq 2 qq (by omega) (by omega) h)
  have hmf : ∀ (fn : Fn) (first cap : Array Value) (w : World), (Instr.makeFunc fn first cap).run Tryz.prog w = .ok (.func fn first cap) w := fun _ _ _ _ => rfl
  clear hp h he
  replace T := Lib.hid T
  go_enter Tryz.func98, Tryz.ntmps98
  go_wp2_with fail
  refine (HC.out _ (T.out.ext (Ext.refl w))).mono ?_
  rintro _ w1 ⟨rfl, f1⟩
  have E_n : Ext w w1 := (Ext.refl w).trans f1
  clear f1
  have E := E_n
  clear E_n
  go_wp2
  exact bodyPost_ret (by simp [results, Tryz.results98, go_sem]) rfl ⟨_, rfl, B2.fresh rfl, E.alloc _⟩
set_option maxRecDepth 4000 in
set_option maxHeartbeats 1000000 in
theorem tmeas_even (w : World) (T : Tb w) (e kq : Int) (qq : Nat) (he : 0 ≤ e ∧ e ≤ 7) (hp : e % 2 = 0) (h : Fm (tv ((e + 1) / 2) 2) kq qq) :
    Calls Tryz.prog 98 #[.int .i64 e] w (RetM w 121 122 kq qq) := by
  have hw1 : wrap64 (e + 1) = e + 1 := by unfold wrap64; omega
  have hw1' : IntKind.i64.wrap (e + 1) = e + 1 := IntWalk.i64_in _ (by omega)
  have hd : (e + 1).tdiv 2 = (e + 1) / 2 := Int.tdiv_eq_ediv_of_nonneg (by omega)
  have hw2 : wrap64 ((e + 1) / 2) = (e + 1) / 2 := by unfold wrap64; omega
  have ht : e.tmod 2 = 0 := by rw [Int.tmod_eq_emod_of_nonneg he.1]; exact hp
  have HC := Lib.hid (fun w' T' => treduced_any w' T' ((e + 1) / 2) kq 2 qq (by omega) (by omega) h)
  have hmf : ∀ (fn : Fn) (first cap : Array Value) (w : World), (Instr.makeFunc fn first cap).run Tryz.prog w = .ok (.func fn first cap) w := fun _ _ _ _ => rfl
  clear hp h he
  replace T := Lib.hid T
  go_enter Tryz.func98, Tryz.ntmps98
  go_wp2_with fail
  refine (HC.out _ (T.out.ext (Ext.refl w))).mono ?_
  rintro _ w1 ⟨rfl, f1⟩
  have E_n : Ext w w1 := (Ext.refl w).trans f1
  clear f1
  have E := E_n
  clear E_n
  go_wp2
  exact bodyPost_ret (by simp [results, Tryz.results98, go_sem]) rfl ⟨_, rfl, B2.fresh rfl, E.alloc _⟩
end Go.Proofs.YtomdbmjfehoodaaGreatDoor

/- Walks of package turn: Split, Join, Place. -/
namespace Go.Proofs.YtomdbmjfehoodaaGreatDoor
open Go.RowKit
set_option linter.unusedVariables false
theorem B3.fresh {w : World} {x y z : Value} {t : TypeId} {g : Nat} (hg : w.heap.size = g) : B3 (w.alloc (.cells #[x, y, z] t)) g x y z := B3.at (Ext.refl _) hg
theorem Z3.fresh {w : World} {t : TypeId} {g : Nat} (hg : w.heap.size = g) : Z3 (w.alloc (.cells #[.int .i64 0, .int .i64 0, .int .i64 0] t)) g := Z3.at (Ext.refl _) hg
theorem Z3.off {w : World} {g g' : Nat} {a b : Value} (h : Z3 w g) (hg : g ≠ g') : Z3 ((w.setCell ⟨g', 0, none⟩ a).setCell ⟨g', 1, none⟩ b) g := by
  have o : ∀ j, ((w.setCell ⟨g', 0, none⟩ a).setCell ⟨g', 1, none⟩ b).cell? ⟨g, j, none⟩ = w.cell? ⟨g, j, none⟩ := fun j => by
    rw [World.cell?_setCell_other _ _ _ _ (fun e => hg (by injection e with e; exact e.symm)), World.cell?_setCell_other _ _ _ _ (fun e => hg (by injection e with e; exact e.symm))]
  exact ⟨(o 0).trans h.c0, (o 1).trans h.c1, (o 2).trans h.c2, fun j => by simp only [World.frozen?_setCell]; exact h.f j⟩
theorem call1 : ∀ (x : Array Value) (W : World), (callFunc 119 x).run Tryz.prog W = .ok (.enter 119 x) W := fun _ _ => by kernel_rfl
theorem call2 : ∀ (x : Array Value) (W : World), (callFunc 121 x).run Tryz.prog W = .ok (.enter 121 x) W := fun _ _ => by kernel_rfl
theorem call3 : ∀ (x : Array Value) (W : World), (callFunc 122 x).run Tryz.prog W = .ok (.enter 122 x) W := fun _ _ => by kernel_rfl
theorem eighth_form {v k : Int} {q : Nat} (h : Fm v k q) : 8 * k / 2 ^ q = eighth v := by
  obtain ⟨h1, h2, h3, h4⟩ := h.low
  have hs := p2_split h3
  unfold eighth
  have e : 8 * k / 2 ^ q = 8 * k * 2 ^ (40 - q) / (2 ^ q * 2 ^ (40 - q)) := (Int.mul_ediv_mul_of_pos_left _ _ (p2_pos _)).symm
  rw [e, hs, Int.mul_assoc, ← h4]
  omega
set_option maxRecDepth 4000 in
set_option maxHeartbeats 1000000 in
theorem tsplit_odd (w : World) (T : Tb w) (K k e : Int) (Q q : Nat) (hK : -1099511627776 ≤ K ∧ K ≤ 1099511627776) (hQ : Q ≤ 40) (he : eighth (tv K Q) = e) (hp : e % 2 = 1) (h : Fm (rest (tv K Q)) k q) :
    Calls Tryz.prog 76 #[.agg #[.int .i64 K, .int .i64 Q]] w (RetE w (.agg #[.int .i64 e, .int .i64 k, .int .i64 q])) := by
  obtain ⟨v0, v1⟩ := tv_range K Q
  obtain ⟨q0, q1, q2, q3⟩ := rest_range v0 v1
  obtain ⟨kf, qf, hf⟩ := fm_there v0 v1
  obtain ⟨kq, qq, hq⟩ := fm_there (tv_range ((e + 1) / 2) 2).1 (tv_range ((e + 1) / 2) 2).2
  have hvq : tv ((e + 1) / 2) 2 = (e + 1) / 2 * 274877906944 % 1099511627776 := rfl
  have hlf := hf.low
  have hl := p2_le hlf.2.2.1
  rw [p2_40] at hl
  have h8 := eighth_form hf
  have hrest : rest (tv K Q) = (e + 1) * 137438953472 - tv K Q := by unfold rest; rw [he]; exact if_neg (by omega)
  have HF := Lib.hid (fun w' T' => tform_any w' T' K kf Q qf hK hQ hf)
  rw [he] at q0 q1
  have hve := he
  unfold eighth at hve
  have HM := Lib.hid (fun w' T' => tmeas_odd w' T' e kq qq ⟨q0, q1⟩ hp hq)
  have HC := Lib.hid (fun w' T' g B => tmeas1_any w' T' g _ kq kf k qq qf q B hq (by omega) hlf.2.2.1 (by rw [hf.tv, hvq, show ((e + 1) / 2 * 274877906944 % 1099511627776 - tv K Q) % 1099511627776 = rest (tv K Q) by rw [hrest]; omega]; exact h))
  have hw8 : IntKind.i64.wrap (8 * kf) = 8 * kf := IntWalk.i64_in _ (by omega)
  have hw8' : wrap64 (8 * kf) = 8 * kf := by unfold wrap64; omega
  rw [he] at h8
  have hqf : (qf : Int) ≤ 40 := by omega
  have hwe : wrap64 e = e := by unfold wrap64; omega
  have hcall1 := call1
  have hcall2 := call2
  clear v0 v1 q0 q1 q2 q3 hf hq hvq hlf hl hrest hve hp h he hK hQ
  replace T := Lib.hid T
  go_enter Tryz.func76, Tryz.ntmps76
  go_wp2_with fail
  refine (HF.out _ (T.out.ext (((Ext.refl w).alloc _).alloc _))).mono ?_
  rintro _ w1 ⟨rfl, f1⟩
  have B_n : M2 w1 (w.heap.size) (.int .i64 K) (.int .i64 (Q : Int)) := ((M2.fresh (by simp)).ext ((Ext.refl _).alloc _)).ext f1
  have Z_n : Z3 w1 (w.heap.size + 1) := (Z3.fresh (by simp)).ext f1
  have E_n : Ext w w1 := (((Ext.refl w).alloc _).alloc _).trans f1
  clear f1
  have B := B_n
  clear B_n
  have Z := Z_n
  clear Z_n
  have E := E_n
  clear E_n
  obtain ⟨B_0, B_1, B_f⟩ := id B
  have B_f0 := B_f 0
  have B_f1 := B_f 1
  clear B_f
  have B_l := World.block_lt_of_cell? _ _ B_0
  go_wp2_with fail
  refine (HM.out _ (T.out.ext ((E.setCell (show w.heap.size ≤ w.heap.size by omega) _).setCell (show w.heap.size ≤ w.heap.size by omega) _))).mono ?_
  rintro _ w2 ⟨g, rfl, Bg, f2⟩
  clear B_0 B_1 B_f0 B_f1 B_l
  have B_n : M2 w2 (w.heap.size) (.int .i64 kf) (.int .i64 (qf : Int)) := (B.store).ext f2
  have Z_n : Z3 w2 (w.heap.size + 1) := (Z.off (show (w.heap.size + 1 : Nat) ≠ w.heap.size by omega)).ext f2
  have E_n : Ext w w2 := ((E.setCell (show w.heap.size ≤ w.heap.size by omega) _).setCell (show w.heap.size ≤ w.heap.size by omega) _).trans f2
  clear f2 B Z E
  have B := B_n
  clear B_n
  have Z := Z_n
  clear Z_n
  have E := E_n
  clear E_n
  obtain ⟨B_0, B_1, B_f⟩ := id B
  have B_f0 := B_f 0
  have B_f1 := B_f 1
  clear B_f
  have B_l := World.block_lt_of_cell? _ _ B_0
  go_wp2_with fail
  refine (HC.out _ (T.out.ext E) g Bg).mono ?_
  rintro _ w3 ⟨rfl, f3⟩
  clear B_0 B_1 B_f0 B_f1 B_l
  have B_n : M2 w3 (w.heap.size) (.int .i64 kf) (.int .i64 (qf : Int)) := B.ext f3
  have Z_n : Z3 w3 (w.heap.size + 1) := Z.ext f3
  have Bg_n : B2 w3 (g) (.int .i64 kq) (.int .i64 (qq : Int)) := Bg.ext f3
  have E_n : Ext w w3 := E.trans f3
  clear f3 B Z Bg E
  have B := B_n
  clear B_n
  have Z := Z_n
  clear Z_n
  have Bg := Bg_n
  clear Bg_n
  have E := E_n
  clear E_n
  have Z_c0 := Z.c0
  have Z_f0 := Z.f 0
  have Z_c1 := Z.c1
  have Z_f1 := Z.f 1
  have Z_c2 := Z.c2
  have Z_f2 := Z.f 2
  have Z_l := World.block_lt_of_cell? _ _ Z_c0
  go_wp2
  obtain ⟨k0, k1, k2, hD⟩ := Z.done E (by omega)
  exact bodyPost_ret (by simp [results, Tryz.results76, go_sem, k0, k1, k2]) rfl ⟨rfl, hD⟩
set_option maxRecDepth 4000 in
set_option maxHeartbeats 1000000 in
theorem tsplit_even (w : World) (T : Tb w) (K k e : Int) (Q q : Nat) (hK : -1099511627776 ≤ K ∧ K ≤ 1099511627776) (hQ : Q ≤ 40) (he : eighth (tv K Q) = e) (hp : e % 2 = 0) (h : Fm (rest (tv K Q)) k q) :
    Calls Tryz.prog 76 #[.agg #[.int .i64 K, .int .i64 Q]] w (RetE w (.agg #[.int .i64 e, .int .i64 k, .int .i64 q])) := by
  obtain ⟨v0, v1⟩ := tv_range K Q
  obtain ⟨q0, q1, q2, q3⟩ := rest_range v0 v1
  obtain ⟨kf, qf, hf⟩ := fm_there v0 v1
  obtain ⟨kq, qq, hq⟩ := fm_there (tv_range ((e + 1) / 2) 2).1 (tv_range ((e + 1) / 2) 2).2
  have hvq : tv ((e + 1) / 2) 2 = (e + 1) / 2 * 274877906944 % 1099511627776 := rfl
  have hlf := hf.low
  have hl := p2_le hlf.2.2.1
  rw [p2_40] at hl
  have h8 := eighth_form hf
  have hrest : rest (tv K Q) = tv K Q - e * 137438953472 := by unfold rest; rw [he]; exact if_pos hp
  have HF := Lib.hid (fun w' T' => tform_any w' T' K kf Q qf hK hQ hf)
  rw [he] at q0 q1
  have hve := he
  unfold eighth at hve
  have HM := Lib.hid (fun w' T' => tmeas_even w' T' e kq qq ⟨q0, q1⟩ hp hq)
  have HC := Lib.hid (fun w' T' g B => tmeas2_any w' T' g _ kq kf k qq qf q B hq (by omega) hlf.2.2.1 (by rw [hf.tv, hvq, show (tv K Q - (e + 1) / 2 * 274877906944 % 1099511627776) % 1099511627776 = rest (tv K Q) by rw [hrest]; omega]; exact h))
  have hw8 : IntKind.i64.wrap (8 * kf) = 8 * kf := IntWalk.i64_in _ (by omega)
  have hw8' : wrap64 (8 * kf) = 8 * kf := by unfold wrap64; omega
  rw [he] at h8
  have hqf : (qf : Int) ≤ 40 := by omega
  have hwe : wrap64 e = e := by unfold wrap64; omega
  have hcall1 := call1
  have hcall2 := call2
  clear v0 v1 q0 q1 q2 q3 hf hq hvq hlf hl hrest hve hp h he hK hQ
  replace T := Lib.hid T
  go_enter Tryz.func76, Tryz.ntmps76
  go_wp2_with fail
  refine (HF.out _ (T.out.ext (((Ext.refl w).alloc _).alloc _))).mono ?_
  rintro _ w1 ⟨rfl, f1⟩
  have B_n : M2 w1 (w.heap.size) (.int .i64 K) (.int .i64 (Q : Int)) := ((M2.fresh (by simp)).ext ((Ext.refl _).alloc _)).ext f1
  have Z_n : Z3 w1 (w.heap.size + 1) := (Z3.fresh (by simp)).ext f1
  have E_n : Ext w w1 := (((Ext.refl w).alloc _).alloc _).trans f1
  clear f1
  have B := B_n
  clear B_n
  have Z := Z_n
  clear Z_n
  have E := E_n
  clear E_n
  obtain ⟨B_0, B_1, B_f⟩ := id B
  have B_f0 := B_f 0
  have B_f1 := B_f 1
  clear B_f
  have B_l := World.block_lt_of_cell? _ _ B_0
  go_wp2_with fail
  refine (HM.out _ (T.out.ext ((E.setCell (show w.heap.size ≤ w.heap.size by omega) _).setCell (show w.heap.size ≤ w.heap.size by omega) _))).mono ?_
  rintro _ w2 ⟨g, rfl, Bg, f2⟩
  clear B_0 B_1 B_f0 B_f1 B_l
  have B_n : M2 w2 (w.heap.size) (.int .i64 kf) (.int .i64 (qf : Int)) := (B.store).ext f2
  have Z_n : Z3 w2 (w.heap.size + 1) := (Z.off (show (w.heap.size + 1 : Nat) ≠ w.heap.size by omega)).ext f2
  have E_n : Ext w w2 := ((E.setCell (show w.heap.size ≤ w.heap.size by omega) _).setCell (show w.heap.size ≤ w.heap.size by omega) _).trans f2
  clear f2 B Z E
  have B := B_n
  clear B_n
  have Z := Z_n
  clear Z_n
  have E := E_n
  clear E_n
  obtain ⟨B_0, B_1, B_f⟩ := id B
  have B_f0 := B_f 0
  have B_f1 := B_f 1
  clear B_f
  have B_l := World.block_lt_of_cell? _ _ B_0
  go_wp2_with fail
  refine (HC.out _ (T.out.ext E) g Bg).mono ?_
  rintro _ w3 ⟨rfl, f3⟩
  clear B_0 B_1 B_f0 B_f1 B_l
  have B_n : M2 w3 (w.heap.size) (.int .i64 kf) (.int .i64 (qf : Int)) := B.ext f3
  have Z_n : Z3 w3 (w.heap.size + 1) := Z.ext f3
  have Bg_n : B2 w3 (g) (.int .i64 kq) (.int .i64 (qq : Int)) := Bg.ext f3
  have E_n : Ext w w3 := E.trans f3
  clear f3 B Z Bg E
  have B := B_n
  clear B_n
  have Z := Z_n
  clear Z_n
  have Bg := Bg_n
  clear Bg_n
  have E := E_n
  clear E_n
  have Z_c0 := Z.c0
  have Z_f0 := Z.f 0
  have Z_c1 := Z.c1
  have Z_f1 := Z.f 1
  have Z_c2 := Z.c2
  have Z_f2 := Z.f 2
  have Z_l := World.block_lt_of_cell? _ _ Z_c0
  go_wp2
  obtain ⟨k0, k1, k2, hD⟩ := Z.done E (by omega)
  exact bodyPost_ret (by simp [results, Tryz.results76, go_sem, k0, k1, k2]) rfl ⟨rfl, hD⟩
theorem tsplit_any (w : World) (T : Tb w) (K k e : Int) (Q q : Nat) (hK : -1099511627776 ≤ K ∧ K ≤ 1099511627776) (hQ : Q ≤ 40) (he : eighth (tv K Q) = e) (h : Fm (rest (tv K Q)) k q) :
    Calls Tryz.prog 76 #[.agg #[.int .i64 K, .int .i64 Q]] w (RetE w (.agg #[.int .i64 e, .int .i64 k, .int .i64 q])) := by
  have hm := Int.emod_nonneg e (show (2 : Int) ≠ 0 by omega)
  by_cases hp : e % 2 = 0
  · exact tsplit_even w T K k e Q q hK hQ he hp h
  · exact tsplit_odd w T K k e Q q hK hQ he (by omega) h
/-- The rows of eighths lie as they were laid. -/
structure Pl (w : World) : Prop where
  out : ∀ i, i < 8 → w.cell? ⟨0, 3 * i, none⟩ = some (.bool (plSwap (i : Int))) ∧ w.cell? ⟨0, 3 * i + 1, none⟩ = some (.bool (plCos (i : Int))) ∧ w.cell? ⟨0, 3 * i + 2, none⟩ = some (.bool (plSin (i : Int)))
theorem Pl.ext {w w' : World} (h : Pl w) (E : Ext w w') : Pl w' := ⟨fun i hi => by
  obtain ⟨a, b, c⟩ := h.out i hi
  have hg : 0 < w.heap.size := World.block_lt_of_cell? w _ a
  exact ⟨(E.cell hg).trans a, (E.cell hg).trans b, (E.cell hg).trans c⟩⟩
set_option maxRecDepth 4000 in
set_option maxHeartbeats 1000000 in
theorem tplace_no (w : World) (e : Int) (h : e < 0 ∨ 7 < e) :
    Calls Tryz.prog 75 #[.int .i64 e] w (RetE w (.tuple #[.bool (plSwap e), .bool (plCos e), .bool (plSin e)])) := by
  have a : plSwap e = false := decide_eq_false (by omega)
  have b : plCos e = false := decide_eq_false (by omega)
  have c : plSin e = false := decide_eq_false (by omega)
  rw [a, b, c]
  by_cases h0 : e < 0
  · go_enter Tryz.func75, Tryz.ntmps75
    go_wp2
    exact bodyPost_ret (by simp [results, Tryz.results75, go_sem]) rfl ⟨rfl, Ext.refl w⟩
  · have h7 : 7 < e := by omega
    have h8 : ¬ e < 8 := by omega
    have h8' : 8 ≤ e := by omega
    go_enter Tryz.func75, Tryz.ntmps75
    go_wp2
    exact bodyPost_ret (by simp [results, Tryz.results75, go_sem]) rfl ⟨rfl, Ext.refl w⟩
set_option maxRecDepth 4000 in
set_option maxHeartbeats 1000000 in
theorem tplace_0 (w : World) (P : Pl w) :
    Calls Tryz.prog 75 #[.int .i64 0] w (RetE w (.tuple #[.bool (plSwap 0), .bool (plCos 0), .bool (plSin 0)])) := by
  obtain ⟨a, b, c⟩ := P.out 0 (by omega)
  have a' : w.cell? ⟨0, 0, none⟩ = some (.bool (plSwap 0)) := a
  have b' : w.cell? ⟨0, 1, none⟩ = some (.bool (plCos 0)) := b
  have c' : w.cell? ⟨0, 2, none⟩ = some (.bool (plSin 0)) := c
  generalize plSwap 0 = x at *
  generalize plCos 0 = y at *
  generalize plSin 0 = z at *
  clear a b c P
  go_enter Tryz.func75, Tryz.ntmps75
  go_wp2_with fail
  go_quiet (fail)
  go_wp2
  exact bodyPost_ret (by simp [results, Tryz.results75, go_sem]) rfl ⟨rfl, (Ext.refl w).drewN _⟩
set_option maxRecDepth 4000 in
set_option maxHeartbeats 1000000 in
theorem tplace_1 (w : World) (P : Pl w) :
    Calls Tryz.prog 75 #[.int .i64 1] w (RetE w (.tuple #[.bool (plSwap 1), .bool (plCos 1), .bool (plSin 1)])) := by
  obtain ⟨a, b, c⟩ := P.out 1 (by omega)
  have a' : w.cell? ⟨0, 3, none⟩ = some (.bool (plSwap 1)) := a
  have b' : w.cell? ⟨0, 4, none⟩ = some (.bool (plCos 1)) := b
  have c' : w.cell? ⟨0, 5, none⟩ = some (.bool (plSin 1)) := c
  generalize plSwap 1 = x at *
  generalize plCos 1 = y at *
  generalize plSin 1 = z at *
  clear a b c P
  go_enter Tryz.func75, Tryz.ntmps75
  go_wp2_with fail
  go_quiet (fail)
  go_wp2
  exact bodyPost_ret (by simp [results, Tryz.results75, go_sem]) rfl ⟨rfl, (Ext.refl w).drewN _⟩
set_option maxRecDepth 4000 in
set_option maxHeartbeats 1000000 in
theorem tplace_2 (w : World) (P : Pl w) :
    Calls Tryz.prog 75 #[.int .i64 2] w (RetE w (.tuple #[.bool (plSwap 2), .bool (plCos 2), .bool (plSin 2)])) := by
  obtain ⟨a, b, c⟩ := P.out 2 (by omega)
  have a' : w.cell? ⟨0, 6, none⟩ = some (.bool (plSwap 2)) := a
  have b' : w.cell? ⟨0, 7, none⟩ = some (.bool (plCos 2)) := b
  have c' : w.cell? ⟨0, 8, none⟩ = some (.bool (plSin 2)) := c
  generalize plSwap 2 = x at *
  generalize plCos 2 = y at *
  generalize plSin 2 = z at *
  clear a b c P
  go_enter Tryz.func75, Tryz.ntmps75
  go_wp2_with fail
  go_quiet (fail)
  go_wp2
  exact bodyPost_ret (by simp [results, Tryz.results75, go_sem]) rfl ⟨rfl, (Ext.refl w).drewN _⟩
set_option maxRecDepth 4000 in
set_option maxHeartbeats 1000000 in
theorem tplace_3 (w : World) (P : Pl w) :
    Calls Tryz.prog 75 #[.int .i64 3] w (RetE w (.tuple #[.bool (plSwap 3), .bool (plCos 3), .bool (plSin 3)])) := by
  obtain ⟨a, b, c⟩ := P.out 3 (by omega)
  have a' : w.cell? ⟨0, 9, none⟩ = some (.bool (plSwap 3)) := a
  have b' : w.cell? ⟨0, 10, none⟩ = some (.bool (plCos 3)) := b
  have c' : w.cell? ⟨0, 11, none⟩ = some (.bool (plSin 3)) := c
  generalize plSwap 3 = x at *
  generalize plCos 3 = y at *
  generalize plSin 3 = z at *
  clear a b c P
  go_enter Tryz.func75, Tryz.ntmps75
  go_wp2_with fail
  go_quiet (fail)
  go_wp2
  exact bodyPost_ret (by simp [results, Tryz.results75, go_sem]) rfl ⟨rfl, (Ext.refl w).drewN _⟩
set_option maxRecDepth 4000 in
set_option maxHeartbeats 1000000 in
theorem tplace_4 (w : World) (P : Pl w) :
    Calls Tryz.prog 75 #[.int .i64 4] w (RetE w (.tuple #[.bool (plSwap 4), .bool (plCos 4), .bool (plSin 4)])) := by
  obtain ⟨a, b, c⟩ := P.out 4 (by omega)
  have a' : w.cell? ⟨0, 12, none⟩ = some (.bool (plSwap 4)) := a
  have b' : w.cell? ⟨0, 13, none⟩ = some (.bool (plCos 4)) := b
  have c' : w.cell? ⟨0, 14, none⟩ = some (.bool (plSin 4)) := c
  generalize plSwap 4 = x at *
  generalize plCos 4 = y at *
  generalize plSin 4 = z at *
  clear a b c P
  go_enter Tryz.func75, Tryz.ntmps75
  go_wp2_with fail
  go_quiet (fail)
  go_wp2
  exact bodyPost_ret (by simp [results, Tryz.results75, go_sem]) rfl ⟨rfl, (Ext.refl w).drewN _⟩
set_option maxRecDepth 4000 in
set_option maxHeartbeats 1000000 in
theorem tplace_5 (w : World) (P : Pl w) :
    Calls Tryz.prog 75 #[.int .i64 5] w (RetE w (.tuple #[.bool (plSwap 5), .bool (plCos 5), .bool (plSin 5)])) := by
  obtain ⟨a, b, c⟩ := P.out 5 (by omega)
  have a' : w.cell? ⟨0, 15, none⟩ = some (.bool (plSwap 5)) := a
  have b' : w.cell? ⟨0, 16, none⟩ = some (.bool (plCos 5)) := b
  have c' : w.cell? ⟨0, 17, none⟩ = some (.bool (plSin 5)) := c
  generalize plSwap 5 = x at *
  generalize plCos 5 = y at *
  generalize plSin 5 = z at *
  clear a b c P
  go_enter Tryz.func75, Tryz.ntmps75
  go_wp2_with fail
  go_quiet (fail)
  go_wp2
  exact bodyPost_ret (by simp [results, Tryz.results75, go_sem]) rfl ⟨rfl, (Ext.refl w).drewN _⟩
set_option maxRecDepth 4000 in
set_option maxHeartbeats 1000000 in
theorem tplace_6 (w : World) (P : Pl w) :
    Calls Tryz.prog 75 #[.int .i64 6] w (RetE w (.tuple #[.bool (plSwap 6), .bool (plCos 6), .bool (plSin 6)])) := by
  obtain ⟨a, b, c⟩ := P.out 6 (by omega)
  have a' : w.cell? ⟨0, 18, none⟩ = some (.bool (plSwap 6)) := a
  have b' : w.cell? ⟨0, 19, none⟩ = some (.bool (plCos 6)) := b
  have c' : w.cell? ⟨0, 20, none⟩ = some (.bool (plSin 6)) := c
  generalize plSwap 6 = x at *
  generalize plCos 6 = y at *
  generalize plSin 6 = z at *
  clear a b c P
  go_enter Tryz.func75, Tryz.ntmps75
  go_wp2_with fail
  go_quiet (fail)
  go_wp2
  exact bodyPost_ret (by simp [results, Tryz.results75, go_sem]) rfl ⟨rfl, (Ext.refl w).drewN _⟩
set_option maxRecDepth 4000 in
set_option maxHeartbeats 1000000 in
theorem tplace_7 (w : World) (P : Pl w) :
    Calls Tryz.prog 75 #[.int .i64 7] w (RetE w (.tuple #[.bool (plSwap 7), .bool (plCos 7), .bool (plSin 7)])) := by
  obtain ⟨a, b, c⟩ := P.out 7 (by omega)
  have a' : w.cell? ⟨0, 21, none⟩ = some (.bool (plSwap 7)) := a
  have b' : w.cell? ⟨0, 22, none⟩ = some (.bool (plCos 7)) := b
  have c' : w.cell? ⟨0, 23, none⟩ = some (.bool (plSin 7)) := c
  generalize plSwap 7 = x at *
  generalize plCos 7 = y at *
  generalize plSin 7 = z at *
  clear a b c P
  go_enter Tryz.func75, Tryz.ntmps75
  go_wp2_with fail
  go_quiet (fail)
  go_wp2
  exact bodyPost_ret (by simp [results, Tryz.results75, go_sem]) rfl ⟨rfl, (Ext.refl w).drewN _⟩
theorem tplace_any (w : World) (P : Pl w) (e : Int) : Calls Tryz.prog 75 #[.int .i64 e] w (RetE w (.tuple #[.bool (plSwap e), .bool (plCos e), .bool (plSin e)])) := by
  by_cases h : 0 ≤ e ∧ e ≤ 7
  · obtain rfl | rfl | rfl | rfl | rfl | rfl | rfl | rfl : e = 0 ∨ e = 1 ∨ e = 2 ∨ e = 3 ∨ e = 4 ∨ e = 5 ∨ e = 6 ∨ e = 7 := by omega
    · exact tplace_0 w P
    · exact tplace_1 w P
    · exact tplace_2 w P
    · exact tplace_3 w P
    · exact tplace_4 w P
    · exact tplace_5 w P
    · exact tplace_6 w P
    · exact tplace_7 w P
  · exact tplace_no w e (by omega)
end Go.Proofs.YtomdbmjfehoodaaGreatDoor

