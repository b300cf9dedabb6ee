/- The walk of TurnWhole. -/
import Derived.Test.YtncopdgonbgaaaaDoorTL
namespace Go.Proofs.YtncopdgonbgaaaaDoor
open Go.RowKit
set_option linter.unusedVariables false
theorem rright_lit (w : World) (K Q : Int) (r : Bool) (hr : rightT K Q = r) (hK : -9223372036854775808 ≤ K ∧ K ≤ 9223372036854775807) (hQ : -9223372036854775808 ≤ Q ∧ Q ≤ 9223372036854775807) : Calls Tryd.prog 13 #[.agg #[.int .i64 K, .int .i64 Q]] w (RetE w (.bool r)) := by
  subst hr; exact rrightT_any w K Q hK hQ
set_option maxRecDepth 100000 in
set_option maxHeartbeats 4000000 in
theorem whole_no (w : World) (T0 : Tu w) (K Q : Int) (hK : -9223372036854775808 ≤ K ∧ K ≤ 9223372036854775807) (hQ : -9223372036854775808 ≤ Q ∧ Q ≤ 9223372036854775807) (hr : rightT K Q = false) (n m : Int) (hn : 0 ≤ n ∧ n ≤ 255) (hm : 0 ≤ m ∧ m ≤ 255) :
    Calls Tryd.prog 7 #[.agg #[.int .i64 K, .int .i64 Q], .int .u8 n, .int .u8 m] w (RetE w (.bool true)) := by
  have T := Lib.hid T0
  clear T0
  go_enter Tryd.func7, Tryd.ntmps7
  go_wp2_with fail
  refine (headT_any _ (T.out.ext ((Ext.refl w).alloc _))).mono ?_
  rintro _ w1 ⟨rfl, f1⟩
  have Ba : B2 w1 (w.heap.size) (.int .i64 K) (.int .i64 Q) := B2.at ((Ext.refl _).trans f1) (by simp)
  have e1 : Ext w w1 := ((Ext.refl w).alloc _).trans f1
  have E1 : Ext w w1 := e1
  clear f1
  obtain ⟨Ba_0, Ba_1⟩ := id Ba
  have Ba_l := World.block_lt_of_cell? _ _ Ba_0
  go_wp2_with fail
  refine (rright_lit _ K Q false hr hK hQ).mono ?_
  rintro _ w2 ⟨rfl, f2⟩
  clear Ba_0 Ba_1 Ba_l
  have e2 : Ext w1 w2 := (Ext.refl w1).trans f2
  replace Ba := Ba.ext e2
  have E2 : Ext w w2 := E1.trans e2
  clear f2
  go_wp2
  go_ret
  exact ⟨rfl, E2⟩
set_option maxRecDepth 100000 in
set_option maxHeartbeats 4000000 in
theorem whole_q (w : World) (T0 : Tu w) (K Q : Int) (hK : -9223372036854775808 ≤ K ∧ K ≤ 9223372036854775807) (hQ : -9223372036854775808 ≤ Q ∧ Q ≤ 9223372036854775807) (hr : rightT K Q = true) (n m : Int) (hn : 0 ≤ n ∧ n ≤ 255) (hm : 0 ≤ m ∧ m ≤ 255) (hc : 25 < Q) :
    Calls Tryd.prog 7 #[.agg #[.int .i64 K, .int .i64 Q], .int .u8 n, .int .u8 m] w (RetE w (.bool true)) := by
  have T := Lib.hid T0
  clear T0
  go_enter Tryd.func7, Tryd.ntmps7
  go_wp2_with fail
  refine (headT_any _ (T.out.ext ((Ext.refl w).alloc _))).mono ?_
  rintro _ w1 ⟨rfl, f1⟩
  have Ba : B2 w1 (w.heap.size) (.int .i64 K) (.int .i64 Q) := B2.at ((Ext.refl _).trans f1) (by simp)
  have e1 : Ext w w1 := ((Ext.refl w).alloc _).trans f1
  have E1 : Ext w w1 := e1
  clear f1
  obtain ⟨Ba_0, Ba_1⟩ := id Ba
  have Ba_l := World.block_lt_of_cell? _ _ Ba_0
  go_wp2_with fail
  refine (rright_lit _ K Q true hr hK hQ).mono ?_
  rintro _ w2 ⟨rfl, f2⟩
  clear Ba_0 Ba_1 Ba_l
  have e2 : Ext w1 w2 := (Ext.refl w1).trans f2
  replace Ba := Ba.ext e2
  have E2 : Ext w w2 := E1.trans e2
  clear f2
  obtain ⟨Ba_0, Ba_1⟩ := id Ba
  have Ba_l := World.block_lt_of_cell? _ _ Ba_0
  have c1 : 25 < Q := by omega
  have c2 : ¬ Q ≤ 25 := by omega
  go_wp2
  go_ret
  exact ⟨rfl, E2⟩
set_option maxRecDepth 100000 in
set_option maxHeartbeats 4000000 in
theorem whole_u (w : World) (T0 : Tu w) (K Q : Int) (hK : -9223372036854775808 ≤ K ∧ K ≤ 9223372036854775807) (hQ : -9223372036854775808 ≤ Q ∧ Q ≤ 9223372036854775807) (hr : rightT K Q = true) (n m : Int) (hn : 0 ≤ n ∧ n ≤ 255) (hm : 0 ≤ m ∧ m ≤ 255) (hc : ¬ 25 < Q ∧ 33554432 < K) :
    Calls Tryd.prog 7 #[.agg #[.int .i64 K, .int .i64 Q], .int .u8 n, .int .u8 m] w (RetE w (.bool true)) := by
  have T := Lib.hid T0
  clear T0
  go_enter Tryd.func7, Tryd.ntmps7
  go_wp2_with fail
  refine (headT_any _ (T.out.ext ((Ext.refl w).alloc _))).mono ?_
  rintro _ w1 ⟨rfl, f1⟩
  have Ba : B2 w1 (w.heap.size) (.int .i64 K) (.int .i64 Q) := B2.at ((Ext.refl _).trans f1) (by simp)
  have e1 : Ext w w1 := ((Ext.refl w).alloc _).trans f1
  have E1 : Ext w w1 := e1
  clear f1
  obtain ⟨Ba_0, Ba_1⟩ := id Ba
  have Ba_l := World.block_lt_of_cell? _ _ Ba_0
  go_wp2_with fail
  refine (rright_lit _ K Q true hr hK hQ).mono ?_
  rintro _ w2 ⟨rfl, f2⟩
  clear Ba_0 Ba_1 Ba_l
  have e2 : Ext w1 w2 := (Ext.refl w1).trans f2
  replace Ba := Ba.ext e2
  have E2 : Ext w w2 := E1.trans e2
  clear f2
  obtain ⟨Ba_0, Ba_1⟩ := id Ba
  have Ba_l := World.block_lt_of_cell? _ _ Ba_0
  have c1 : ¬ 25 < Q := by omega
  have c2 : 33554432 < K := by omega
  go_wp2
  go_ret
  exact ⟨rfl, E2⟩
set_option maxRecDepth 100000 in
set_option maxHeartbeats 4000000 in
theorem whole_l (w : World) (T0 : Tu w) (K Q : Int) (hK : -9223372036854775808 ≤ K ∧ K ≤ 9223372036854775807) (hQ : -9223372036854775808 ≤ Q ∧ Q ≤ 9223372036854775807) (hr : rightT K Q = true) (n m : Int) (hn : 0 ≤ n ∧ n ≤ 255) (hm : 0 ≤ m ∧ m ≤ 255) (hc : ¬ 25 < Q ∧ ¬ 33554432 < K ∧ K < -33554432) :
    Calls Tryd.prog 7 #[.agg #[.int .i64 K, .int .i64 Q], .int .u8 n, .int .u8 m] w (RetE w (.bool true)) := by
  have T := Lib.hid T0
  clear T0
  go_enter Tryd.func7, Tryd.ntmps7
  go_wp2_with fail
  refine (headT_any _ (T.out.ext ((Ext.refl w).alloc _))).mono ?_
  rintro _ w1 ⟨rfl, f1⟩
  have Ba : B2 w1 (w.heap.size) (.int .i64 K) (.int .i64 Q) := B2.at ((Ext.refl _).trans f1) (by simp)
  have e1 : Ext w w1 := ((Ext.refl w).alloc _).trans f1
  have E1 : Ext w w1 := e1
  clear f1
  obtain ⟨Ba_0, Ba_1⟩ := id Ba
  have Ba_l := World.block_lt_of_cell? _ _ Ba_0
  go_wp2_with fail
  refine (rright_lit _ K Q true hr hK hQ).mono ?_
  rintro _ w2 ⟨rfl, f2⟩
  clear Ba_0 Ba_1 Ba_l
  have e2 : Ext w1 w2 := (Ext.refl w1).trans f2
  replace Ba := Ba.ext e2
  have E2 : Ext w w2 := E1.trans e2
  clear f2
  obtain ⟨Ba_0, Ba_1⟩ := id Ba
  have Ba_l := World.block_lt_of_cell? _ _ Ba_0
  have c1 : ¬ 25 < Q := by omega
  have c2 : ¬ 33554432 < K := by omega
  have c3 : K < -33554432 := by omega
  go_wp2
  go_ret
  exact ⟨rfl, E2⟩
theorem M2.store1 {w : World} {g : Nat} {x y a : Value} (h : M2 w g x y) : M2 (w.setCell ⟨g, 0, none⟩ a) g a y := by
  have o : ∀ (W : World) (i j : Nat) (v : Value), i ≠ j → (W.setCell ⟨g, i, none⟩ v).cell? ⟨g, j, none⟩ = W.cell? ⟨g, j, none⟩ := fun W i j v hij => World.cell?_setCell_other _ _ _ _ (fun h => hij (by injection h))
  exact ⟨World.cell?_setCell_same _ _ _ h.c0, by rw [o _ 0 1 _ (by omega)]; exact h.c1, fun j => by simp only [World.frozen?_setCell]; exact h.f j⟩
theorem B2.off1 {w : World} {g g' : Nat} {x y a : Value} (h : B2 w g x y) (hg : g ≠ g') : B2 (w.setCell ⟨g', 0, none⟩ a) g x y := by
  have o : ∀ j, (w.setCell ⟨g', 0, none⟩ a).cell? ⟨g, j, none⟩ = w.cell? ⟨g, j, none⟩ := fun j => World.cell?_setCell_other _ _ _ _ (fun e => hg (by injection e with e; exact e.symm))
  exact ⟨(o 0).trans h.c0, (o 1).trans h.c1⟩
theorem M2.at {w w' : World} {x y : Value} {t : TypeId} {g : Nat} (E : Ext (w.alloc (.cells #[x, y] t)) w') (hg : w.heap.size = g) : M2 w' g x y := (M2.fresh hg).ext E
theorem tv_turn {B : Int} {Q : Nat} (h : Q ≤ 40) : tv (B + 2 ^ Q) Q = tv B Q := by
  rw [tv_mod h, tv_mod h, Int.add_emod_right]
theorem tv_half {C : Int} {D : Nat} (h : D + 1 ≤ 40) : tv (2 * C) (D + 1) = tv C D := by
  unfold tv
  rw [show 40 - D = 1 + (40 - (D + 1)) by omega, p2_add]
  rw [Int.mul_comm 2 C, Int.mul_assoc]; rfl
/-- What the first loop leaves: a's box, b's box, whole turns more. -/
structure LB (w wr : World) (gb : Nat) (K : Int) (Q : Nat) (j : Nat) : Prop where
  out : ∃ B : Int, Ext w wr ∧ B2 wr w.heap.size (.int .i64 K) (.int .i64 (Q : Int)) ∧ M2 wr gb (.int .i64 B) (.int .i64 (Q : Int)) ∧ tv B Q = tv K Q ∧ (-33554432 ≤ B ∧ B ≤ 33554432 + j * 33554432)
/-- What the second loop leaves, too: c's box, parts halved. -/
structure LC (w wr : World) (gb gc : Nat) (B K : Int) (Q : Nat) (j : Nat) : Prop where
  out : ∃ C D : Int, Ext w wr ∧ B2 wr w.heap.size (.int .i64 K) (.int .i64 (Q : Int)) ∧ B2 wr gb (.int .i64 B) (.int .i64 (Q : Int)) ∧ M2 wr gc (.int .i64 C) (.int .i64 D) ∧ D = ((Q + j : Nat) : Int) ∧ tv C (Q + j) = tv K Q ∧ (-(33554432 * 2 ^ j) ≤ C ∧ C ≤ 33554432 * 2 ^ j)
set_option maxRecDepth 100000 in
set_option maxHeartbeats 4000000 in
theorem whole_in (w : World) (T0 : Tu w) (K : Int) (Q : Nat) (n m : Int) (hn : 0 ≤ n ∧ n ≤ 255) (hm : 0 ≤ m ∧ m ≤ 255) (hK : -33554432 ≤ K ∧ K ≤ 33554432) (hQ : Q ≤ 25) :
    Calls Tryd.prog 7 #[.agg #[.int .i64 K, .int .i64 Q], .int .u8 n, .int .u8 m] w (RetE w (.bool true)) := by
  have hr : rightT K Q = true := rightT_iff.2 (by omega)
  have HR1 := Lib.hid (fun w' => rright_lit w' K Q true hr (by omega) (by omega))
  have HT := Lib.hid T0
  have g1 : ¬ (25 : Int) < (Q : Int) := by omega
  have g2 : ¬ 33554432 < K := by omega
  have g3 : ¬ K < -33554432 := by omega
  have hwQ := two_pow_word (show Q ≤ 41 by omega)
  have hP := p2_le hQ
  have hP0 := p2_pos Q
  rw [show (2 : Int) ^ 25 = 33554432 by decide] at hP
  have hQ40 : (Q : Int) ≤ 40 := by omega
  obtain ⟨n, rfl⟩ := Int.eq_ofNat_of_zero_le hn.1
  obtain ⟨m, rfl⟩ := Int.eq_ofNat_of_zero_le hm.1
  have hnw : IntKind.i64.wrap (n : Int) = n := IntWalk.i64_in _ (by omega)
  have hmw : IntKind.i64.wrap (m : Int) = m := IntWalk.i64_in _ (by omega)
  obtain ⟨k8, hk8⟩ : ∃ k8, m % 8 = k8 := ⟨_, rfl⟩
  have hk87 : k8 ≤ 7 := by omega
  have hmm : (m : Int).tmod 8 = (k8 : Int) := by rw [Int.tmod_eq_emod_of_nonneg (by omega)]; omega
  have T := Lib.hid T0
  clear T0
  go_enter Tryd.func7, Tryd.ntmps7
  go_wp2_with fail
  refine (headT_any _ (T.out.ext ((Ext.refl w).alloc _))).mono ?_
  rintro _ w1 ⟨rfl, f1⟩
  have Ba : B2 w1 (w.heap.size) (.int .i64 K) (.int .i64 (Q : Int)) := B2.at ((Ext.refl _).trans f1) (by simp)
  have e1 : Ext w w1 := ((Ext.refl w).alloc _).trans f1
  have E1 : Ext w w1 := e1
  clear f1
  obtain ⟨Ba_0, Ba_1⟩ := id Ba
  have Ba_l := World.block_lt_of_cell? _ _ Ba_0
  go_wp2_with fail
  refine (HR1.out _).mono ?_
  rintro _ w2 ⟨rfl, f2⟩
  clear Ba_0 Ba_1 Ba_l
  have e2 : Ext w1 w2 := (Ext.refl w1).trans f2
  replace Ba := Ba.ext e2
  have E2 : Ext w w2 := E1.trans e2
  clear f2
  obtain ⟨Ba_0, Ba_1⟩ := id Ba
  have Ba_l := World.block_lt_of_cell? _ _ Ba_0
  go_wp2
  have E2' := E2
  have Ba' := Ba
  clear Ba E1 e1 e2 E2
  go_loopw [11] (fun i wr => ∃ j : Nat, i = .int .i64 (j : Int) ∧ j ≤ n ∧ LB w wr w2.heap.size K Q j) (fun i _ => (n - (intOf i)).toNat)
  case atStart => exact ⟨0, rfl, by omega, ⟨K, E2'.alloc _, Ba'.ext ((Ext.refl _).alloc _), M2.fresh rfl, rfl, by omega, by omega⟩⟩
  case round =>
    have hg2 : w.heap.size < w2.heap.size := World.block_lt_of_cell? _ _ Ba'.c0
    clear E2' Ba'
    obtain ⟨j, rfl, hj, hL⟩ := hrel
    obtain ⟨B, E, Ba, Bb, hv, hb0, hb1⟩ := hL.out
    clear hL
    by_cases hjn : j < n
    · have hs := tv_turn (B := B) (show Q ≤ 40 by omega)
      have HS := Lib.hid (And.intro hs hv)
      have hw1 : wrap64 (B + 2 ^ Q) = B + 2 ^ Q := by unfold wrap64; omega
      have hw2 : IntKind.i64.wrap (B + 2 ^ Q) = B + 2 ^ Q := IntWalk.i64_in _ (by omega)
      have hji : (j : Int) < (n : Int) := by omega
      obtain ⟨b0, b1, bf⟩ := id Bb
      have bf0 := bf 0
      have bl := World.block_lt_of_cell? _ _ b0
      have HX := Lib.hid (And.intro hP (And.intro hP0 (And.intro hb0 (And.intro hb1 hg2))))
      have hn255 : (n : Int) ≤ 255 := hn.2
      generalize (2 : Int) ^ Q = P at *
      clear bf hs hv hP hP0 hb0 hb1 hK hQ hm hn hk87 hmm hr g1 g2 g3 hQ40 hwQ
      go_wp2
      go_roundw
      case rel => exact ⟨j + 1, by go_num, by omega, ⟨B + P, E.setCell (show w.heap.size ≤ w2.heap.size by have := HX.out.2.2.2.2; omega) _, Ba.off1 (show (w.heap.size : Nat) ≠ w2.heap.size by have := HX.out.2.2.2.2; omega), Bb.store1, HS.out.1.trans HS.out.2, by have := HX.out; omega, by have := HX.out; omega⟩⟩
      case measure => simp [intOf]; omega
    · obtain rfl : j = n := by omega
      have hjj : ¬ (j : Int) < (j : Int) := by omega
      obtain ⟨Ba_0, Ba_1⟩ := id Ba
      have Ba_l := World.block_lt_of_cell? _ _ Ba_0
      have HV := Lib.hid hv
      clear hv
      go_wp2
      clear Ba_0 Ba_1 Ba_l
      have hgb : w2.heap.size < wr.heap.size := World.block_lt_of_cell? _ _ Bb.c0
      generalize hgx : w2.heap.size = gb at *
      clear hgx
      generalize hgc : wr.heap.size = gc at *
      go_loopw [13] (fun i wc => ∃ l : Nat, i = .int .i64 (l : Int) ∧ l ≤ k8 ∧ LC w wc gb gc B K Q l) (fun i _ => (k8 - (intOf i)).toNat)
      case atStart => exact ⟨0, rfl, by omega, ⟨K, (Q : Int), E.alloc _, Ba.ext ((Ext.refl _).alloc _), Bb.b2.ext ((Ext.refl _).alloc _), M2.fresh hgc, rfl, rfl, by simp; omega, by simp; omega⟩⟩
      case round =>
        clear E Ba Bb hgc
        obtain ⟨l, rfl, hl, hL⟩ := hrel
        obtain ⟨C, D, E, Ba, Bb, Bc, hD, hv, hc0, hc1⟩ := hL.out
        clear hL
        have hp7 := p2_le (show l ≤ 7 by omega)
        rw [show (2 : Int) ^ 7 = 128 by decide] at hp7
        have hpl := p2_pos l
        have hD2 : (Q : Int) ≤ D ∧ D ≤ 32 := by omega
        by_cases hlk : l < k8
        · have hs := tv_half (C := C) (D := Q + l) (by omega)
          have hps : (2 : Int) ^ (l + 1) = 2 * 2 ^ l := by rw [Int.pow_succ, Int.mul_comm]
          have HS := Lib.hid (And.intro hs (And.intro hv (And.intro hps hD)))
          have hw1 : wrap64 (2 * C) = 2 * C := by unfold wrap64; omega
          have hw2 : IntKind.i64.wrap (2 * C) = 2 * C := IntWalk.i64_in _ (by omega)
          have hw3 : wrap64 (D + 1) = D + 1 := by unfold wrap64; omega
          have hw4 : IntKind.i64.wrap (D + 1) = D + 1 := IntWalk.i64_in _ (by omega)
          have hji : (l : Int) < (k8 : Int) := by omega
          obtain ⟨b0, b1, bf⟩ := id Bc
          have bf0 := bf 0
          have bf1 := bf 1
          have bl := World.block_lt_of_cell? _ _ b0
          have HB := Lib.hid (And.intro hc0 hc1)
          clear bf hs hv hps hD hc0 hc1
          go_wp2
          go_roundw
          case rel => exact ⟨l + 1, by go_num, by omega, ⟨2 * C, D + 1, (E.setCell (show w.heap.size ≤ gc by omega) _).setCell (show w.heap.size ≤ gc by omega) _, Ba.off (show (w.heap.size : Nat) ≠ gc by omega), Bb.off (show (gb : Nat) ≠ gc by omega), Bc.store, by have := HS.out.2.2.2; omega, by rw [← Nat.add_assoc, HS.out.1]; exact HS.out.2.1, by have := HB.out; have := HS.out.2.2.1; omega, by have := HB.out; have := HS.out.2.2.1; omega⟩⟩
          case measure => simp [intOf]; omega
        · obtain rfl : l = k8 := by omega
          have hll : ¬ (l : Int) < (l : Int) := by omega
          obtain ⟨q0, q1, q2, q3⟩ := rest_range (tv_range K Q).1 (tv_range K Q).2
          obtain ⟨kr, qr, h⟩ : ∃ k q, Fm (rest (tv K Q)) k q := fm_there q2 (by omega)
          obtain ⟨kf, qf, hf⟩ := fm_there (tv_range K Q).1 (tv_range K Q).2
          obtain ⟨e, he⟩ : ∃ e, eighth (tv K Q) = e := ⟨_, rfl⟩
          have hV := HV.out
          have HFa := Lib.hid (fun w' (T' : Tu w') => tform_any w' T'.tb K kf Q qf (by omega) (by omega) hf)
          have HFb := Lib.hid (fun w' (T' : Tu w') => tform_any w' T'.tb B kf Q qf (by omega) (by omega) (by rw [hV]; exact hf))
          have HFc := Lib.hid (show ∀ w' (T' : Tu w'), Calls Tryd.prog 16 #[.agg #[.int .i64 C, .int .i64 D]] w' (RetE w' (.agg #[.int .i64 kf, .int .i64 qf])) from fun w' T' => by rw [hD]; exact tform_any w' T'.tb C kf (Q + l) qf (by omega) (by omega) (by rw [hv]; exact hf))
          have HSa := Lib.hid (fun w' (T' : Tu w') => tsplit_any w' T'.tb K kr e Q qr (by omega) (by omega) he h)
          have HSb := Lib.hid (fun w' (T' : Tu w') => tsplit_any w' T'.tb B kr e Q qr (by omega) (by omega) (by rw [hV]; exact he) (by rw [hV]; exact h))
          have HSc := Lib.hid (show ∀ w' (T' : Tu w'), Calls Tryd.prog 14 #[.agg #[.int .i64 C, .int .i64 D]] w' (RetE w' (.agg #[.int .i64 e, .int .i64 kr, .int .i64 qr])) from fun w' T' => by rw [hD]; exact tsplit_any w' T'.tb C kr e (Q + l) qr (by omega) (by omega) (by rw [hv]; exact he) (by rw [hv]; exact h))
          clear q0 q1 q2 q3 h hf he hV hv hD hD2 hc0 hc1 hp7 hpl hP hP0 hb0 hb1 HV
          replace Bc := Bc.b2
          obtain ⟨Ba_0, Ba_1⟩ := id Ba
          have Ba_l := World.block_lt_of_cell? _ _ Ba_0
          obtain ⟨Bb_0, Bb_1⟩ := id Bb
          have Bb_l := World.block_lt_of_cell? _ _ Bb_0
          obtain ⟨Bc_0, Bc_1⟩ := id Bc
          have Bc_l := World.block_lt_of_cell? _ _ Bc_0
          go_wp2
          skip
          refine wp_region_held_drew (S := (fun w' => (w'.cell? ⟨w.heap.size, 0, none⟩ = some (.int .i64 K) ∧ w'.cell? ⟨w.heap.size, 1, none⟩ = some (.int .i64 (Q : Int))) ∧ (w'.cell? ⟨gb, 0, none⟩ = some (.int .i64 B) ∧ w'.cell? ⟨gb, 1, none⟩ = some (.int .i64 (Q : Int))) ∧ (w'.cell? ⟨gc, 0, none⟩ = some (.int .i64 C) ∧ w'.cell? ⟨gc, 1, none⟩ = some (.int .i64 D)))) (by as_aux_lemma => kernel_rfl) ⟨b2 (Ba.ext (Ext.refl wr).drew), b2 (Bb.ext (Ext.refl wr).drew), b2 (Bc.ext (Ext.refl wr).drew)⟩ (fun hHeld => ?_)
          refine wpAnyH_take (i := 0) (v := ?_) rfl (by as_aux_lemma => kernel_rfl) (by as_aux_lemma => kernel_rfl) (by as_aux_lemma => kernel_rfl) (fun _ _ _ h => h) (Or.inl ⟨by rfl, ?_⟩) (by assumption) ?_
          rotate_left
          · (intro w hSw; (try dsimp only at hSw); go_simp); (try with_reducible rfl)
          simp only [List.getElem_toArray, List.getElem_cons_zero, Act.put, List.setIfInBounds_toArray, List.set_cons_zero, List.set_cons_succ]
          refine wpAnyH_take (i := 1) (v := ?_) rfl (by as_aux_lemma => kernel_rfl) (by as_aux_lemma => kernel_rfl) (by as_aux_lemma => kernel_rfl) (fun _ _ _ h => h) (Or.inl ⟨by rfl, ?_⟩) (by assumption) ?_
          rotate_left
          · (intro w hSw; (try dsimp only at hSw); go_simp); (try with_reducible rfl)
          simp only [List.getElem_toArray, List.getElem_cons_zero, List.getElem_cons_succ, Act.put, List.setIfInBounds_toArray, List.set_cons_zero, List.set_cons_succ]
          refine wpAnyH_take (i := 2) (v := ?_) rfl (by as_aux_lemma => kernel_rfl) (by as_aux_lemma => kernel_rfl) (by as_aux_lemma => kernel_rfl) (fun _ _ _ h => h) (Or.inl ⟨by rfl, ?_⟩) (by assumption) ?_
          rotate_left
          · (intro w hSw; (try dsimp only at hSw); go_simp); (try with_reducible rfl)
          simp only [List.getElem_toArray, List.getElem_cons_zero, List.getElem_cons_succ, Act.put, List.setIfInBounds_toArray, List.set_cons_zero, List.set_cons_succ]
          refine wpAnyH_take (i := 4) (v := ?_) rfl (by as_aux_lemma => kernel_rfl) (by as_aux_lemma => kernel_rfl) (by as_aux_lemma => kernel_rfl) (fun _ _ _ h => h) (Or.inl ⟨by rfl, ?_⟩) (by assumption) ?_
          rotate_left
          · (intro w hSw; (try dsimp only at hSw); go_simp); (try with_reducible rfl)
          simp only [List.getElem_toArray, List.getElem_cons_zero, List.getElem_cons_succ, Act.put, List.setIfInBounds_toArray, List.set_cons_zero, List.set_cons_succ]
          refine wpAnyH_ready (rs := [3]) (by as_aux_lemma => kernel_rfl) (by simp) ?_
          refine AllReadyH.cons rfl (fun K hK => ?_) AllReadyH.nil
          go_simp
          refine (HFb.out _ (T.out.ext (E.trans (Ext.refl wr).drew))).mono ?_
          rintro _ uz1 ⟨rfl, euz1⟩
          have Fz1 : Ext wr uz1 := (Ext.refl wr).drew.trans euz1
          refine hK.out _ _ ⟨b2 (Ba.ext Fz1), b2 (Bb.ext Fz1), b2 (Bc.ext Fz1)⟩ (fun hHeld => ?_)
          clear hK K euz1
          refine wpAnyH_ready (rs := [5]) (by as_aux_lemma => kernel_rfl) (by simp) ?_
          refine AllReadyH.cons rfl (fun K hK => ?_) AllReadyH.nil
          go_simp
          refine (HFa.out _ (T.out.ext (E.trans Fz1))).mono ?_
          rintro _ uz2 ⟨rfl, euz2⟩
          have Fz2 : Ext wr uz2 := Fz1.trans euz2
          refine hK.out _ _ ⟨b2 (Ba.ext Fz2), b2 (Bb.ext Fz2), b2 (Bc.ext Fz2)⟩ (fun hHeld => ?_)
          clear hK K euz2 Fz1
          refine wpAnyH_take (i := 6) (v := ?_) rfl (by as_aux_lemma => kernel_rfl) (by as_aux_lemma => kernel_rfl) (by as_aux_lemma => kernel_rfl) (fun _ _ _ h => h) (Or.inl ⟨by rfl, ?_⟩) (by assumption) ?_
          rotate_left
          · (intro w hSw; (try dsimp only at hSw); go_simp); (try with_reducible rfl)
          simp only [List.getElem_toArray, List.getElem_cons_zero, List.getElem_cons_succ, Act.put, List.setIfInBounds_toArray, List.set_cons_zero, List.set_cons_succ]
          refine wpAnyH_take (i := 7) (v := ?_) rfl (by as_aux_lemma => kernel_rfl) (by as_aux_lemma => kernel_rfl) (by as_aux_lemma => kernel_rfl) (fun _ _ _ h => h) (Or.inl ⟨by rfl, ?_⟩) (by assumption) ?_
          rotate_left
          · (intro w hSw; (try dsimp only at hSw); go_simp); (try with_reducible rfl)
          simp only [List.getElem_toArray, List.getElem_cons_zero, List.getElem_cons_succ, Act.put, List.setIfInBounds_toArray, List.set_cons_zero, List.set_cons_succ]
          refine wpAnyH_take (i := 8) (v := ?_) rfl (by as_aux_lemma => kernel_rfl) (by as_aux_lemma => kernel_rfl) (by as_aux_lemma => kernel_rfl) (fun _ _ _ h => h) (Or.inl ⟨by rfl, ?_⟩) (by assumption) ?_
          rotate_left
          · (intro w hSw; (try dsimp only at hSw); go_simp); (try with_reducible rfl)
          simp only [List.getElem_toArray, List.getElem_cons_zero, List.getElem_cons_succ, Act.put, List.setIfInBounds_toArray, List.set_cons_zero, List.set_cons_succ]
          refine wpAnyH_take (i := 9) (v := ?_) rfl (by as_aux_lemma => kernel_rfl) (by as_aux_lemma => kernel_rfl) (by as_aux_lemma => kernel_rfl) (fun _ _ _ h => h) (Or.inl ⟨by rfl, ?_⟩) (by assumption) ?_
          rotate_left
          · (intro w hSw; (try dsimp only at hSw); go_simp); (try with_reducible rfl)
          simp only [List.getElem_toArray, List.getElem_cons_zero, List.getElem_cons_succ, Act.put, List.setIfInBounds_toArray, List.set_cons_zero, List.set_cons_succ]
          refine wpAnyH_take (i := 11) (v := ?_) rfl (by as_aux_lemma => kernel_rfl) (by as_aux_lemma => kernel_rfl) (by as_aux_lemma => kernel_rfl) (fun _ _ _ h => h) (Or.inl ⟨by rfl, ?_⟩) (by assumption) ?_
          rotate_left
          · (intro w hSw; (try dsimp only at hSw); go_simp); (try with_reducible rfl)
          simp only [List.getElem_toArray, List.getElem_cons_zero, List.getElem_cons_succ, Act.put, List.setIfInBounds_toArray, List.set_cons_zero, List.set_cons_succ]
          refine wpAnyH_ready (rs := [10]) (by as_aux_lemma => kernel_rfl) (by simp) ?_
          refine AllReadyH.cons rfl (fun K hK => ?_) AllReadyH.nil
          go_simp
          refine (HFc.out _ (T.out.ext (E.trans Fz2))).mono ?_
          rintro _ uz3 ⟨rfl, euz3⟩
          have Fz3 : Ext wr uz3 := Fz2.trans euz3
          refine hK.out _ _ ⟨b2 (Ba.ext Fz3), b2 (Bb.ext Fz3), b2 (Bc.ext Fz3)⟩ (fun hHeld => ?_)
          clear hK K euz3 Fz2
          refine wpAnyH_ready (rs := [12]) (by as_aux_lemma => kernel_rfl) (by simp) ?_
          refine AllReadyH.cons rfl (fun K hK => ?_) AllReadyH.nil
          go_simp
          refine (HFa.out _ (T.out.ext (E.trans Fz3))).mono ?_
          rintro _ uz4 ⟨rfl, euz4⟩
          have Fz4 : Ext wr uz4 := Fz3.trans euz4
          refine hK.out _ _ ⟨b2 (Ba.ext Fz4), b2 (Bb.ext Fz4), b2 (Bc.ext Fz4)⟩ (fun hHeld => ?_)
          clear hK K euz4 Fz3
          refine wpAnyH_take (i := 13) (v := ?_) rfl (by as_aux_lemma => kernel_rfl) (by as_aux_lemma => kernel_rfl) (by as_aux_lemma => kernel_rfl) (fun _ _ _ h => h) (Or.inl ⟨by rfl, ?_⟩) (by assumption) ?_
          rotate_left
          · (intro w hSw; (try dsimp only at hSw); go_simp); (try with_reducible rfl)
          simp only [List.getElem_toArray, List.getElem_cons_zero, List.getElem_cons_succ, Act.put, List.setIfInBounds_toArray, List.set_cons_zero, List.set_cons_succ]
          refine wpAnyH_take (i := 14) (v := ?_) rfl (by as_aux_lemma => kernel_rfl) (by as_aux_lemma => kernel_rfl) (by as_aux_lemma => kernel_rfl) (fun _ _ _ h => h) (Or.inl ⟨by rfl, ?_⟩) (by assumption) ?_
          rotate_left
          · (intro w hSw; (try dsimp only at hSw); go_simp); (try with_reducible rfl)
          simp only [List.getElem_toArray, List.getElem_cons_zero, List.getElem_cons_succ, Act.put, List.setIfInBounds_toArray, List.set_cons_zero, List.set_cons_succ]
          refine wpAnyH_take (i := 15) (v := ?_) rfl (by as_aux_lemma => kernel_rfl) (by as_aux_lemma => kernel_rfl) (by as_aux_lemma => kernel_rfl) (fun _ _ _ h => h) (Or.inl ⟨by rfl, ?_⟩) (by assumption) ?_
          rotate_left
          · (intro w hSw; (try dsimp only at hSw); go_simp); (try with_reducible rfl)
          simp only [List.getElem_toArray, List.getElem_cons_zero, List.getElem_cons_succ, Act.put, List.setIfInBounds_toArray, List.set_cons_zero, List.set_cons_succ]
          refine wpAnyH_take (i := 16) (v := ?_) rfl (by as_aux_lemma => kernel_rfl) (by as_aux_lemma => kernel_rfl) (by as_aux_lemma => kernel_rfl) (fun _ _ _ h => h) (Or.inl ⟨by rfl, ?_⟩) (by assumption) ?_
          rotate_left
          · (intro w hSw; (try dsimp only at hSw); go_simp); (try with_reducible rfl)
          simp only [List.getElem_toArray, List.getElem_cons_zero, List.getElem_cons_succ, Act.put, List.setIfInBounds_toArray, List.set_cons_zero, List.set_cons_succ]
          refine wpAnyH_take (i := 18) (v := ?_) rfl (by as_aux_lemma => kernel_rfl) (by as_aux_lemma => kernel_rfl) (by as_aux_lemma => kernel_rfl) (fun _ _ _ h => h) (Or.inl ⟨by rfl, ?_⟩) (by assumption) ?_
          rotate_left
          · (intro w hSw; (try dsimp only at hSw); go_simp); (try with_reducible rfl)
          simp only [List.getElem_toArray, List.getElem_cons_zero, List.getElem_cons_succ, Act.put, List.setIfInBounds_toArray, List.set_cons_zero, List.set_cons_succ]
          refine wpAnyH_ready (rs := [17]) (by as_aux_lemma => kernel_rfl) (by simp) ?_
          refine AllReadyH.cons rfl (fun K hK => ?_) AllReadyH.nil
          go_simp
          refine (HSb.out _ (T.out.ext (E.trans Fz4))).mono ?_
          rintro _ uz5 ⟨rfl, euz5⟩
          have Fz5 : Ext wr uz5 := Fz4.trans euz5
          refine hK.out _ _ ⟨b2 (Ba.ext Fz5), b2 (Bb.ext Fz5), b2 (Bc.ext Fz5)⟩ (fun hHeld => ?_)
          clear hK K euz5 Fz4
          refine wpAnyH_ready (rs := [19]) (by as_aux_lemma => kernel_rfl) (by simp) ?_
          refine AllReadyH.cons rfl (fun K hK => ?_) AllReadyH.nil
          go_simp
          refine (HSa.out _ (T.out.ext (E.trans Fz5))).mono ?_
          rintro _ uz6 ⟨rfl, euz6⟩
          have Fz6 : Ext wr uz6 := Fz5.trans euz6
          refine hK.out _ _ ⟨b2 (Ba.ext Fz6), b2 (Bb.ext Fz6), b2 (Bc.ext Fz6)⟩ (fun hHeld => ?_)
          clear hK K euz6 Fz5
          refine wpAnyH_take (i := 20) (v := ?_) rfl (by as_aux_lemma => kernel_rfl) (by as_aux_lemma => kernel_rfl) (by as_aux_lemma => kernel_rfl) (fun _ _ _ h => h) (Or.inl ⟨by rfl, ?_⟩) (by assumption) ?_
          rotate_left
          · (intro w hSw; (try dsimp only at hSw); go_simp); (try with_reducible rfl)
          simp only [List.getElem_toArray, List.getElem_cons_zero, List.getElem_cons_succ, Act.put, List.setIfInBounds_toArray, List.set_cons_zero, List.set_cons_succ]
          refine wpAnyH_take (i := 21) (v := ?_) rfl (by as_aux_lemma => kernel_rfl) (by as_aux_lemma => kernel_rfl) (by as_aux_lemma => kernel_rfl) (fun _ _ _ h => h) (Or.inl ⟨by rfl, ?_⟩) (by assumption) ?_
          rotate_left
          · (intro w hSw; (try dsimp only at hSw); go_simp); (try with_reducible rfl)
          simp only [List.getElem_toArray, List.getElem_cons_zero, List.getElem_cons_succ, Act.put, List.setIfInBounds_toArray, List.set_cons_zero, List.set_cons_succ]
          refine wpAnyH_take (i := 22) (v := ?_) rfl (by as_aux_lemma => kernel_rfl) (by as_aux_lemma => kernel_rfl) (by as_aux_lemma => kernel_rfl) (fun _ _ _ h => h) (Or.inl ⟨by rfl, ?_⟩) (by assumption) ?_
          rotate_left
          · (intro w hSw; (try dsimp only at hSw); go_simp); (try with_reducible rfl)
          simp only [List.getElem_toArray, List.getElem_cons_zero, List.getElem_cons_succ, Act.put, List.setIfInBounds_toArray, List.set_cons_zero, List.set_cons_succ]
          refine wpAnyH_take (i := 23) (v := ?_) rfl (by as_aux_lemma => kernel_rfl) (by as_aux_lemma => kernel_rfl) (by as_aux_lemma => kernel_rfl) (fun _ _ _ h => h) (Or.inl ⟨by rfl, ?_⟩) (by assumption) ?_
          rotate_left
          · (intro w hSw; (try dsimp only at hSw); go_simp); (try with_reducible rfl)
          simp only [List.getElem_toArray, List.getElem_cons_zero, List.getElem_cons_succ, Act.put, List.setIfInBounds_toArray, List.set_cons_zero, List.set_cons_succ]
          refine wpAnyH_take (i := 25) (v := ?_) rfl (by as_aux_lemma => kernel_rfl) (by as_aux_lemma => kernel_rfl) (by as_aux_lemma => kernel_rfl) (fun _ _ _ h => h) (Or.inl ⟨by rfl, ?_⟩) (by assumption) ?_
          rotate_left
          · (intro w hSw; (try dsimp only at hSw); go_simp); (try with_reducible rfl)
          simp only [List.getElem_toArray, List.getElem_cons_zero, List.getElem_cons_succ, Act.put, List.setIfInBounds_toArray, List.set_cons_zero, List.set_cons_succ]
          refine wpAnyH_ready (rs := [24]) (by as_aux_lemma => kernel_rfl) (by simp) ?_
          refine AllReadyH.cons rfl (fun K hK => ?_) AllReadyH.nil
          go_simp
          refine (HSc.out _ (T.out.ext (E.trans Fz6))).mono ?_
          rintro _ uz7 ⟨rfl, euz7⟩
          have Fz7 : Ext wr uz7 := Fz6.trans euz7
          refine hK.out _ _ ⟨b2 (Ba.ext Fz7), b2 (Bb.ext Fz7), b2 (Bc.ext Fz7)⟩ (fun hHeld => ?_)
          clear hK K euz7 Fz6
          refine wpAnyH_ready (rs := [26]) (by as_aux_lemma => kernel_rfl) (by simp) ?_
          refine AllReadyH.cons rfl (fun K hK => ?_) AllReadyH.nil
          go_simp
          refine (HSa.out _ (T.out.ext (E.trans Fz7))).mono ?_
          rintro _ uz8 ⟨rfl, euz8⟩
          have Fz8 : Ext wr uz8 := Fz7.trans euz8
          refine hK.out _ _ ⟨b2 (Ba.ext Fz8), b2 (Bb.ext Fz8), b2 (Bc.ext Fz8)⟩ (fun hHeld => ?_)
          clear hK K euz8 Fz7
          refine wpAnyH_take (i := 27) (v := ?_) rfl (by as_aux_lemma => kernel_rfl) (by as_aux_lemma => kernel_rfl) (by as_aux_lemma => kernel_rfl) (fun _ _ _ h => h) (Or.inl ⟨by rfl, ?_⟩) (by assumption) ?_
          rotate_left
          · (intro w hSw; (try dsimp only at hSw); go_simp); (try with_reducible rfl)
          simp only [List.getElem_toArray, List.getElem_cons_zero, List.getElem_cons_succ, Act.put, List.setIfInBounds_toArray, List.set_cons_zero, List.set_cons_succ]
          refine wpAnyH_take (i := 28) (v := ?_) rfl (by as_aux_lemma => kernel_rfl) (by as_aux_lemma => kernel_rfl) (by as_aux_lemma => kernel_rfl) (fun _ _ _ h => h) (Or.inl ⟨by rfl, ?_⟩) (by assumption) ?_
          rotate_left
          · (intro w hSw; (try dsimp only at hSw); go_simp); (try with_reducible rfl)
          simp only [List.getElem_toArray, List.getElem_cons_zero, List.getElem_cons_succ, Act.put, List.setIfInBounds_toArray, List.set_cons_zero, List.set_cons_succ]
          refine wpAnyH_take (i := 29) (v := ?_) rfl (by as_aux_lemma => kernel_rfl) (by as_aux_lemma => kernel_rfl) (by as_aux_lemma => kernel_rfl) (fun _ _ _ h => h) (Or.inl ⟨by rfl, ?_⟩) (by assumption) ?_
          rotate_left
          · (intro w hSw; (try dsimp only at hSw); go_simp); (try with_reducible rfl)
          simp only [List.getElem_toArray, List.getElem_cons_zero, List.getElem_cons_succ, Act.put, List.setIfInBounds_toArray, List.set_cons_zero, List.set_cons_succ]
          refine wpAnyH_done (by as_aux_lemma => kernel_rfl) ?_ _
          clear Ba_0 Ba_1 Ba_l Bb_0 Bb_1 Bb_l Bc_0 Bc_1 Bc_l
          replace Ba := Ba.ext Fz8
          replace Bb := Bb.ext Fz8
          replace Bc := Bc.ext Fz8
          have Ez := E.trans Fz8
          clear Fz8 hHeld
          go_wp2
          go_ret
          exact ⟨rfl, Ez⟩
theorem walk_TurnWhole (w : World) (T : Tu w) (K Q : Int) (hK : -9223372036854775808 ≤ K ∧ K ≤ 9223372036854775807) (hQ : -9223372036854775808 ≤ Q ∧ Q ≤ 9223372036854775807) (n : Int) (hn : 0 ≤ n ∧ n ≤ 255) (m : Int) (hm : 0 ≤ m ∧ m ≤ 255) : Calls Tryd.prog 7 #[.agg #[.int .i64 K, .int .i64 Q], .int .u8 n, .int .u8 m] w (RetE w (.bool true)) := by
  cases hr : rightT K Q
  · exact whole_no w T K Q hK hQ hr n m hn hm
  · obtain ⟨h1, h2⟩ := rightT_iff.1 hr
    by_cases c1 : 25 < Q
    · exact whole_q w T K Q hK hQ hr n m hn hm c1
    · by_cases c2 : 33554432 < K
      · exact whole_u w T K Q hK hQ hr n m hn hm ⟨c1, c2⟩
      · by_cases c3 : K < -33554432
        · exact whole_l w T K Q hK hQ hr n m hn hm ⟨c1, c2, c3⟩
        · obtain ⟨q, rfl⟩ : ∃ q : Nat, Q = (q : Int) := ⟨Q.toNat, by omega⟩
          exact whole_in w T K q n m hn hm (by omega) (by omega)
end Go.Proofs.YtncopdgonbgaaaaDoor
