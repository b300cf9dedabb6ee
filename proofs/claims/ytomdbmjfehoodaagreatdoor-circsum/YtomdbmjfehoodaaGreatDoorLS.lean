/- What the law on sums of angles asks besides: are two angles good, do enclosures meet. -/
import Derived.Test.YtomdbmjfehoodaaGreatDoorLG
set_option maxRecDepth 8000
namespace Go.Proofs.YtomdbmjfehoodaaGreatDoor
open Go.RowKit
set_option linter.unusedVariables false
structure B4 (w : World) (g : Nat) (a b c d : Value) : Prop where
  c0 : w.cell? ⟨g, 0, none⟩ = some a
  c1 : w.cell? ⟨g, 1, none⟩ = some b
  c2 : w.cell? ⟨g, 2, none⟩ = some c
  c3 : w.cell? ⟨g, 3, none⟩ = some d
theorem B4.ext {w w' : World} {g : Nat} {a b c d : Value} (h : B4 w g a b c d) (E : Ext w w') : B4 w' g a b c d := by
  have hg : g < w.heap.size := World.block_lt_of_cell? w _ h.c0
  exact ⟨(E.cell hg).trans h.c0, (E.cell hg).trans h.c1, (E.cell hg).trans h.c2, (E.cell hg).trans h.c3⟩
theorem B4.fresh {w : World} {a b c d : Value} {t : TypeId} {g : Nat} (hg : w.heap.size = g) : B4 (w.alloc (.cells #[a, b, c, d] t)) g a b c d := by
  subst hg
  exact ⟨by rw [World.cell?_alloc_new]; rfl, by rw [World.cell?_alloc_new]; rfl, by rw [World.cell?_alloc_new]; rfl, by rw [World.cell?_alloc_new]; rfl⟩
theorem good_parts {K Q : Int} : (goodT K Q = true ∧ rightT K Q = true ∧ ¬ 14 < Q) ∨ (goodT K Q = false ∧ rightT K Q = true ∧ 14 < Q) ∨ (goodT K Q = false ∧ rightT K Q = false) := by
  unfold goodT
  cases rightT K Q with
  | false => right; right; simp
  | true =>
    by_cases h : Q ≤ 14
    · left; exact ⟨by simp [h], rfl, by omega⟩
    · right; left; exact ⟨by simp [h], rfl, by omega⟩
set_option maxRecDepth 8000 in
set_option maxHeartbeats 2000000 in
theorem good2_any (w : World) (g : Nat) (K Q K2 Q2 : Int) (r : Bool) (hr : (goodT K Q && goodT K2 Q2) = r) (hK : -9223372036854775808 ≤ K ∧ K ≤ 9223372036854775807) (hQ : -9223372036854775808 ≤ Q ∧ Q ≤ 9223372036854775807) (hK2 : -9223372036854775808 ≤ K2 ∧ K2 ≤ 9223372036854775807) (hQ2 : -9223372036854775808 ≤ Q2 ∧ Q2 ≤ 9223372036854775807) (B : B4 w g (.int .i64 K) (.int .i64 Q) (.int .i64 K2) (.int .i64 Q2)) :
    Calls Tryz.prog 10 #[.slice (some ⟨g, 0, none⟩) 2 2] w (RetE w (.bool r)) := by
  obtain ⟨c0, c1, c2, c3⟩ := id B
  have hlt := World.block_lt_of_cell? _ _ c0
  rcases good_parts (K := K) (Q := Q) with ⟨a0, a1, a2⟩ | ⟨a0, a1, a2⟩ | ⟨a0, a1⟩
  · rw [a0, Bool.true_and] at hr
    rcases good_parts (K := K2) (Q := Q2) with ⟨b0, b1, b2⟩ | ⟨b0, b1, b2⟩ | ⟨b0, b1⟩
    · rw [b0] at hr
      subst hr
      have HR := Lib.hid (fun w' => rright_lit w' K Q true a1 hK hQ)
      have HS := Lib.hid (fun w' => rright_lit w' K2 Q2 true b1 hK2 hQ2)
      clear a0 a1 b0 b1 hK hQ hK2 hQ2
      go_enter Tryz.func10, Tryz.ntmps10
      go_wp2
      refine wp_loop_rounds 4 ?_
      rw [rounds_succ]
      go_wp2_with fail
      refine (HR.out _).mono ?_
      rintro _ w1 ⟨rfl, e1⟩
      replace B := B.ext e1
      clear c0 c1 c2 c3
      obtain ⟨c0, c1, c2, c3⟩ := id B
      go_wp2_with fail
      rw [rounds_succ]
      go_wp2_with fail
      refine (HS.out _).mono ?_
      rintro _ w2 ⟨rfl, e2⟩
      replace B := B.ext e2
      clear c0 c1 c2 c3
      obtain ⟨c0, c1, c2, c3⟩ := id B
      go_wp2
      rw [rounds_succ]
      go_wp2
      go_ret
      exact ⟨rfl, e1.trans e2⟩
    · rw [b0] at hr
      subst hr
      have HR := Lib.hid (fun w' => rright_lit w' K Q true a1 hK hQ)
      have HS := Lib.hid (fun w' => rright_lit w' K2 Q2 true b1 hK2 hQ2)
      clear a0 a1 b0 b1 hK hQ hK2 hQ2
      go_enter Tryz.func10, Tryz.ntmps10
      go_wp2
      refine wp_loop_rounds 4 ?_
      rw [rounds_succ]
      go_wp2_with fail
      refine (HR.out _).mono ?_
      rintro _ w1 ⟨rfl, e1⟩
      replace B := B.ext e1
      clear c0 c1 c2 c3
      obtain ⟨c0, c1, c2, c3⟩ := id B
      go_wp2_with fail
      rw [rounds_succ]
      go_wp2_with fail
      refine (HS.out _).mono ?_
      rintro _ w2 ⟨rfl, e2⟩
      replace B := B.ext e2
      clear c0 c1 c2 c3
      obtain ⟨c0, c1, c2, c3⟩ := id B
      go_wp2
      go_ret
      exact ⟨rfl, e1.trans e2⟩
    · rw [b0] at hr
      subst hr
      have HR := Lib.hid (fun w' => rright_lit w' K Q true a1 hK hQ)
      have HS := Lib.hid (fun w' => rright_lit w' K2 Q2 false b1 hK2 hQ2)
      clear a0 a1 b0 b1 hK hQ hK2 hQ2
      go_enter Tryz.func10, Tryz.ntmps10
      go_wp2
      refine wp_loop_rounds 4 ?_
      rw [rounds_succ]
      go_wp2_with fail
      refine (HR.out _).mono ?_
      rintro _ w1 ⟨rfl, e1⟩
      replace B := B.ext e1
      clear c0 c1 c2 c3
      obtain ⟨c0, c1, c2, c3⟩ := id B
      go_wp2_with fail
      rw [rounds_succ]
      go_wp2_with fail
      refine (HS.out _).mono ?_
      rintro _ w2 ⟨rfl, e2⟩
      replace B := B.ext e2
      clear c0 c1 c2 c3
      obtain ⟨c0, c1, c2, c3⟩ := id B
      go_wp2
      go_ret
      exact ⟨rfl, e1.trans e2⟩
  · rw [a0, Bool.false_and] at hr
    subst hr
    have HR := Lib.hid (fun w' => rright_lit w' K Q true a1 hK hQ)
    clear a0 a1 hK hQ hK2 hQ2
    go_enter Tryz.func10, Tryz.ntmps10
    go_wp2
    refine wp_loop_rounds 4 ?_
    rw [rounds_succ]
    go_wp2_with fail
    refine (HR.out _).mono ?_
    rintro _ w1 ⟨rfl, e1⟩
    replace B := B.ext e1
    clear c0 c1 c2 c3
    obtain ⟨c0, c1, c2, c3⟩ := id B
    go_wp2
    go_ret
    exact ⟨rfl, e1⟩
  · rw [a0, Bool.false_and] at hr
    subst hr
    have HR := Lib.hid (fun w' => rright_lit w' K Q false a1 hK hQ)
    clear a0 a1 hK hQ hK2 hQ2
    go_enter Tryz.func10, Tryz.ntmps10
    go_wp2
    refine wp_loop_rounds 4 ?_
    rw [rounds_succ]
    go_wp2_with fail
    refine (HR.out _).mono ?_
    rintro _ w1 ⟨rfl, e1⟩
    replace B := B.ext e1
    clear c0 c1 c2 c3
    obtain ⟨c0, c1, c2, c3⟩ := id B
    go_wp2
    go_ret
    exact ⟨rfl, e1⟩
set_option maxRecDepth 8000 in
set_option maxHeartbeats 2000000 in
theorem rmeet_yes (w : World) (va vb : Value) (l h l' h' : Dyadic) (P Q : Nat) (ha : In w va l h) (hb : In w vb l' h') (r1 : Rg P Q l) (r2 : Rg P Q h) (r3 : Rg P Q l') (r4 : Rg P Q h') (hp : P + Q ≤ 4800) (o1 : l ≤ h') (o2 : l' ≤ h) :
    Calls Tryz.prog 35 #[va, vb] w (RetE w (.bool true)) := by
  obtain ⟨ba, Aa, na, ca, ea, ba', Aa', na', ca', ea', rfl, a1, a2⟩ := ha
  obtain ⟨bb, Ab, nb, cb, eb, bb', Ab', nb', cb', eb', rfl, b1, b2⟩ := hb
  obtain ⟨c, hc⟩ : ∃ c, cmpD l h' = c := ⟨_, rfl⟩
  obtain ⟨d, hd⟩ : ∃ d, cmpD l' h = d := ⟨_, rfl⟩
  have hc0 : c ≤ 0 := by rw [← hc]; exact (cmp_le _ _).2 o1
  have hd0 : d ≤ 0 := by rw [← hd]; exact (cmp_le _ _).2 o2
  have HC := Lib.hid (fun (w' : World) (E : Ext w w') => hc ▸ rcmpD_any w' _ _ l h' P Q (a1.ext E) (b2.ext E) r1 r4 (by omega))
  have HD := Lib.hid (fun (w' : World) (E : Ext w w') => hd ▸ rcmpD_any w' _ _ l' h P Q (b1.ext E) (a2.ext E) r3 r2 (by omega))
  clear a1 a2 b1 b2 hc hd o1 o2
  go_enter Tryz.func35, Tryz.ntmps35
  go_wp2_with fail
  refine (HC.out _ (((Ext.refl w).alloc _).alloc _)).mono ?_
  rintro _ w1 ⟨rfl, e1⟩
  have E1 : Ext w w1 := (((Ext.refl w).alloc _).alloc _).trans e1
  have Ba : Bx w1 w.heap.size (.bool ba) (.slice Aa na ca) (.int .i64 ea) (.bool ba') (.slice Aa' na' ca') (.int .i64 ea') := Bx.at (((Ext.refl _).alloc _).trans e1) rfl
  have Bb : Bx w1 (w.heap.size + 1) (.bool bb) (.slice Ab nb cb) (.int .i64 eb) (.bool bb') (.slice Ab' nb' cb') (.int .i64 eb') := Bx.at e1 (by simp)
  obtain ⟨x0, x1, x2, x3, x4, x5⟩ := id Ba
  obtain ⟨y0, y1, y2, y3, y4, y5⟩ := id Bb
  clear e1 HC
  go_wp2_with fail
  refine (HD.out _ E1).mono ?_
  rintro _ w2 ⟨rfl, e2⟩
  go_wp2
  go_ret
  exact ⟨rfl, E1.trans e2⟩
structure Six (w : World) (g o : Nat) (x y z x' y' z' : Value) : Prop where
  c0 : w.cell? ⟨g, o, none⟩ = some x
  c1 : w.cell? ⟨g, o + 1, none⟩ = some y
  c2 : w.cell? ⟨g, o + 2, none⟩ = some z
  c3 : w.cell? ⟨g, o + 3, none⟩ = some x'
  c4 : w.cell? ⟨g, o + 4, none⟩ = some y'
  c5 : w.cell? ⟨g, o + 5, none⟩ = some z'
theorem Six.ext {w w' : World} {g o : Nat} {x y z x' y' z' : Value} (h : Six w g o x y z x' y' z') (E : Ext w w') : Six w' g o x y z x' y' z' := by
  have hg : g < w.heap.size := World.block_lt_of_cell? w _ h.c0
  exact ⟨(E.cell hg).trans h.c0, (E.cell hg).trans h.c1, (E.cell hg).trans h.c2, (E.cell hg).trans h.c3, (E.cell hg).trans h.c4, (E.cell hg).trans h.c5⟩
end Go.Proofs.YtomdbmjfehoodaaGreatDoor
