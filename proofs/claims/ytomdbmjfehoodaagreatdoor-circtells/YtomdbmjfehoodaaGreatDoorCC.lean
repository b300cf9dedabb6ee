/- Walks of package circ: halves, and the iterator that it tells. -/
import Derived.Test.YtomdbmjfehoodaaGreatDoorCB
import Derived.Test.YtomdbmjfehoodaaGreatDoorMU
set_option maxRecDepth 8000
namespace Go.Proofs.YtomdbmjfehoodaaGreatDoor
open Go.RowKit
set_option linter.unusedVariables false
attribute [local go_sem] Oper.semAt_some
set_option maxRecDepth 8000 in
theorem halves_any (w : World) (g : Nat) (hg : w.heap.size = g) (K : Int) (Q : Nat) :
    Calls Tryz.prog 74 #[.agg #[.int .i64 K, .int .i64 (Q : Int)]] w
      (fun e w' => e = .returned (.func (.func 97) #[] #[.pointer (some ⟨g, 0, none⟩)]) ∧ Ext w w' ∧ B2 w' g (.int .i64 K) (.int .i64 (Q : Int))) := by
  subst hg
  go_enter Tryz.func74, Tryz.ntmps74
  go_wp2
  go_ret
  exact ⟨rfl, (Ext.refl w).alloc _, B2.at (Ext.refl _) rfl⟩
/-- A loop inside a fence, round by round. -/
theorem rounds_ind {F : Fence} {n : Nat} {P : Program} {c : Code} {Q' : Exit → Act → World → Prop} (S : Nat → Act → World → Prop) (h0 : ∀ a W, ¬ S 0 a W)
    (h : ∀ r (J : Act → World → Prop), (∀ a' W', S r a' W' → J a' W') → ∀ a W, S (r + 1) a W → c.wpIn F n P (Exit.then J Q') a W) :
    ∀ r a W, S r a W → Code.roundsIn F n P c Q' r a W
  | 0, a, W, s => absurd s (h0 a W)
  | r + 1, a, W, s => h r _ (rounds_ind S h0 h r) a W s
set_option maxRecDepth 8000 in
set_option maxHeartbeats 2000000 in
theorem halves_in (n l gt : Nat) (W : World) (K : Int) (Q : Nat) (hQ : Q ≤ 40) (D : Nat → World → Prop)
    (hB : ∀ i W, D i W → B2 W gt (.int .i64 K) (.int .i64 (Q : Int)))
    (hY : ∀ (i : Nat) (q : Int) (W : World), i < Q → q = (i : Int) + 1 → D i W → YieldAt Fence.wide (n - 1) Tryz.prog l #[.agg #[.int .i64 K, .int .i64 q]] W fun e W' => e = .returned (.bool true) ∧ D (i + 1) W')
    (h0 : D 0 W) :
    CallsIn Fence.wide n Tryz.prog 97 #[.func (.yield l) #[] #[], .pointer (some ⟨gt, 0, none⟩)] W fun e W' => (∃ v, e = .returned v) ∧ D Q W' := by
  have HB := Lib.hid hB
  have HY := Lib.hid hY
  clear hB hY
  refine callsIn_of_wp Tryz.func97 rfl trivial ?_ rfl
  simp only [Tryz.ntmps97, List.size_toArray, List.length_cons, List.length_nil, Nat.reduceAdd, Nat.reduceSub, Array.replicate_succ, Array.replicate_zero, List.push_toArray, List.append_toArray, List.nil_append, List.cons_append]
  gi_wp2
  refine wpIn_loop_rounds (Q + 1) ?_
  refine rounds_ind (fun r a W => ∃ (i : Nat) (q : Int) (u2 u4 u5 u6 u7 u8 u9 u10 u11 u12 u13 u14 u15 u16 : Value), i + r = Q + 1 ∧ i ≤ Q ∧ q = (i : Int) + 1 ∧ D i W ∧ a = { tmps := #[.func (.yield l) #[] #[], .pointer (some ⟨gt, 0, none⟩), u2, .int .i64 q, u4, u5, u6, u7, u8, u9, u10, u11, u12, u13, u14, u15, u16], defers := [] }) ?_ ?_ (Q + 1) _ _ ?_
  · rintro a W ⟨i, q, u2, u4, u5, u6, u7, u8, u9, u10, u11, u12, u13, u14, u15, u16, h1, h2, _⟩
    omega
  · rintro r J HJ a W ⟨i, q, u2, u4, u5, u6, u7, u8, u9, u10, u11, u12, u13, u14, u15, u16, h1, h2, hq, hD, rfl⟩
    replace HJ := Lib.hid HJ
    have B := HB.out _ _ hD
    obtain ⟨b0, b1⟩ := id B
    by_cases hi : i < Q
    · obtain ⟨g1, t1, a1, c1, hy1, hR1⟩ := HY.out i q W hi hq hD
      have hle : q ≤ (Q : Int) := by omega
      have hq2 : wrap64 (q + 1) = q + 1 := by unfold wrap64; omega
      have Hi := Lib.hid (show i + 1 + r = Q + 1 ∧ i + 1 ≤ Q ∧ q + 1 = ((i + 1 : Nat) : Int) + 1 by omega)
      clear h1 h2 hq hi hQ hD B h0
      gi_wp2
      refine ⟨fun h => absurd h (by decide), hR1.mono ?_⟩
      rintro _ w1 ⟨rfl, j1⟩
      clear b0 b1 hR1 hy1
      gi_wp2
      exact HJ.out _ _ ⟨i + 1, q + 1, _, _, _, _, _, _, _, _, _, _, _, _, _, _, Hi.out.1, Hi.out.2.1, Hi.out.2.2, j1, rfl⟩
    · obtain rfl : i = Q := by omega
      have hle : ¬ q ≤ (i : Int) := by omega
      clear HJ HY h1 h2 hq hi
      gi_wp2
      go_end0
      exact ⟨⟨_, rfl⟩, hD⟩
  · exact ⟨0, 1, _, _, _, _, _, _, _, _, _, _, _, _, _, _, by omega, by omega, by omega, h0, rfl⟩
end Go.Proofs.YtomdbmjfehoodaaGreatDoor
