/- Walks of package ivl: the iterator over the corners. -/
import Derived.Test.YtimdglgianheiaaGreatDoorP8
import Derived.RangeFuncCalls
import Derived.RangeFuncLeaves
import Derived.LoopNIn
import Derived.TacticsIn
import Derived.RegionIn
namespace Go.Proofs.YtimdglgianheiaaGreatDoor
open Go.RowKit
theorem box_go {w w' : World} {g : Nat} {x y z : Value} (h : Box w g x y z) (e : w'.heap[g]? = w.heap[g]?) : Box w' g x y z :=
  ⟨(World.cell?_of_block e).trans h.c0, (World.cell?_of_block e).trans h.c1, (World.cell?_of_block e).trans h.c2⟩
/-- All but the six blocks from r on is as it was. -/
structure Kp (r : Nat) (w w' : World) : Prop where
  size : w.heap.size ≤ w'.heap.size
  block : ∀ k, k < w.heap.size → k < r ∨ r + 6 ≤ k → w'.heap[k]? = w.heap[k]?
theorem Box.kp {r : Nat} {w w' : World} {g : Nat} {x y z : Value} (h : Box w g x y z) (k : Kp r w w') (hg : g < r ∨ r + 6 ≤ g) : Box w' g x y z := box_go h (k.block _ (World.block_lt_of_cell? w _ h.c0) hg)

theorem idx0 (a b c d e f : Value) (W : World) : (Instr.index 78 (.agg #[a, b, c, d, e, f]) (.int .i64 0)).run Tryz.prog W = .ok (.agg #[a, b, c]) W := by kernel_rfl
theorem idx1 (a b c d e f : Value) (W : World) : (Instr.index 78 (.agg #[a, b, c, d, e, f]) (.int .i64 1)).run Tryz.prog W = .ok (.agg #[d, e, f]) W := by kernel_rfl
set_option maxHeartbeats 1000000 in
theorem corners_any (w : World) (g : Nat) (hg : w.heap.size = g) (ba : Bool) (Aa : Option Addr) (na ca : Nat) (ea : Int) (ba' : Bool) (Aa' : Option Addr) (na' ca' : Nat) (ea' : Int) (bb : Bool) (Ab : Option Addr) (nb cb : Nat) (eb : Int) (bb' : Bool) (Ab' : Option Addr) (nb' cb' : Nat) (eb' : Int) :
    Calls Tryz.prog 48 #[.agg #[.bool ba, .slice Aa na ca, .int .i64 ea, .bool ba', .slice Aa' na' ca', .int .i64 ea'], .agg #[.bool bb, .slice Ab nb cb, .int .i64 eb, .bool bb', .slice Ab' nb' cb', .int .i64 eb']] w
      (fun e w' => e = .returned (.func (.func 79) #[] #[.pointer (some ⟨g, 0, none⟩), .pointer (some ⟨g + 1, 0, none⟩)]) ∧ Ext w w' ∧
        Bx w' g (.bool ba) (.slice Aa na ca) (.int .i64 ea) (.bool ba') (.slice Aa' na' ca') (.int .i64 ea') ∧ Bx w' (g + 1) (.bool bb) (.slice Ab nb cb) (.int .i64 eb) (.bool bb') (.slice Ab' nb' cb') (.int .i64 eb')) := by
  subst hg
  go_enter Tryz.func48, Tryz.ntmps48
  go_wp2
  go_ret
  exact ⟨rfl, ((Ext.refl w).alloc _).alloc _, Bx.at ((Ext.refl _).alloc _) rfl, Bx.at (Ext.refl _) (by simp)⟩

set_option maxRecDepth 4000 in
set_option maxHeartbeats 2000000 in
theorem corners_in (n : Nat) (l r ga gb : Nat) (base W : World) (K : Nat → World → Prop) (x1 x2 y1 y2 : Dyadic) (P Q P' Q' : Nat)
    (ba : Bool) (Aa : Option Addr) (na ca : Nat) (ea : Int) (ba' : Bool) (Aa' : Option Addr) (na' ca' : Nat) (ea' : Int) (bb : Bool) (Ab : Option Addr) (nb cb : Nat) (eb : Int) (bb' : Bool) (Ab' : Option Addr) (nb' cb' : Nat) (eb' : Int)
    (Ba : Bx base ga (.bool ba) (.slice Aa na ca) (.int .i64 ea) (.bool ba') (.slice Aa' na' ca') (.int .i64 ea')) (Bb : Bx base gb (.bool bb) (.slice Ab nb cb) (.int .i64 eb) (.bool bb') (.slice Ab' nb' cb') (.int .i64 eb'))
    (d1 : Dn base (.agg #[.bool ba, .slice Aa na ca, .int .i64 ea]) x1) (d2 : Dn base (.agg #[.bool ba', .slice Aa' na' ca', .int .i64 ea']) x2)
    (d3 : Dn base (.agg #[.bool bb, .slice Ab nb cb, .int .i64 eb]) y1) (d4 : Dn base (.agg #[.bool bb', .slice Ab' nb' cb', .int .i64 eb']) y2)
    (r1 : Rg P Q x1) (r2 : Rg P Q x2) (r3 : Rg P' Q' y1) (r4 : Rg P' Q' y2) (hp : P + Q ≤ 4800) (hp' : P' + Q' ≤ 4800) (T : Tb base)
    (hK : ∀ i W W', K i W → Ext W W' → K i W') (hB : ∀ i W, K i W → Ext base W) (hs : ∀ i W, K i W → r + 6 ≤ W.heap.size)
    (hY : ∀ (i : Nat) (x M y : Value) (W : World) (d : Dyadic), K i W → ((i = 0 ∧ d = x1 * y1) ∨ (i = 1 ∧ d = x1 * y2) ∨ (i = 2 ∧ d = x2 * y1) ∨ (i = 3 ∧ d = x2 * y2)) → Dn W (.agg #[x, M, y]) d → NotAt (r + 1) M →
      YieldAt Fence.wide (n - 1) Tryz.prog l #[.agg #[x, M, y]] W fun e W' => e = .returned (.bool true) ∧ K (i + 1) W' ∧ Kp r W W')
    (h0 : K 0 W) :
    CallsIn Fence.wide n Tryz.prog 79 #[.func (.yield l) #[] #[], .pointer (some ⟨ga, 0, none⟩), .pointer (some ⟨gb, 0, none⟩)] W fun e W' => (∃ v, e = .returned v) ∧ K 4 W' := by
  have HK := Lib.hid hK
  have HB := Lib.hid hB
  have HS := Lib.hid hs
  have HY := Lib.hid hY
  clear hK hB hs hY
  have E0 := HB.out _ _ h0
  have B1 := Ba.ext E0
  have B2 := Bb.ext E0
  obtain ⟨p0, p1, p2, p3, p4, p5⟩ := id B1
  obtain ⟨q0, q1, q2, q3, q4, q5⟩ := id B2
  refine callsIn_of_wp Tryz.func79 rfl trivial ?_ rfl
  simp only [Tryz.ntmps79, List.size_toArray, List.length_cons, List.length_nil, Nat.reduceAdd, Nat.reduceSub, Array.replicate_succ, Array.replicate_zero, List.push_toArray, List.append_toArray, List.nil_append, List.cons_append]
  have i1 := idx0 (.bool ba) (.slice Aa na ca) (.int .i64 ea) (.bool ba') (.slice Aa' na' ca') (.int .i64 ea')
  have i2 := idx1 (.bool ba) (.slice Aa na ca) (.int .i64 ea) (.bool ba') (.slice Aa' na' ca') (.int .i64 ea')
  have i3 := idx0 (.bool bb) (.slice Ab nb cb) (.int .i64 eb) (.bool bb') (.slice Ab' nb' cb') (.int .i64 eb')
  have i4 := idx1 (.bool bb) (.slice Ab nb cb) (.int .i64 eb) (.bool bb') (.slice Ab' nb' cb') (.int .i64 eb')
  have la := World.block_lt_of_cell? _ _ p0
  have lb := World.block_lt_of_cell? _ _ q0
  gi_wp2
  refine wpIn_loop_rounds 3 ?_
  rw [roundsIn_succ]
  gi_wp2
  refine wpIn_loop_rounds 3 ?_
  rw [roundsIn_succ]
  gi_wp2_with fail
  refine ⟨trivial, fun h => absurd h (by decide), (callsIn_wide.2 (mulD_anyF _ _ _ x1 y1 P Q P' Q' (d1.ext (E0.trans (((Ext.refl W).alloc _).alloc _))) (d3.ext (E0.trans (((Ext.refl W).alloc _).alloc _))) r1 r3 hp hp' (T.ext (E0.trans (((Ext.refl W).alloc _).alloc _))))).mono ?_⟩
  rintro _ u1 ⟨X1, M1, Y1, rfl, m1, e1, nw1⟩
  have s1 := HS.out _ _ h0
  have f1 : Ext W u1 := (((Ext.refl W).alloc _).alloc _).trans e1
  have k1 := HK.out 0 _ _ h0 f1
  have X : Box u1 (W.heap.size) (.bool ba) (.slice Aa na ca) (.int .i64 ea) := Box.at (((Ext.refl _).alloc _).trans e1) rfl
  have sX := s1
  have nt1 := (nw1.low (w := W) (((Ext.refl W).alloc _).alloc _).size).not (g := r + 1) (by omega)
  obtain ⟨g1, t1, a1, b1, hy1, hR1⟩ := HY.out 0 _ _ _ u1 _ k1 (by simp) m1 nt1
  obtain ⟨xb1, xA1, xn1, xc1, xe1, hv1⟩ := m1.form
  simp only [Value.agg.injEq, Array.mk.injEq, List.cons.injEq, and_true] at hv1
  obtain ⟨rfl, rfl, rfl⟩ := hv1
  clear p0 p1 p2 p3 p4 p5 q0 q1 q2 q3 q4 q5 e1 nw1 nt1 m1 la lb
  gi_wp2
  refine ⟨fun h => absurd h (by decide), hR1.mono ?_⟩
  rintro _ w1 ⟨rfl, j1, kp1⟩
  replace X := X.kp kp1 (.inr sX)
  have E1 := HB.out _ _ j1
  replace B1 := Ba.ext E1
  replace B2 := Bb.ext E1
  obtain ⟨p0, p1, p2, p3, p4, p5⟩ := id B1
  obtain ⟨q0, q1, q2, q3, q4, q5⟩ := id B2
  have la := World.block_lt_of_cell? _ _ p0
  have lb := World.block_lt_of_cell? _ _ q0
  clear hy1 hR1 kp1 f1 k1
  obtain ⟨z0, z1, z2⟩ := id X
  have lz := World.block_lt_of_cell? _ _ z0
  gi_wp2
  clear z0 z1 z2 lz
  obtain ⟨z0, z1, z2⟩ := id X
  have lz := World.block_lt_of_cell? _ _ z0
  rw [roundsIn_succ]
  gi_wp2_with fail
  refine ⟨trivial, fun h => absurd h (by decide), (callsIn_wide.2 (mulD_anyF _ _ _ x1 y2 P Q P' Q' (d1.ext (E1.trans ((Ext.refl w1).alloc _))) (d4.ext (E1.trans ((Ext.refl w1).alloc _))) r1 r4 hp hp' (T.ext (E1.trans ((Ext.refl w1).alloc _))))).mono ?_⟩
  rintro _ u2 ⟨X2, M2, Y2, rfl, m2, e2, nw2⟩
  have s2 := HS.out _ _ j1
  have f2 : Ext w1 u2 := ((Ext.refl w1).alloc _).trans e2
  have k2 := HK.out 1 _ _ j1 f2
  replace X := X.ext f2
  have nt2 := (nw2.low (w := w1) ((Ext.refl w1).alloc _).size).not (g := r + 1) (by omega)
  obtain ⟨g2, t2, a2, b2, hy2, hR2⟩ := HY.out 1 _ _ _ u2 _ k2 (by simp) m2 nt2
  obtain ⟨xb2, xA2, xn2, xc2, xe2, hv2⟩ := m2.form
  simp only [Value.agg.injEq, Array.mk.injEq, List.cons.injEq, and_true] at hv2
  obtain ⟨rfl, rfl, rfl⟩ := hv2
  clear p0 p1 p2 p3 p4 p5 q0 q1 q2 q3 q4 q5 e2 nw2 nt2 m2 la lb
  gi_wp2
  refine ⟨fun h => absurd h (by decide), hR2.mono ?_⟩
  rintro _ w2 ⟨rfl, j2, kp2⟩
  replace X := X.kp kp2 (.inr sX)
  have E2 := HB.out _ _ j2
  replace B1 := Ba.ext E2
  replace B2 := Bb.ext E2
  obtain ⟨p0, p1, p2, p3, p4, p5⟩ := id B1
  obtain ⟨q0, q1, q2, q3, q4, q5⟩ := id B2
  have la := World.block_lt_of_cell? _ _ p0
  have lb := World.block_lt_of_cell? _ _ q0
  clear hy2 hR2 kp2 f2 k2
  gi_wp2
  rw [roundsIn_succ]
  gi_wp2
  clear X sX
  rw [roundsIn_succ]
  gi_wp2
  refine wpIn_loop_rounds 3 ?_
  rw [roundsIn_succ]
  gi_wp2_with fail
  refine ⟨trivial, fun h => absurd h (by decide), (callsIn_wide.2 (mulD_anyF _ _ _ x2 y1 P Q P' Q' (d2.ext (E2.trans (((Ext.refl w2).alloc _).alloc _))) (d3.ext (E2.trans (((Ext.refl w2).alloc _).alloc _))) r2 r3 hp hp' (T.ext (E2.trans (((Ext.refl w2).alloc _).alloc _))))).mono ?_⟩
  rintro _ u3 ⟨X3, M3, Y3, rfl, m3, e3, nw3⟩
  have s3 := HS.out _ _ j2
  have f3 : Ext w2 u3 := (((Ext.refl w2).alloc _).alloc _).trans e3
  have k3 := HK.out 2 _ _ j2 f3
  have X : Box u3 (w2.heap.size) (.bool ba') (.slice Aa' na' ca') (.int .i64 ea') := Box.at (((Ext.refl _).alloc _).trans e3) rfl
  have sX := s3
  have nt3 := (nw3.low (w := w2) (((Ext.refl w2).alloc _).alloc _).size).not (g := r + 1) (by omega)
  obtain ⟨g3, t3, a3, b3, hy3, hR3⟩ := HY.out 2 _ _ _ u3 _ k3 (by simp) m3 nt3
  obtain ⟨xb3, xA3, xn3, xc3, xe3, hv3⟩ := m3.form
  simp only [Value.agg.injEq, Array.mk.injEq, List.cons.injEq, and_true] at hv3
  obtain ⟨rfl, rfl, rfl⟩ := hv3
  clear p0 p1 p2 p3 p4 p5 q0 q1 q2 q3 q4 q5 e3 nw3 nt3 m3 la lb
  gi_wp2
  refine ⟨fun h => absurd h (by decide), hR3.mono ?_⟩
  rintro _ w3 ⟨rfl, j3, kp3⟩
  replace X := X.kp kp3 (.inr sX)
  have E3 := HB.out _ _ j3
  replace B1 := Ba.ext E3
  replace B2 := Bb.ext E3
  obtain ⟨p0, p1, p2, p3, p4, p5⟩ := id B1
  obtain ⟨q0, q1, q2, q3, q4, q5⟩ := id B2
  have la := World.block_lt_of_cell? _ _ p0
  have lb := World.block_lt_of_cell? _ _ q0
  clear hy3 hR3 kp3 f3 k3
  obtain ⟨z0, z1, z2⟩ := id X
  have lz := World.block_lt_of_cell? _ _ z0
  gi_wp2
  clear z0 z1 z2 lz
  obtain ⟨z0, z1, z2⟩ := id X
  have lz := World.block_lt_of_cell? _ _ z0
  rw [roundsIn_succ]
  gi_wp2_with fail
  refine ⟨trivial, fun h => absurd h (by decide), (callsIn_wide.2 (mulD_anyF _ _ _ x2 y2 P Q P' Q' (d2.ext (E3.trans ((Ext.refl w3).alloc _))) (d4.ext (E3.trans ((Ext.refl w3).alloc _))) r2 r4 hp hp' (T.ext (E3.trans ((Ext.refl w3).alloc _))))).mono ?_⟩
  rintro _ u4 ⟨X4, M4, Y4, rfl, m4, e4, nw4⟩
  have s4 := HS.out _ _ j3
  have f4 : Ext w3 u4 := ((Ext.refl w3).alloc _).trans e4
  have k4 := HK.out 3 _ _ j3 f4
  replace X := X.ext f4
  have nt4 := (nw4.low (w := w3) ((Ext.refl w3).alloc _).size).not (g := r + 1) (by omega)
  obtain ⟨g4, t4, a4, b4, hy4, hR4⟩ := HY.out 3 _ _ _ u4 _ k4 (by simp) m4 nt4
  obtain ⟨xb4, xA4, xn4, xc4, xe4, hv4⟩ := m4.form
  simp only [Value.agg.injEq, Array.mk.injEq, List.cons.injEq, and_true] at hv4
  obtain ⟨rfl, rfl, rfl⟩ := hv4
  clear p0 p1 p2 p3 p4 p5 q0 q1 q2 q3 q4 q5 e4 nw4 nt4 m4 la lb
  gi_wp2
  refine ⟨fun h => absurd h (by decide), hR4.mono ?_⟩
  rintro _ w4 ⟨rfl, j4, kp4⟩
  replace X := X.kp kp4 (.inr sX)
  have E4 := HB.out _ _ j4
  replace B1 := Ba.ext E4
  replace B2 := Bb.ext E4
  obtain ⟨p0, p1, p2, p3, p4, p5⟩ := id B1
  obtain ⟨q0, q1, q2, q3, q4, q5⟩ := id B2
  have la := World.block_lt_of_cell? _ _ p0
  have lb := World.block_lt_of_cell? _ _ q0
  clear hy4 hR4 kp4 f4 k4
  gi_wp2
  rw [roundsIn_succ]
  gi_wp2
  clear X sX
  rw [roundsIn_succ]
  gi_wp2
  go_end0
  exact ⟨⟨_, rfl⟩, j4⟩
end Go.Proofs.YtimdglgianheiaaGreatDoor
