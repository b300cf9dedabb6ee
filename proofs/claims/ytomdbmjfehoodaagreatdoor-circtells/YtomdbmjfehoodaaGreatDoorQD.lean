/- Walks of the document's answers on cosines: rest. -/
import Derived.Test.YtomdbmjfehoodaaGreatDoorQC
set_option maxRecDepth 8000
namespace Go.Proofs.YtomdbmjfehoodaaGreatDoor
open Go.RowKit
set_option linter.unusedVariables false
set_option linter.unusedSimpArgs false
/-- It returned two enclosures, in new memory. -/
def RetII (w : World) (a b c d : Dyadic) (e : Ending) (w' : World) : Prop := ∃ v u, e = .returned (.tuple #[v, u]) ∧ In w' v a b ∧ In w' u c d ∧ Ext w w'
theorem rg_two {P : Nat} {d : Dyadic} (r : Rg P 1 d) : -dy 1 1 < d ∧ d < dy 1 1 := by
  obtain ⟨X, rfl, h1, h2⟩ := r.out
  have e : dy 1 1 = dy (2 ^ (P + 1)) (-(P : Int)) := by
    rw [show (2 : Int) ^ (P + 1) = 1 * 2 ^ (P + 1) by rw [Int.one_mul], dy_up]; congr 1; omega
  rw [e, dy_neg]
  exact ⟨dy_lt.2 (by omega), dy_lt.2 h2⟩
theorem In.two {w : World} {v : Value} {l u : Dyadic} {P : Nat} (h : In w v l u) (r1 : Rg P 1 l) (r2 : Rg P 1 u) : ∃ (b : Bool) (A : Option Addr) (n c : Nat) (e : Int) (b' : Bool) (A' : Option Addr) (n' c' : Nat) (e' : Int),
    v = .agg #[.bool b, .slice A n c, .int .i64 e, .bool b', .slice A' n' c', .int .i64 e'] ∧ e ≤ 0 ∧ e' ≤ 0 := by
  obtain ⟨a1, a2⟩ := rg_two r1
  obtain ⟨b1, b2⟩ := rg_two r2
  obtain ⟨b, A, n, c, e, b', A', n', c', e', hv, h1, h2⟩ := h.small a1 a2 b1 b2
  exact ⟨b, A, n, c, e, b', A', n', c', e', hv, h1, h2⟩
theorem rxy_yes {k i Q : Nat} {K : Int} (h : K / 2 ^ (Q - (i + 3)) % 2 = 1) : rxy k K Q (i + 1) = rstep k (hs k i) (rxy k K Q i) := by
  show (if _ then _ else _) = _
  rw [if_pos h]
theorem rxy_no {k i Q : Nat} {K : Int} (h : ¬ K / 2 ^ (Q - (i + 3)) % 2 = 1) : rxy k K Q (i + 1) = rxy k K Q i := by
  show (if _ then _ else _) = _
  rw [if_neg h]
/-- What holds at the head of the loop. -/
structure Rx (w : World) (K : Int) (Q gx gy : Nat) (W : World) (r : Xy) : Prop where
  bt : B2 W w.heap.size (.int .i64 K) (.int .i64 (Q : Int))
  z1 : Zi W (w.heap.size + 1)
  z2 : Zi W (w.heap.size + 1 + 1)
  x : Vu W gx r.x1 r.x2
  y : Vu W gy r.y1 r.y2
  ext : Ext w W
  n1 : w.heap.size + 1 + 1 < gx
  n2 : gx < gy
/-- One half of a list, read. -/
theorem Lh.at {w : World} {base n : Nat} {v : Value} {h : Nat → Hf} (L : Lh w base v n h) {i : Nat} (hi : i < n) : ∃ (g cap : Nat) (b : Bool) (A : Option Addr) (m c : Nat) (e : Int) (b' : Bool) (A' : Option Addr) (m' c' : Nat) (e' : Int) (d : Bool) (B : Option Addr) (y z : Nat) (f : Int) (d' : Bool) (B' : Option Addr) (y' z' : Nat) (f' : Int), v = .slice (some ⟨g, 0, none⟩) n cap ∧ n ≤ maxLen ∧
    (w.cell? ⟨g, i * 12, none⟩ = some (.bool b) ∧ w.cell? ⟨g, i * 12 + 1, none⟩ = some (.slice A m c) ∧ w.cell? ⟨g, i * 12 + 2, none⟩ = some (.int .i64 e) ∧ w.cell? ⟨g, i * 12 + 3, none⟩ = some (.bool b') ∧ w.cell? ⟨g, i * 12 + 4, none⟩ = some (.slice A' m' c') ∧ w.cell? ⟨g, i * 12 + 5, none⟩ = some (.int .i64 e') ∧ w.cell? ⟨g, i * 12 + 6, none⟩ = some (.bool d) ∧ w.cell? ⟨g, i * 12 + 7, none⟩ = some (.slice B y z) ∧ w.cell? ⟨g, i * 12 + 8, none⟩ = some (.int .i64 f) ∧ w.cell? ⟨g, i * 12 + 9, none⟩ = some (.bool d') ∧ w.cell? ⟨g, i * 12 + 10, none⟩ = some (.slice B' y' z') ∧ w.cell? ⟨g, i * 12 + 11, none⟩ = some (.int .i64 f')) ∧
    In w (.agg #[.bool b, .slice A m c, .int .i64 e, .bool b', .slice A' m' c', .int .i64 e']) (h i).c1 (h i).c2 ∧ In w (.agg #[.bool d, .slice B y z, .int .i64 f, .bool d', .slice B' y' z', .int .i64 f']) (h i).s1 (h i).s2 := by
  rcases L.out with ⟨k, _⟩ | ⟨g, cap, cur, rfl, hb, hg, hn, hm, hs, hl, he⟩
  · omega
  · obtain ⟨x, y, z, x', y', z', p, q, r, p', q', r', a, b, c⟩ := he i hi
    obtain ⟨_, _, _, _, _, _, _, _, _, _, hv⟩ := b.form
    simp only [Value.agg.injEq, Array.mk.injEq, List.cons.injEq, and_true] at hv
    obtain ⟨rfl, rfl, rfl, rfl, rfl, rfl⟩ := hv
    obtain ⟨_, _, _, _, _, _, _, _, _, _, hv⟩ := c.form
    simp only [Value.agg.injEq, Array.mk.injEq, List.cons.injEq, and_true] at hv
    obtain ⟨rfl, rfl, rfl, rfl, rfl, rfl⟩ := hv
    have k : ∀ (j : Nat) (u : Value), cur.toList[j]? = some u → w.cell? ⟨g, j, none⟩ = some u := fun j u hu => by
      rw [cell_of_row w g j cur _ (0, 0) hg]; simpa using hu
    exact ⟨g, cap, _, _, _, _, _, _, _, _, _, _, _, _, _, _, _, _, _, _, _, _, rfl, by omega, ⟨k _ _ a.c0, k _ _ a.c1, k _ _ a.c2, k _ _ a.c3, k _ _ a.c4, k _ _ a.c5, k _ _ a.c6, k _ _ a.c7, k _ _ a.c8, k _ _ a.c9, k _ _ a.c10, k _ _ a.c11⟩, b, c⟩
structure Bh12 (w : World) (g : Nat) (x y z x' y' z' p q r p' q' r' : Value) : Prop where
  c0 : w.cell? ⟨g, 0, none⟩ = some x
  c1 : w.cell? ⟨g, 1, none⟩ = some y
  c2 : w.cell? ⟨g, 2, none⟩ = some z
  c3 : w.cell? ⟨g, 3, none⟩ = some x'
  c4 : w.cell? ⟨g, 4, none⟩ = some y'
  c5 : w.cell? ⟨g, 5, none⟩ = some z'
  c6 : w.cell? ⟨g, 6, none⟩ = some p
  c7 : w.cell? ⟨g, 7, none⟩ = some q
  c8 : w.cell? ⟨g, 8, none⟩ = some r
  c9 : w.cell? ⟨g, 9, none⟩ = some p'
  c10 : w.cell? ⟨g, 10, none⟩ = some q'
  c11 : w.cell? ⟨g, 11, none⟩ = some r'
theorem Bh12.ext {w w' : World} {g : Nat} {x y z x' y' z' p q r p' q' r' : Value} (h : Bh12 w g x y z x' y' z' p q r p' q' r') (E : Ext w w') : Bh12 w' g x y z x' y' z' p q r p' q' r' := by
  have hl : g < w.heap.size := World.block_lt_of_cell? _ _ h.c0
  have k : ∀ (i : Nat) (u : Value), w.cell? ⟨g, i, none⟩ = some u → w'.cell? ⟨g, i, none⟩ = some u := fun i u hu => (E.cell (p := ⟨g, i, none⟩) hl).trans hu
  exact ⟨k _ _ h.c0, k _ _ h.c1, k _ _ h.c2, k _ _ h.c3, k _ _ h.c4, k _ _ h.c5, k _ _ h.c6, k _ _ h.c7, k _ _ h.c8, k _ _ h.c9, k _ _ h.c10, k _ _ h.c11⟩
theorem Bh12.new (w : World) (t : TypeId) (x y z x' y' z' p q r p' q' r' : Value) : Bh12 (w.alloc (.cells #[x, y, z, x', y', z', p, q, r, p', q', r'] t)) w.heap.size x y z x' y' z' p q r p' q' r' := by
  constructor <;> (rw [World.cell?_alloc_new]; rfl)
theorem bh12 {w : World} {g : Nat} {x y z x' y' z' p q r p' q' r' : Value} (h : Bh12 w g x y z x' y' z' p q r p' q' r') : w.cell? ⟨g, 0, none⟩ = some x ∧ w.cell? ⟨g, 1, none⟩ = some y ∧ w.cell? ⟨g, 2, none⟩ = some z ∧ w.cell? ⟨g, 3, none⟩ = some x' ∧ w.cell? ⟨g, 4, none⟩ = some y' ∧ w.cell? ⟨g, 5, none⟩ = some z' ∧
    w.cell? ⟨g, 6, none⟩ = some p ∧ w.cell? ⟨g, 7, none⟩ = some q ∧ w.cell? ⟨g, 8, none⟩ = some r ∧ w.cell? ⟨g, 9, none⟩ = some p' ∧ w.cell? ⟨g, 10, none⟩ = some q' ∧ w.cell? ⟨g, 11, none⟩ = some r' :=
  ⟨h.c0, h.c1, h.c2, h.c3, h.c4, h.c5, h.c6, h.c7, h.c8, h.c9, h.c10, h.c11⟩
set_option maxRecDepth 20000 in
set_option maxHeartbeats 4000000 in
theorem rrest_any (w : World) (K : Int) (Q k n base : Nat) (ki : Int) (l : Value) (L : Lh w base l n (hs k)) (hki : ki = (k : Int)) (hn : Q - 2 ≤ n) (h0 : 0 ≤ K) (h1 : K < 2 ^ (Q - 2)) (hQ : Q ≤ 14) (hkQ : 2 * Q + 5 ≤ k) (hk2 : k ≤ 140) :
    Calls Tryz.prog 110 #[.agg #[.int .i64 K, .int .i64 (Q : Int)], .int .i64 ki, l] w (RetII w (rxy k K Q (Q - 2)).x1 (rxy k K Q (Q - 2)).x2 (rxy k K Q (Q - 2)).y1 (rxy k K Q (Q - 2)).y2) := by
  have HK := Lib.hid (fun (i : Nat) (hi : i + 2 ≤ Q) => rxy_ok (by omega) h0 h1 hQ hkQ i hi)
  have HH := Lib.hid (hs_all (show 2 ≤ k by omega))
  have hK64 : K ≤ 4096 := Int.le_trans (Int.le_of_lt h1) (by have h := p2_le (show Q - 2 ≤ 12 by omega); have e : (2 : Int) ^ 12 = 4096 := (by decide); rw [e] at h; exact h)
  replace hkQ := Lib.hid hkQ
  clear h1
  subst hki
  go_enter Tryz.func110, Tryz.ntmps110
  go_wp2_with fail
  refine (rof_lit _ 1 1 rfl (by omega)).mono ?_
  rintro _ w1 ⟨v1, rfl, n1, f1⟩
  have Bt : B2 w1 (w.heap.size) (.int .i64 K) (.int .i64 (Q : Int)) := B2.at ((((Ext.refl _).alloc _).alloc _).trans f1) (by simp)
  have Z1 : Zi w1 (w.heap.size + 1) := Zi.at (((Ext.refl _).alloc _).trans f1) (by simp)
  have Z2 : Zi w1 (w.heap.size + 1 + 1) := Zi.at ((Ext.refl _).trans f1) (by simp)
  have e1 : Ext w w1 := ((((Ext.refl w).alloc _).alloc _).alloc _).trans f1
  have E1 : Ext w w1 := e1
  clear f1
  go_wp2_with fail
  refine (rpt_one _ _ 1 n1).mono ?_
  rintro _ w2 ⟨v2, rfl, i1, f2⟩
  have e2 : Ext w1 w2 := (Ext.refl w1).trans f2
  replace n1 := n1.ext e2
  replace Bt := Bt.ext e2
  replace Z1 := Z1.ext e2
  replace Z2 := Z2.ext e2
  have E2 : Ext w w2 := E1.trans e2
  clear e2 f2 E1
  clear n1
  obtain ⟨bx, Ax, nx, cx, ex, bx', Ax', nx', cx', ex', rfl, y1, y2⟩ := i1.two (rg_one 1) (rg_one 1)
  have hx0 := World.block_lt_of_cell? _ _ Z2.c0
  go_wp2_with fail
  refine (rpt_one _ _ 0 (Dn.zero _)).mono ?_
  rintro _ w3 ⟨v3, rfl, i0, f3⟩
  have Vx : Vr w3 (w2.heap.size) (.bool bx) (.slice Ax nx cx) (.int .i64 ex) (.bool bx') (.slice Ax' nx' cx') (.int .i64 ex') := Vr.at y1 y2 ((Ext.refl _).trans f3) (by simp)
  have e3 : Ext w2 w3 := ((Ext.refl w2).alloc _).trans f3
  replace i1 := i1.ext e3
  replace Bt := Bt.ext e3
  replace Z1 := Z1.ext e3
  replace Z2 := Z2.ext e3
  have E3 : Ext w w3 := E2.trans e3
  clear e3 f3 E2
  obtain ⟨bf, Af, nf, cf, ef, bf', Af', nf', cf', ef', rfl, z1, z2⟩ := i0.two (rg_zero1 1 1) (rg_zero1 1 1)
  have hx1 := World.block_lt_of_cell? _ _ Vx.c0
  go_upto_region 3 with fail
  have eW3 : Ext w3 (w3.alloc (.cells #[.bool bf, .slice Af nf cf, .int .i64 ef, .bool bf', .slice Af' nf' cf', .int .i64 ef'] 33)) := ((Ext.refl w3).alloc _)
  have Vy : Vr (w3.alloc (.cells #[.bool bf, .slice Af nf cf, .int .i64 ef, .bool bf', .slice Af' nf' cf', .int .i64 ef'] 33)) (w3.heap.size) (.bool bf) (.slice Af nf cf) (.int .i64 ef) (.bool bf') (.slice Af' nf' cf') (.int .i64 ef') := Vr.at z1 z2 (Ext.refl _) (by simp)
  replace i1 := i1.ext eW3
  replace i0 := i0.ext eW3
  replace Bt := Bt.ext eW3
  replace Z1 := Z1.ext eW3
  replace Z2 := Z2.ext eW3
  replace Vx := Vx.ext eW3
  have EW3 := E3.trans eW3
  clear eW3 E3
  generalize hgen : (w3.alloc (.cells #[.bool bf, .slice Af nf cf, .int .i64 ef, .bool bf', .slice Af' nf' cf', .int .i64 ef'] 33)) = W3 at *
  clear hgen
  have H0 : Rx w K Q (w2.heap.size) (w3.heap.size) W3 (rxy k K Q 0) := ⟨Bt, Z1, Z2, ⟨_, _, _, _, _, _, _, _, _, _, Vx, y1, y2, i1⟩, ⟨_, _, _, _, _, _, _, _, _, _, Vy, z1, z2, i0⟩, EW3, hx0, hx1⟩
  clear Bt Z1 Z2 Vx Vy i1 i0 y1 y2 z1 z2 hx0 hx1 EW3
  generalize w2.heap.size = gx at *
  generalize w3.heap.size = gy at *
  replace L := Lib.hid L
  go_wp2
  go_loopw [10] (fun i wr => ∃ j kk : Nat, kk = j + 3 ∧ (j = 0 ∨ j + 2 ≤ Q) ∧ i = .int .i64 (kk : Int) ∧ Rx w K Q gx gy wr (rxy k K Q j)) (fun i _ => (Q + 1 - (intOf i)).toNat)
  case atStart => exact ⟨0, 3, rfl, .inl rfl, by go_num, H0⟩
  case round =>
    clear H0
    obtain ⟨j, kk, hkk, hj0, rfl, H⟩ := hrel
    have Bt := H.bt
    have Z1 := H.z1
    have Z2 := H.z2
    have Ee := H.ext
    have n1 := H.n1
    have n2 := H.n2
    obtain ⟨bx, Ax, nx, cx, ex, bx', Ax', nx', cx', ex', Vx, y1, y2, ix⟩ := H.x.out
    obtain ⟨bf, Af, nf, cf, ef, bf', Af', nf', cf', ef', Vy, z1, z2, iy⟩ := H.y.out
    have hqs := Bt.c1
    have lx := World.block_lt_of_cell? _ _ Vx.c0
    have ly := World.block_lt_of_cell? _ _ Vy.c0
    have lz := World.block_lt_of_cell? _ _ Z2.c0
    by_cases hle : kk ≤ Q
    · have hle1 : (kk : Int) ≤ (Q : Int) := by omega
      obtain ⟨sh, hsh⟩ : ∃ sh : Nat, Q - kk = sh := ⟨_, rfl⟩
      have e1 : (Q : Int) - (kk : Int) = (sh : Int) := by omega
      have e3 : Q - (j + 3) = sh := by omega
      have hj12 : j + 3 ≤ 14 := by omega
      have e4 : (kk : Int) - 3 = (j : Int) := by omega
      have hsh2 : sh ≤ 14 := by omega
      have HQ := Lib.hid (And.intro hkk (show j + 1 + 2 ≤ Q by omega))
      have hjn : j < n := by omega
      clear hkk hj0
      obtain ⟨t0, t1⟩ := _root_.id Bt
      have hK := i64_and1 (K / 2 ^ sh)
      by_cases hbit : K / 2 ^ sh % 2 = 1
      · have hb2 : (K / 2 ^ sh % 2 == 1) = true := by rw [hbit]; rfl
        clear H
        obtain ⟨gl, cap, bp, Ap, np, cp, ep, bp', Ap', np', cp', ep', bs, As, ns, cs, es, bs', As', ns', cs', es', hl, hm, hcs, ic, is⟩ := (L.out.ext Ee).at hjn
        subst hl
        obtain ⟨d0, d1, d2, d3, d4, d5, d6, d7, d8, d9, d10, d11⟩ := hcs
        have hj1 : (j : Int) < (n : Int) := by omega
        have dl := World.block_lt_of_cell? _ _ d0
        go_upto_region 8 with fail
        have e8 : Ext wr (wr.alloc (.cells #[.bool bp, .slice Ap np cp, .int .i64 ep, .bool bp', .slice Ap' np' cp', .int .i64 ep', .bool bs, .slice As ns cs, .int .i64 es, .bool bs', .slice As' ns' cs', .int .i64 es'] 113)) := (Ext.refl _).alloc _
        have Bh : Bh12 (wr.alloc (.cells #[.bool bp, .slice Ap np cp, .int .i64 ep, .bool bp', .slice Ap' np' cp', .int .i64 ep', .bool bs, .slice As ns cs, .int .i64 es, .bool bs', .slice As' ns' cs', .int .i64 es'] 113)) wr.heap.size (.bool bp) (.slice Ap np cp) (.int .i64 ep) (.bool bp') (.slice Ap' np' cp') (.int .i64 ep') (.bool bs) (.slice As ns cs) (.int .i64 es) (.bool bs') (.slice As' ns' cs') (.int .i64 es') := Bh12.new _ _ _ _ _ _ _ _ _ _ _ _ _ _
        replace Bt := Bt.ext e8
        replace Z1 := Z1.ext e8
        replace Z2 := Z2.ext e8
        replace Vx := Vx.ext e8
        replace Vy := Vy.ext e8
        replace ix := ix.ext e8
        replace iy := iy.ext e8
        replace ic := ic.ext e8
        replace is := is.ext e8
        have E8 := Ee.trans e8
        clear e8 Ee t0 t1 d0 d1 d2 d3 d4 d5 d6 d7 d8 d9 d10 d11
        generalize hgen : (wr.alloc (.cells #[.bool bp, .slice Ap np cp, .int .i64 ep, .bool bp', .slice Ap' np' cp', .int .i64 ep', .bool bs, .slice As ns cs, .int .i64 es, .bool bs', .slice As' ns' cs', .int .i64 es'] 113)) = WA at *
        clear hgen
        generalize hgg : wr.heap.size = gh at *
        have lh := World.block_lt_of_cell? _ _ Bh.c0
        have RK := HK.out j (by have := HQ.out; omega)
        have RN := HK.out (j + 1) HQ.out.2
        have hh := HH.out j
        have hP : j * (k + k + 4) ≤ 3200 := Nat.le_trans (Nat.mul_le_mul (show j ≤ 11 by omega) (show k + k + 4 ≤ 284 by omega)) (by omega)
        rw [rxy_yes (by rw [e3]; exact hbit)] at RN
        have HX := Lib.hid (fun W2 (h : Rx w K Q gx gy W2 (rstep k (hs k j) (rxy k K Q j))) => (show Rx w K Q gx gy W2 (rxy k K Q (j + 1)) from by rw [rxy_yes (by rw [e3]; exact hbit)]; exact h))
        have x1r := RK.r1
        have x2r := RK.r2
        have y1r := RK.r3
        have y2r := RK.r4
        have c1r := hh.r1
        have c2r := hh.r2
        have s1r := hh.r3
        have s2r := hh.r4
        obtain ⟨P2, hP2⟩ : ∃ P2, (j + 1) * (k + k + 4) = P2 := ⟨_, rfl⟩
        rw [hP2] at RN
        have xr := RN.r1
        have xr2 := RN.r2
        have yr := RN.r3
        have yr2 := RN.r4
        clear RK RN hh hP2
        have hr0 : ∀ r h, (rstep k h r).x1 = clo k (mlo r.x1 r.x2 h.c1 h.c2 + -mhi r.y1 r.y2 h.s1 h.s2) ∧ (rstep k h r).x2 = chi k (mhi r.x1 r.x2 h.c1 h.c2 + -mlo r.y1 r.y2 h.s1 h.s2) ∧ (rstep k h r).y1 = clo k (mlo r.y1 r.y2 h.c1 h.c2 + mlo r.x1 r.x2 h.s1 h.s2) ∧ (rstep k h r).y2 = chi k (mhi r.y1 r.y2 h.c1 h.c2 + mhi r.x1 r.x2 h.s1 h.s2) := fun _ _ => ⟨rfl, rfl, rfl, rfl⟩
        obtain ⟨hrx1, hrx2, hry1, hry2⟩ := hr0 (rxy k K Q j) (hs k j)
        clear hr0
        generalize hrs : rstep k (hs k j) (rxy k K Q j) = rn at *
        generalize rxy k K Q j = rr at *
        generalize hs k j = hf at *
        clear hrs
        generalize j * (k + k + 4) = P at *
        have hk1 : k + k + 4 ≤ 284 := by omega
        obtain ⟨Pk, hPk⟩ : ∃ Pk, k + k + 4 = Pk := ⟨_, rfl⟩
        rw [hPk] at c1r c2r s1r s2r hk1
        have hk3 : 1 ≤ k := by have := hkQ.out; omega
        have gxc := mul4_rg x1r x2r c1r c2r
        have gys := mul4_rg y1r y2r s1r s2r
        have gyc := mul4_rg y1r y2r c1r c2r
        have gxs := mul4_rg x1r x2r s1r s2r
        obtain ⟨x0_, x1_, x2_, x3_, x4_, x5_⟩ := vr6 Vx
        obtain ⟨f0_, f1_, f2_, f3_, f4_, f5_⟩ := vr6 Vy
        obtain ⟨h0_, h1_, h2_, h3_, h4_, h5_, h6_, h7_, h8_, h9_, h10_, h11_⟩ := bh12 Bh
        go_cut [12] from 18 to 62 (fun pp wx => ∃ (g : Nat) (ba : Bool) (Aa : Option Addr) (na ca : Nat) (ea : Int) (ba' : Bool) (Aa' : Option Addr) (na' ca' : Nat) (ea' : Int), pp = .pointer (some ⟨g, 0, none⟩) ∧ Bx wx g (.bool ba) (.slice Aa na ca) (.int .i64 ea) (.bool ba') (.slice Aa' na' ca') (.int .i64 ea') ∧ In wx (.agg #[.bool ba, .slice Aa na ca, .int .i64 ea, .bool ba', .slice Aa' na' ca', .int .i64 ea']) (mlo rr.x1 rr.x2 hf.c1 hf.c2 + -mhi rr.y1 rr.y2 hf.s1 hf.s2) (mhi rr.x1 rr.x2 hf.c1 hf.c2 + -mlo rr.y1 rr.y2 hf.s1 hf.s2) ∧ Ext WA wx ∧ WA.heap.size ≤ g)
        case first =>
          refine wp_region_held_drew (S := (fun w' => (w'.cell? ⟨gx, 0, none⟩ = some (.bool bx) ∧ w'.cell? ⟨gx, 1, none⟩ = some (.slice Ax nx cx) ∧ w'.cell? ⟨gx, 2, none⟩ = some (.int .i64 ex) ∧ w'.cell? ⟨gx, 3, none⟩ = some (.bool bx') ∧ w'.cell? ⟨gx, 4, none⟩ = some (.slice Ax' nx' cx') ∧ w'.cell? ⟨gx, 5, none⟩ = some (.int .i64 ex')) ∧ (w'.cell? ⟨gy, 0, none⟩ = some (.bool bf) ∧ w'.cell? ⟨gy, 1, none⟩ = some (.slice Af nf cf) ∧ w'.cell? ⟨gy, 2, none⟩ = some (.int .i64 ef) ∧ w'.cell? ⟨gy, 3, none⟩ = some (.bool bf') ∧ w'.cell? ⟨gy, 4, none⟩ = some (.slice Af' nf' cf') ∧ w'.cell? ⟨gy, 5, none⟩ = some (.int .i64 ef')) ∧ (w'.cell? ⟨gh, 0, none⟩ = some (.bool bp) ∧ w'.cell? ⟨gh, 1, none⟩ = some (.slice Ap np cp) ∧ w'.cell? ⟨gh, 2, none⟩ = some (.int .i64 ep) ∧ w'.cell? ⟨gh, 3, none⟩ = some (.bool bp') ∧ w'.cell? ⟨gh, 4, none⟩ = some (.slice Ap' np' cp') ∧ w'.cell? ⟨gh, 5, none⟩ = some (.int .i64 ep') ∧ w'.cell? ⟨gh, 6, none⟩ = some (.bool bs) ∧ w'.cell? ⟨gh, 7, none⟩ = some (.slice As ns cs) ∧ w'.cell? ⟨gh, 8, none⟩ = some (.int .i64 es) ∧ w'.cell? ⟨gh, 9, none⟩ = some (.bool bs') ∧ w'.cell? ⟨gh, 10, none⟩ = some (.slice As' ns' cs') ∧ w'.cell? ⟨gh, 11, none⟩ = some (.int .i64 es')))) (by as_aux_lemma => kernel_rfl) ⟨vr6 (Vx.ext (Ext.refl WA).drew), vr6 (Vy.ext (Ext.refl WA).drew), bh12 (Bh.ext (Ext.refl WA).drew)⟩ (fun hHeld => ?_)
          have F0 : Ext WA (World.drew WA) := (Ext.refl _).drew
          generalize hgen : World.drew WA = V0 at *
          clear hgen
          refine wpAnyH_take (i := 0) (v := ?_) rfl (by as_aux_lemma => kernel_rfl) (by as_aux_lemma => kernel_rfl) (by as_aux_lemma => kernel_rfl) (fun _ _ _ h => h) (Or.inl ⟨by rfl, ?_⟩) (by assumption) ?_
          rotate_left
          · (intro w hSw; (try dsimp only at hSw); go_simp); (try with_reducible rfl)
          simp only [List.getElem_toArray, List.getElem_cons_zero, Act.put, List.setIfInBounds_toArray, List.set_cons_zero, List.set_cons_succ]
          refine wpAnyH_take (i := 1) (v := ?_) rfl (by as_aux_lemma => kernel_rfl) (by as_aux_lemma => kernel_rfl) (by as_aux_lemma => kernel_rfl) (fun _ _ _ h => h) (Or.inl ⟨by rfl, ?_⟩) (by assumption) ?_
          rotate_left
          · (intro w hSw; (try dsimp only at hSw); go_simp); (try with_reducible rfl)
          simp only [List.getElem_toArray, List.getElem_cons_zero, List.getElem_cons_succ, Act.put, List.setIfInBounds_toArray, List.set_cons_zero, List.set_cons_succ]
          refine wpAnyH_take (i := 2) (v := ?_) rfl (by as_aux_lemma => kernel_rfl) (by as_aux_lemma => kernel_rfl) (by as_aux_lemma => kernel_rfl) (fun _ _ _ h => h) (Or.inl ⟨by rfl, ?_⟩) (by assumption) ?_
          rotate_left
          · (intro w hSw; (try dsimp only at hSw); go_simp); (try with_reducible rfl)
          simp only [List.getElem_toArray, List.getElem_cons_zero, List.getElem_cons_succ, Act.put, List.setIfInBounds_toArray, List.set_cons_zero, List.set_cons_succ]
          refine wpAnyH_take (i := 4) (v := ?_) rfl (by as_aux_lemma => kernel_rfl) (by as_aux_lemma => kernel_rfl) (by as_aux_lemma => kernel_rfl) (fun _ _ _ h => h) (Or.inl ⟨by rfl, ?_⟩) (by assumption) ?_
          rotate_left
          · (intro w hSw; (try dsimp only at hSw); go_simp); (try with_reducible rfl)
          simp only [List.getElem_toArray, List.getElem_cons_zero, List.getElem_cons_succ, Act.put, List.setIfInBounds_toArray, List.set_cons_zero, List.set_cons_succ]
          refine wpAnyH_take (i := 5) (v := ?_) rfl (by as_aux_lemma => kernel_rfl) (by as_aux_lemma => kernel_rfl) (by as_aux_lemma => kernel_rfl) (fun _ _ _ h => h) (Or.inl ⟨by rfl, ?_⟩) (by assumption) ?_
          rotate_left
          · (intro w hSw; (try dsimp only at hSw); go_simp); (try with_reducible rfl)
          simp only [List.getElem_toArray, List.getElem_cons_zero, List.getElem_cons_succ, Act.put, List.setIfInBounds_toArray, List.set_cons_zero, List.set_cons_succ]
          refine wpAnyH_take (i := 6) (v := ?_) rfl (by as_aux_lemma => kernel_rfl) (by as_aux_lemma => kernel_rfl) (by as_aux_lemma => kernel_rfl) (fun _ _ _ h => h) (Or.inl ⟨by rfl, ?_⟩) (by assumption) ?_
          rotate_left
          · (intro w hSw; (try dsimp only at hSw); go_simp); (try with_reducible rfl)
          simp only [List.getElem_toArray, List.getElem_cons_zero, List.getElem_cons_succ, Act.put, List.setIfInBounds_toArray, List.set_cons_zero, List.set_cons_succ]
          refine wpAnyH_ready (rs := [3, 10]) (by as_aux_lemma => kernel_rfl) (by simp) ?_
          refine AllReadyH.cons rfl (fun K hK => ?_) (AllReadyH.cons rfl (fun K hK => ?_) AllReadyH.nil)
          · go_simp
            refine (rimul_any _ _ _ rr.x1 rr.x2 hf.c1 hf.c2 P 1 Pk 1 (ix.ext F0) (ic.ext F0) x1r x2r c1r c2r (by omega)).mono ?_
            rintro _ V1 ⟨vm3, rfl, m3, em3⟩
            have F1 : Ext WA V1 := F0.trans em3
            refine hK.out _ _ ⟨vr6 (Vx.ext F1), vr6 (Vy.ext F1), bh12 (Bh.ext F1)⟩ (fun hHeld => ?_)
            clear hK K em3
            refine wpAnyH_ready (rs := [7, 10]) (by as_aux_lemma => kernel_rfl) (by simp) ?_
            refine AllReadyH.cons rfl (fun K hK => ?_) (AllReadyH.cons rfl (fun K hK => ?_) AllReadyH.nil)
            · go_simp
              refine (rimul_any _ _ _ rr.y1 rr.y2 hf.s1 hf.s2 P 1 Pk 1 (iy.ext F1) (is.ext F1) y1r y2r s1r s2r (by omega)).mono ?_
              rintro _ V2 ⟨vm7, rfl, m7, em7⟩
              have F2 : Ext WA V2 := F1.trans em7
              replace m3 := m3.ext em7
              refine hK.out _ _ ⟨vr6 (Vx.ext F2), vr6 (Vy.ext F2), bh12 (Bh.ext F2)⟩ (fun hHeld => ?_)
              clear hK K em7 F1
              refine wpAnyH_ready (rs := [8, 10]) (by as_aux_lemma => kernel_rfl) (by simp) ?_
              refine AllReadyH.cons rfl (fun K hK => ?_) (AllReadyH.cons rfl (fun K hK => ?_) AllReadyH.nil)
              · go_simp
                refine (riflip_any _ _ _ _ m7).mono ?_
                rintro _ V3 ⟨vm8, rfl, m8, em8⟩
                have F3 : Ext WA V3 := F2.trans em8
                replace m3 := m3.ext em8
                replace m7 := m7.ext em8
                refine hK.out _ _ ⟨vr6 (Vx.ext F3), vr6 (Vy.ext F3), bh12 (Bh.ext F3)⟩ (fun hHeld => ?_)
                clear hK K em8 F2
                refine wpAnyH_ready (rs := [9, 10]) (by as_aux_lemma => kernel_rfl) (by simp) ?_
                refine AllReadyH.cons rfl (fun K hK => ?_) (AllReadyH.cons rfl (fun K hK => ?_) AllReadyH.nil)
                · go_simp
                  refine (riadd_any _ _ _ _ _ _ _ (P + Pk) (1 + 1) m3 m8 gxc.1 gxc.2 gys.2.neg gys.1.neg (by omega)).mono ?_
                  rintro _ V4 ⟨vm9, rfl, m9, em9⟩
                  have F4 : Ext WA V4 := F3.trans em9
                  replace m3 := m3.ext em9
                  replace m7 := m7.ext em9
                  replace m8 := m8.ext em9
                  obtain ⟨bm9, Am9, lm9, cm9, jm9, bm9', Am9', lm9', cm9', jm9', rfl⟩ := m9.form
                  refine hK.out _ _ ⟨vr6 (Vx.ext F4), vr6 (Vy.ext F4), bh12 (Bh.ext F4)⟩ (fun hHeld => ?_)
                  clear hK K em9 F3
                  refine wpAnyH_ready (rs := [10]) (by as_aux_lemma => kernel_rfl) (by simp) ?_
                  refine AllReadyH.cons rfl (fun K hK => ?_) AllReadyH.nil
                  go_simp
                  have eX : Ext V4 (V4.alloc (.cells #[.bool false, .slice none 0 0, .int .i64 0, .bool false, .slice none 0 0, .int .i64 0] 33)) := (Ext.refl _).alloc _
                  have F5 : Ext WA (V4.alloc (.cells #[.bool false, .slice none 0 0, .int .i64 0, .bool false, .slice none 0 0, .int .i64 0] 33)) := F4.trans eX
                  refine hK.out _ _ ⟨vr6 (Vx.ext F5), vr6 (Vy.ext F5), bh12 (Bh.ext F5)⟩ (fun hHeld => ?_)
                  clear hK K
                  replace m3 := m3.ext eX
                  replace m7 := m7.ext eX
                  replace m8 := m8.ext eX
                  replace m9 := m9.ext eX
                  have X : Zi (V4.alloc (.cells #[.bool false, .slice none 0 0, .int .i64 0, .bool false, .slice none 0 0, .int .i64 0] 33)) V4.heap.size := Zi.new _ _
                  have lX : WA.heap.size ≤ V4.heap.size := F4.size
                  clear eX F4
                  generalize hgen : V4.alloc (.cells #[.bool false, .slice none 0 0, .int .i64 0, .bool false, .slice none 0 0, .int .i64 0] 33) = V5 at *
                  clear hgen
                  generalize hgen : V4.heap.size = gX at *
                  clear hgen
                  refine wpAnyH_ready (rs := [11]) (by as_aux_lemma => kernel_rfl) (by simp) ?_
                  refine AllReadyH.cons rfl (fun K hK => ?_) AllReadyH.nil
                  have q0 := X.c0; have q1 := X.c1; have q2 := X.c2; have q3 := X.c3; have q4 := X.c4; have q5 := X.c5; have h0 := X.f 0; have h1 := X.f 1; have h2 := X.f 2; have h3 := X.f 3; have h4 := X.f 4; have h5 := X.f 5
                  go_simp
                  have F6 : Ext WA (set6 V5 gX (.bool bm9) (.slice Am9 lm9 cm9) (.int .i64 jm9) (.bool bm9') (.slice Am9' lm9' cm9') (.int .i64 jm9')) := F5.set6 lX
                  refine hK.out _ _ ⟨vr6 (Vx.ext F6), vr6 (Vy.ext F6), bh12 (Bh.ext F6)⟩ (fun hHeld => ?_)
                  clear hK K q0 q1 q2 q3 q4 q5 h0 h1 h2 h3 h4 h5
                  replace m3 := X.off m3 (.bool bm9) (.slice Am9 lm9 cm9) (.int .i64 jm9) (.bool bm9') (.slice Am9' lm9' cm9') (.int .i64 jm9')
                  replace m7 := X.off m7 (.bool bm9) (.slice Am9 lm9 cm9) (.int .i64 jm9) (.bool bm9') (.slice Am9' lm9' cm9') (.int .i64 jm9')
                  replace m8 := X.off m8 (.bool bm9) (.slice Am9 lm9 cm9) (.int .i64 jm9) (.bool bm9') (.slice Am9' lm9' cm9') (.int .i64 jm9')
                  replace m9 := X.off m9 (.bool bm9) (.slice Am9 lm9 cm9) (.int .i64 jm9) (.bool bm9') (.slice Am9' lm9' cm9') (.int .i64 jm9')
                  have BX := X.put (.bool bm9) (.slice Am9 lm9 cm9) (.int .i64 jm9) (.bool bm9') (.slice Am9' lm9' cm9') (.int .i64 jm9')
                  clear X
                  obtain ⟨V6, hgen⟩ : ∃ V, (set6 V5 gX (.bool bm9) (.slice Am9 lm9 cm9) (.int .i64 jm9) (.bool bm9') (.slice Am9' lm9' cm9') (.int .i64 jm9')) = V := ⟨_, rfl⟩
                  rw [hgen] at F6 m3 m7 m8 m9 BX
                  have hgen2 : ((((((V5.setCell ⟨gX, 0, none⟩ (.bool bm9)).setCell ⟨gX, 1, none⟩ (.slice Am9 lm9 cm9)).setCell ⟨gX, 2, none⟩ (.int .i64 jm9)).setCell ⟨gX, 3, none⟩ (.bool bm9')).setCell ⟨gX, 4, none⟩ (.slice Am9' lm9' cm9')).setCell ⟨gX, 5, none⟩ (.int .i64 jm9')) = V6 := hgen
                  rw [hgen2] at hHeld ⊢
                  clear hgen hgen2
                  refine wpAnyH_done (by as_aux_lemma => kernel_rfl) ?_ _
                  go_wp2_with fail
                  go_meet
                  case rel => exact ⟨_, _, _, _, _, _, _, _, _, _, _, rfl, BX, m9, F6, lX⟩
                · go_simp
                  have eX : Ext V3 (V3.alloc (.cells #[.bool false, .slice none 0 0, .int .i64 0, .bool false, .slice none 0 0, .int .i64 0] 33)) := (Ext.refl _).alloc _
                  have F4 : Ext WA (V3.alloc (.cells #[.bool false, .slice none 0 0, .int .i64 0, .bool false, .slice none 0 0, .int .i64 0] 33)) := F3.trans eX
                  refine hK.out _ _ ⟨vr6 (Vx.ext F4), vr6 (Vy.ext F4), bh12 (Bh.ext F4)⟩ (fun hHeld => ?_)
                  clear hK K
                  replace m3 := m3.ext eX
                  replace m7 := m7.ext eX
                  replace m8 := m8.ext eX
                  have X : Zi (V3.alloc (.cells #[.bool false, .slice none 0 0, .int .i64 0, .bool false, .slice none 0 0, .int .i64 0] 33)) V3.heap.size := Zi.new _ _
                  have lX : WA.heap.size ≤ V3.heap.size := F3.size
                  clear eX F3
                  generalize hgen : V3.alloc (.cells #[.bool false, .slice none 0 0, .int .i64 0, .bool false, .slice none 0 0, .int .i64 0] 33) = V4 at *
                  clear hgen
                  generalize hgen : V3.heap.size = gX at *
                  clear hgen
                  refine wpAnyH_ready (rs := [9]) (by as_aux_lemma => kernel_rfl) (by simp) ?_
                  refine AllReadyH.cons rfl (fun K hK => ?_) AllReadyH.nil
                  go_simp
                  refine (riadd_any _ _ _ _ _ _ _ (P + Pk) (1 + 1) m3 m8 gxc.1 gxc.2 gys.2.neg gys.1.neg (by omega)).mono ?_
                  rintro _ V5 ⟨vm9, rfl, m9, em9⟩
                  have F5 : Ext WA V5 := F4.trans em9
                  replace m3 := m3.ext em9
                  replace m7 := m7.ext em9
                  replace m8 := m8.ext em9
                  replace X := X.ext em9
                  obtain ⟨bm9, Am9, lm9, cm9, jm9, bm9', Am9', lm9', cm9', jm9', rfl⟩ := m9.form
                  refine hK.out _ _ ⟨vr6 (Vx.ext F5), vr6 (Vy.ext F5), bh12 (Bh.ext F5)⟩ (fun hHeld => ?_)
                  clear hK K em9 F4
                  refine wpAnyH_ready (rs := [11]) (by as_aux_lemma => kernel_rfl) (by simp) ?_
                  refine AllReadyH.cons rfl (fun K hK => ?_) AllReadyH.nil
                  have q0 := X.c0; have q1 := X.c1; have q2 := X.c2; have q3 := X.c3; have q4 := X.c4; have q5 := X.c5; have h0 := X.f 0; have h1 := X.f 1; have h2 := X.f 2; have h3 := X.f 3; have h4 := X.f 4; have h5 := X.f 5
                  go_simp
                  have F6 : Ext WA (set6 V5 gX (.bool bm9) (.slice Am9 lm9 cm9) (.int .i64 jm9) (.bool bm9') (.slice Am9' lm9' cm9') (.int .i64 jm9')) := F5.set6 lX
                  refine hK.out _ _ ⟨vr6 (Vx.ext F6), vr6 (Vy.ext F6), bh12 (Bh.ext F6)⟩ (fun hHeld => ?_)
                  clear hK K q0 q1 q2 q3 q4 q5 h0 h1 h2 h3 h4 h5
                  replace m3 := X.off m3 (.bool bm9) (.slice Am9 lm9 cm9) (.int .i64 jm9) (.bool bm9') (.slice Am9' lm9' cm9') (.int .i64 jm9')
                  replace m7 := X.off m7 (.bool bm9) (.slice Am9 lm9 cm9) (.int .i64 jm9) (.bool bm9') (.slice Am9' lm9' cm9') (.int .i64 jm9')
                  replace m8 := X.off m8 (.bool bm9) (.slice Am9 lm9 cm9) (.int .i64 jm9) (.bool bm9') (.slice Am9' lm9' cm9') (.int .i64 jm9')
                  replace m9 := X.off m9 (.bool bm9) (.slice Am9 lm9 cm9) (.int .i64 jm9) (.bool bm9') (.slice Am9' lm9' cm9') (.int .i64 jm9')
                  have BX := X.put (.bool bm9) (.slice Am9 lm9 cm9) (.int .i64 jm9) (.bool bm9') (.slice Am9' lm9' cm9') (.int .i64 jm9')
                  clear X
                  obtain ⟨V6, hgen⟩ : ∃ V, (set6 V5 gX (.bool bm9) (.slice Am9 lm9 cm9) (.int .i64 jm9) (.bool bm9') (.slice Am9' lm9' cm9') (.int .i64 jm9')) = V := ⟨_, rfl⟩
                  rw [hgen] at F6 m3 m7 m8 m9 BX
                  have hgen2 : ((((((V5.setCell ⟨gX, 0, none⟩ (.bool bm9)).setCell ⟨gX, 1, none⟩ (.slice Am9 lm9 cm9)).setCell ⟨gX, 2, none⟩ (.int .i64 jm9)).setCell ⟨gX, 3, none⟩ (.bool bm9')).setCell ⟨gX, 4, none⟩ (.slice Am9' lm9' cm9')).setCell ⟨gX, 5, none⟩ (.int .i64 jm9')) = V6 := hgen
                  rw [hgen2] at hHeld ⊢
                  clear hgen hgen2
                  refine wpAnyH_done (by as_aux_lemma => kernel_rfl) ?_ _
                  go_wp2_with fail
                  go_meet
                  case rel => exact ⟨_, _, _, _, _, _, _, _, _, _, _, rfl, BX, m9, F6, lX⟩
              · go_simp
                have eX : Ext V2 (V2.alloc (.cells #[.bool false, .slice none 0 0, .int .i64 0, .bool false, .slice none 0 0, .int .i64 0] 33)) := (Ext.refl _).alloc _
                have F3 : Ext WA (V2.alloc (.cells #[.bool false, .slice none 0 0, .int .i64 0, .bool false, .slice none 0 0, .int .i64 0] 33)) := F2.trans eX
                refine hK.out _ _ ⟨vr6 (Vx.ext F3), vr6 (Vy.ext F3), bh12 (Bh.ext F3)⟩ (fun hHeld => ?_)
                clear hK K
                replace m3 := m3.ext eX
                replace m7 := m7.ext eX
                have X : Zi (V2.alloc (.cells #[.bool false, .slice none 0 0, .int .i64 0, .bool false, .slice none 0 0, .int .i64 0] 33)) V2.heap.size := Zi.new _ _
                have lX : WA.heap.size ≤ V2.heap.size := F2.size
                clear eX F2
                generalize hgen : V2.alloc (.cells #[.bool false, .slice none 0 0, .int .i64 0, .bool false, .slice none 0 0, .int .i64 0] 33) = V3 at *
                clear hgen
                generalize hgen : V2.heap.size = gX at *
                clear hgen
                refine wpAnyH_ready (rs := [8]) (by as_aux_lemma => kernel_rfl) (by simp) ?_
                refine AllReadyH.cons rfl (fun K hK => ?_) AllReadyH.nil
                go_simp
                refine (riflip_any _ _ _ _ m7).mono ?_
                rintro _ V4 ⟨vm8, rfl, m8, em8⟩
                have F4 : Ext WA V4 := F3.trans em8
                replace m3 := m3.ext em8
                replace m7 := m7.ext em8
                replace X := X.ext em8
                refine hK.out _ _ ⟨vr6 (Vx.ext F4), vr6 (Vy.ext F4), bh12 (Bh.ext F4)⟩ (fun hHeld => ?_)
                clear hK K em8 F3
                refine wpAnyH_ready (rs := [9]) (by as_aux_lemma => kernel_rfl) (by simp) ?_
                refine AllReadyH.cons rfl (fun K hK => ?_) AllReadyH.nil
                go_simp
                refine (riadd_any _ _ _ _ _ _ _ (P + Pk) (1 + 1) m3 m8 gxc.1 gxc.2 gys.2.neg gys.1.neg (by omega)).mono ?_
                rintro _ V5 ⟨vm9, rfl, m9, em9⟩
                have F5 : Ext WA V5 := F4.trans em9
                replace m3 := m3.ext em9
                replace m7 := m7.ext em9
                replace m8 := m8.ext em9
                replace X := X.ext em9
                obtain ⟨bm9, Am9, lm9, cm9, jm9, bm9', Am9', lm9', cm9', jm9', rfl⟩ := m9.form
                refine hK.out _ _ ⟨vr6 (Vx.ext F5), vr6 (Vy.ext F5), bh12 (Bh.ext F5)⟩ (fun hHeld => ?_)
                clear hK K em9 F4
                refine wpAnyH_ready (rs := [11]) (by as_aux_lemma => kernel_rfl) (by simp) ?_
                refine AllReadyH.cons rfl (fun K hK => ?_) AllReadyH.nil
                have q0 := X.c0; have q1 := X.c1; have q2 := X.c2; have q3 := X.c3; have q4 := X.c4; have q5 := X.c5; have h0 := X.f 0; have h1 := X.f 1; have h2 := X.f 2; have h3 := X.f 3; have h4 := X.f 4; have h5 := X.f 5
                go_simp
                have F6 : Ext WA (set6 V5 gX (.bool bm9) (.slice Am9 lm9 cm9) (.int .i64 jm9) (.bool bm9') (.slice Am9' lm9' cm9') (.int .i64 jm9')) := F5.set6 lX
                refine hK.out _ _ ⟨vr6 (Vx.ext F6), vr6 (Vy.ext F6), bh12 (Bh.ext F6)⟩ (fun hHeld => ?_)
                clear hK K q0 q1 q2 q3 q4 q5 h0 h1 h2 h3 h4 h5
                replace m3 := X.off m3 (.bool bm9) (.slice Am9 lm9 cm9) (.int .i64 jm9) (.bool bm9') (.slice Am9' lm9' cm9') (.int .i64 jm9')
                replace m7 := X.off m7 (.bool bm9) (.slice Am9 lm9 cm9) (.int .i64 jm9) (.bool bm9') (.slice Am9' lm9' cm9') (.int .i64 jm9')
                replace m8 := X.off m8 (.bool bm9) (.slice Am9 lm9 cm9) (.int .i64 jm9) (.bool bm9') (.slice Am9' lm9' cm9') (.int .i64 jm9')
                replace m9 := X.off m9 (.bool bm9) (.slice Am9 lm9 cm9) (.int .i64 jm9) (.bool bm9') (.slice Am9' lm9' cm9') (.int .i64 jm9')
                have BX := X.put (.bool bm9) (.slice Am9 lm9 cm9) (.int .i64 jm9) (.bool bm9') (.slice Am9' lm9' cm9') (.int .i64 jm9')
                clear X
                obtain ⟨V6, hgen⟩ : ∃ V, (set6 V5 gX (.bool bm9) (.slice Am9 lm9 cm9) (.int .i64 jm9) (.bool bm9') (.slice Am9' lm9' cm9') (.int .i64 jm9')) = V := ⟨_, rfl⟩
                rw [hgen] at F6 m3 m7 m8 m9 BX
                have hgen2 : ((((((V5.setCell ⟨gX, 0, none⟩ (.bool bm9)).setCell ⟨gX, 1, none⟩ (.slice Am9 lm9 cm9)).setCell ⟨gX, 2, none⟩ (.int .i64 jm9)).setCell ⟨gX, 3, none⟩ (.bool bm9')).setCell ⟨gX, 4, none⟩ (.slice Am9' lm9' cm9')).setCell ⟨gX, 5, none⟩ (.int .i64 jm9')) = V6 := hgen
                rw [hgen2] at hHeld ⊢
                clear hgen hgen2
                refine wpAnyH_done (by as_aux_lemma => kernel_rfl) ?_ _
                go_wp2_with fail
                go_meet
                case rel => exact ⟨_, _, _, _, _, _, _, _, _, _, _, rfl, BX, m9, F6, lX⟩
            · go_simp
              have eX : Ext V1 (V1.alloc (.cells #[.bool false, .slice none 0 0, .int .i64 0, .bool false, .slice none 0 0, .int .i64 0] 33)) := (Ext.refl _).alloc _
              have F2 : Ext WA (V1.alloc (.cells #[.bool false, .slice none 0 0, .int .i64 0, .bool false, .slice none 0 0, .int .i64 0] 33)) := F1.trans eX
              refine hK.out _ _ ⟨vr6 (Vx.ext F2), vr6 (Vy.ext F2), bh12 (Bh.ext F2)⟩ (fun hHeld => ?_)
              clear hK K
              replace m3 := m3.ext eX
              have X : Zi (V1.alloc (.cells #[.bool false, .slice none 0 0, .int .i64 0, .bool false, .slice none 0 0, .int .i64 0] 33)) V1.heap.size := Zi.new _ _
              have lX : WA.heap.size ≤ V1.heap.size := F1.size
              clear eX F1
              generalize hgen : V1.alloc (.cells #[.bool false, .slice none 0 0, .int .i64 0, .bool false, .slice none 0 0, .int .i64 0] 33) = V2 at *
              clear hgen
              generalize hgen : V1.heap.size = gX at *
              clear hgen
              refine wpAnyH_ready (rs := [7]) (by as_aux_lemma => kernel_rfl) (by simp) ?_
              refine AllReadyH.cons rfl (fun K hK => ?_) AllReadyH.nil
              go_simp
              refine (rimul_any _ _ _ rr.y1 rr.y2 hf.s1 hf.s2 P 1 Pk 1 (iy.ext F2) (is.ext F2) y1r y2r s1r s2r (by omega)).mono ?_
              rintro _ V3 ⟨vm7, rfl, m7, em7⟩
              have F3 : Ext WA V3 := F2.trans em7
              replace m3 := m3.ext em7
              replace X := X.ext em7
              refine hK.out _ _ ⟨vr6 (Vx.ext F3), vr6 (Vy.ext F3), bh12 (Bh.ext F3)⟩ (fun hHeld => ?_)
              clear hK K em7 F2
              refine wpAnyH_ready (rs := [8]) (by as_aux_lemma => kernel_rfl) (by simp) ?_
              refine AllReadyH.cons rfl (fun K hK => ?_) AllReadyH.nil
              go_simp
              refine (riflip_any _ _ _ _ m7).mono ?_
              rintro _ V4 ⟨vm8, rfl, m8, em8⟩
              have F4 : Ext WA V4 := F3.trans em8
              replace m3 := m3.ext em8
              replace m7 := m7.ext em8
              replace X := X.ext em8
              refine hK.out _ _ ⟨vr6 (Vx.ext F4), vr6 (Vy.ext F4), bh12 (Bh.ext F4)⟩ (fun hHeld => ?_)
              clear hK K em8 F3
              refine wpAnyH_ready (rs := [9]) (by as_aux_lemma => kernel_rfl) (by simp) ?_
              refine AllReadyH.cons rfl (fun K hK => ?_) AllReadyH.nil
              go_simp
              refine (riadd_any _ _ _ _ _ _ _ (P + Pk) (1 + 1) m3 m8 gxc.1 gxc.2 gys.2.neg gys.1.neg (by omega)).mono ?_
              rintro _ V5 ⟨vm9, rfl, m9, em9⟩
              have F5 : Ext WA V5 := F4.trans em9
              replace m3 := m3.ext em9
              replace m7 := m7.ext em9
              replace m8 := m8.ext em9
              replace X := X.ext em9
              obtain ⟨bm9, Am9, lm9, cm9, jm9, bm9', Am9', lm9', cm9', jm9', rfl⟩ := m9.form
              refine hK.out _ _ ⟨vr6 (Vx.ext F5), vr6 (Vy.ext F5), bh12 (Bh.ext F5)⟩ (fun hHeld => ?_)
              clear hK K em9 F4
              refine wpAnyH_ready (rs := [11]) (by as_aux_lemma => kernel_rfl) (by simp) ?_
              refine AllReadyH.cons rfl (fun K hK => ?_) AllReadyH.nil
              have q0 := X.c0; have q1 := X.c1; have q2 := X.c2; have q3 := X.c3; have q4 := X.c4; have q5 := X.c5; have h0 := X.f 0; have h1 := X.f 1; have h2 := X.f 2; have h3 := X.f 3; have h4 := X.f 4; have h5 := X.f 5
              go_simp
              have F6 : Ext WA (set6 V5 gX (.bool bm9) (.slice Am9 lm9 cm9) (.int .i64 jm9) (.bool bm9') (.slice Am9' lm9' cm9') (.int .i64 jm9')) := F5.set6 lX
              refine hK.out _ _ ⟨vr6 (Vx.ext F6), vr6 (Vy.ext F6), bh12 (Bh.ext F6)⟩ (fun hHeld => ?_)
              clear hK K q0 q1 q2 q3 q4 q5 h0 h1 h2 h3 h4 h5
              replace m3 := X.off m3 (.bool bm9) (.slice Am9 lm9 cm9) (.int .i64 jm9) (.bool bm9') (.slice Am9' lm9' cm9') (.int .i64 jm9')
              replace m7 := X.off m7 (.bool bm9) (.slice Am9 lm9 cm9) (.int .i64 jm9) (.bool bm9') (.slice Am9' lm9' cm9') (.int .i64 jm9')
              replace m8 := X.off m8 (.bool bm9) (.slice Am9 lm9 cm9) (.int .i64 jm9) (.bool bm9') (.slice Am9' lm9' cm9') (.int .i64 jm9')
              replace m9 := X.off m9 (.bool bm9) (.slice Am9 lm9 cm9) (.int .i64 jm9) (.bool bm9') (.slice Am9' lm9' cm9') (.int .i64 jm9')
              have BX := X.put (.bool bm9) (.slice Am9 lm9 cm9) (.int .i64 jm9) (.bool bm9') (.slice Am9' lm9' cm9') (.int .i64 jm9')
              clear X
              obtain ⟨V6, hgen⟩ : ∃ V, (set6 V5 gX (.bool bm9) (.slice Am9 lm9 cm9) (.int .i64 jm9) (.bool bm9') (.slice Am9' lm9' cm9') (.int .i64 jm9')) = V := ⟨_, rfl⟩
              rw [hgen] at F6 m3 m7 m8 m9 BX
              have hgen2 : ((((((V5.setCell ⟨gX, 0, none⟩ (.bool bm9)).setCell ⟨gX, 1, none⟩ (.slice Am9 lm9 cm9)).setCell ⟨gX, 2, none⟩ (.int .i64 jm9)).setCell ⟨gX, 3, none⟩ (.bool bm9')).setCell ⟨gX, 4, none⟩ (.slice Am9' lm9' cm9')).setCell ⟨gX, 5, none⟩ (.int .i64 jm9')) = V6 := hgen
              rw [hgen2] at hHeld ⊢
              clear hgen hgen2
              refine wpAnyH_done (by as_aux_lemma => kernel_rfl) ?_ _
              go_wp2_with fail
              go_meet
              case rel => exact ⟨_, _, _, _, _, _, _, _, _, _, _, rfl, BX, m9, F6, lX⟩
          · go_simp
            have eX : Ext V0 (V0.alloc (.cells #[.bool false, .slice none 0 0, .int .i64 0, .bool false, .slice none 0 0, .int .i64 0] 33)) := (Ext.refl _).alloc _
            have F1 : Ext WA (V0.alloc (.cells #[.bool false, .slice none 0 0, .int .i64 0, .bool false, .slice none 0 0, .int .i64 0] 33)) := F0.trans eX
            refine hK.out _ _ ⟨vr6 (Vx.ext F1), vr6 (Vy.ext F1), bh12 (Bh.ext F1)⟩ (fun hHeld => ?_)
            clear hK K
            have X : Zi (V0.alloc (.cells #[.bool false, .slice none 0 0, .int .i64 0, .bool false, .slice none 0 0, .int .i64 0] 33)) V0.heap.size := Zi.new _ _
            have lX : WA.heap.size ≤ V0.heap.size := F0.size
            clear eX
            generalize hgen : V0.alloc (.cells #[.bool false, .slice none 0 0, .int .i64 0, .bool false, .slice none 0 0, .int .i64 0] 33) = V1 at *
            clear hgen
            generalize hgen : V0.heap.size = gX at *
            clear hgen
            refine wpAnyH_ready (rs := [3]) (by as_aux_lemma => kernel_rfl) (by simp) ?_
            refine AllReadyH.cons rfl (fun K hK => ?_) AllReadyH.nil
            go_simp
            refine (rimul_any _ _ _ rr.x1 rr.x2 hf.c1 hf.c2 P 1 Pk 1 (ix.ext F1) (ic.ext F1) x1r x2r c1r c2r (by omega)).mono ?_
            rintro _ V2 ⟨vm3, rfl, m3, em3⟩
            have F2 : Ext WA V2 := F1.trans em3
            replace X := X.ext em3
            refine hK.out _ _ ⟨vr6 (Vx.ext F2), vr6 (Vy.ext F2), bh12 (Bh.ext F2)⟩ (fun hHeld => ?_)
            clear hK K em3 F1
            refine wpAnyH_ready (rs := [7]) (by as_aux_lemma => kernel_rfl) (by simp) ?_
            refine AllReadyH.cons rfl (fun K hK => ?_) AllReadyH.nil
            go_simp
            refine (rimul_any _ _ _ rr.y1 rr.y2 hf.s1 hf.s2 P 1 Pk 1 (iy.ext F2) (is.ext F2) y1r y2r s1r s2r (by omega)).mono ?_
            rintro _ V3 ⟨vm7, rfl, m7, em7⟩
            have F3 : Ext WA V3 := F2.trans em7
            replace m3 := m3.ext em7
            replace X := X.ext em7
            refine hK.out _ _ ⟨vr6 (Vx.ext F3), vr6 (Vy.ext F3), bh12 (Bh.ext F3)⟩ (fun hHeld => ?_)
            clear hK K em7 F2
            refine wpAnyH_ready (rs := [8]) (by as_aux_lemma => kernel_rfl) (by simp) ?_
            refine AllReadyH.cons rfl (fun K hK => ?_) AllReadyH.nil
            go_simp
            refine (riflip_any _ _ _ _ m7).mono ?_
            rintro _ V4 ⟨vm8, rfl, m8, em8⟩
            have F4 : Ext WA V4 := F3.trans em8
            replace m3 := m3.ext em8
            replace m7 := m7.ext em8
            replace X := X.ext em8
            refine hK.out _ _ ⟨vr6 (Vx.ext F4), vr6 (Vy.ext F4), bh12 (Bh.ext F4)⟩ (fun hHeld => ?_)
            clear hK K em8 F3
            refine wpAnyH_ready (rs := [9]) (by as_aux_lemma => kernel_rfl) (by simp) ?_
            refine AllReadyH.cons rfl (fun K hK => ?_) AllReadyH.nil
            go_simp
            refine (riadd_any _ _ _ _ _ _ _ (P + Pk) (1 + 1) m3 m8 gxc.1 gxc.2 gys.2.neg gys.1.neg (by omega)).mono ?_
            rintro _ V5 ⟨vm9, rfl, m9, em9⟩
            have F5 : Ext WA V5 := F4.trans em9
            replace m3 := m3.ext em9
            replace m7 := m7.ext em9
            replace m8 := m8.ext em9
            replace X := X.ext em9
            obtain ⟨bm9, Am9, lm9, cm9, jm9, bm9', Am9', lm9', cm9', jm9', rfl⟩ := m9.form
            refine hK.out _ _ ⟨vr6 (Vx.ext F5), vr6 (Vy.ext F5), bh12 (Bh.ext F5)⟩ (fun hHeld => ?_)
            clear hK K em9 F4
            refine wpAnyH_ready (rs := [11]) (by as_aux_lemma => kernel_rfl) (by simp) ?_
            refine AllReadyH.cons rfl (fun K hK => ?_) AllReadyH.nil
            have q0 := X.c0; have q1 := X.c1; have q2 := X.c2; have q3 := X.c3; have q4 := X.c4; have q5 := X.c5; have h0 := X.f 0; have h1 := X.f 1; have h2 := X.f 2; have h3 := X.f 3; have h4 := X.f 4; have h5 := X.f 5
            go_simp
            have F6 : Ext WA (set6 V5 gX (.bool bm9) (.slice Am9 lm9 cm9) (.int .i64 jm9) (.bool bm9') (.slice Am9' lm9' cm9') (.int .i64 jm9')) := F5.set6 lX
            refine hK.out _ _ ⟨vr6 (Vx.ext F6), vr6 (Vy.ext F6), bh12 (Bh.ext F6)⟩ (fun hHeld => ?_)
            clear hK K q0 q1 q2 q3 q4 q5 h0 h1 h2 h3 h4 h5
            replace m3 := X.off m3 (.bool bm9) (.slice Am9 lm9 cm9) (.int .i64 jm9) (.bool bm9') (.slice Am9' lm9' cm9') (.int .i64 jm9')
            replace m7 := X.off m7 (.bool bm9) (.slice Am9 lm9 cm9) (.int .i64 jm9) (.bool bm9') (.slice Am9' lm9' cm9') (.int .i64 jm9')
            replace m8 := X.off m8 (.bool bm9) (.slice Am9 lm9 cm9) (.int .i64 jm9) (.bool bm9') (.slice Am9' lm9' cm9') (.int .i64 jm9')
            replace m9 := X.off m9 (.bool bm9) (.slice Am9 lm9 cm9) (.int .i64 jm9) (.bool bm9') (.slice Am9' lm9' cm9') (.int .i64 jm9')
            have BX := X.put (.bool bm9) (.slice Am9 lm9 cm9) (.int .i64 jm9) (.bool bm9') (.slice Am9' lm9' cm9') (.int .i64 jm9')
            clear X
            obtain ⟨V6, hgen⟩ : ∃ V, (set6 V5 gX (.bool bm9) (.slice Am9 lm9 cm9) (.int .i64 jm9) (.bool bm9') (.slice Am9' lm9' cm9') (.int .i64 jm9')) = V := ⟨_, rfl⟩
            rw [hgen] at F6 m3 m7 m8 m9 BX
            have hgen2 : ((((((V5.setCell ⟨gX, 0, none⟩ (.bool bm9)).setCell ⟨gX, 1, none⟩ (.slice Am9 lm9 cm9)).setCell ⟨gX, 2, none⟩ (.int .i64 jm9)).setCell ⟨gX, 3, none⟩ (.bool bm9')).setCell ⟨gX, 4, none⟩ (.slice Am9' lm9' cm9')).setCell ⟨gX, 5, none⟩ (.int .i64 jm9')) = V6 := hgen
            rw [hgen2] at hHeld ⊢
            clear hgen hgen2
            refine wpAnyH_done (by as_aux_lemma => kernel_rfl) ?_ _
            go_wp2_with fail
            go_meet
            case rel => exact ⟨_, _, _, _, _, _, _, _, _, _, _, rfl, BX, m9, F6, lX⟩
        case rest =>
          obtain ⟨ga, ba, Aa, na, ca, ea, ba', Aa', na', ca', ea', rfl, Ba, ia, eC, hga⟩ := hcut
          clear x0_ f0_ x1_ f1_ x2_ f2_ x3_ f3_ x4_ f4_ x5_ f5_ h0_ h1_ h2_ h3_ h4_ h5_ h6_ h7_ h8_ h9_ h10_ h11_
          replace Bt := Bt.ext eC
          replace Z1 := Z1.ext eC
          replace Z2 := Z2.ext eC
          replace Vx := Vx.ext eC
          replace Vy := Vy.ext eC
          replace ix := ix.ext eC
          replace iy := iy.ext eC
          replace ic := ic.ext eC
          replace is := is.ext eC
          replace Bh := Bh.ext eC
          have EA := E8.trans eC
          clear eC E8
          go_upto_region 9 with fail
          have lxc := World.block_lt_of_cell? _ _ Vx.c0
          obtain ⟨x0_, x1_, x2_, x3_, x4_, x5_⟩ := vr6 Vx
          obtain ⟨f0_, f1_, f2_, f3_, f4_, f5_⟩ := vr6 Vy
          obtain ⟨h0_, h1_, h2_, h3_, h4_, h5_, h6_, h7_, h8_, h9_, h10_, h11_⟩ := bh12 Bh
          go_cut [13] from 18 to 62 (fun pp wx => ∃ (g : Nat) (bd : Bool) (Ad : Option Addr) (nd cd : Nat) (ed : Int) (bd' : Bool) (Ad' : Option Addr) (nd' cd' : Nat) (ed' : Int), pp = .pointer (some ⟨g, 0, none⟩) ∧ Bx wx g (.bool bd) (.slice Ad nd cd) (.int .i64 ed) (.bool bd') (.slice Ad' nd' cd') (.int .i64 ed') ∧ In wx (.agg #[.bool bd, .slice Ad nd cd, .int .i64 ed, .bool bd', .slice Ad' nd' cd', .int .i64 ed']) (mlo rr.y1 rr.y2 hf.c1 hf.c2 + mlo rr.x1 rr.x2 hf.s1 hf.s2) (mhi rr.y1 rr.y2 hf.c1 hf.c2 + mhi rr.x1 rr.x2 hf.s1 hf.s2) ∧ Ext wc wx ∧ wc.heap.size ≤ g)
          case first =>
            refine wp_region_held_drew (S := (fun w' => (w'.cell? ⟨gx, 0, none⟩ = some (.bool bx) ∧ w'.cell? ⟨gx, 1, none⟩ = some (.slice Ax nx cx) ∧ w'.cell? ⟨gx, 2, none⟩ = some (.int .i64 ex) ∧ w'.cell? ⟨gx, 3, none⟩ = some (.bool bx') ∧ w'.cell? ⟨gx, 4, none⟩ = some (.slice Ax' nx' cx') ∧ w'.cell? ⟨gx, 5, none⟩ = some (.int .i64 ex')) ∧ (w'.cell? ⟨gy, 0, none⟩ = some (.bool bf) ∧ w'.cell? ⟨gy, 1, none⟩ = some (.slice Af nf cf) ∧ w'.cell? ⟨gy, 2, none⟩ = some (.int .i64 ef) ∧ w'.cell? ⟨gy, 3, none⟩ = some (.bool bf') ∧ w'.cell? ⟨gy, 4, none⟩ = some (.slice Af' nf' cf') ∧ w'.cell? ⟨gy, 5, none⟩ = some (.int .i64 ef')) ∧ (w'.cell? ⟨gh, 0, none⟩ = some (.bool bp) ∧ w'.cell? ⟨gh, 1, none⟩ = some (.slice Ap np cp) ∧ w'.cell? ⟨gh, 2, none⟩ = some (.int .i64 ep) ∧ w'.cell? ⟨gh, 3, none⟩ = some (.bool bp') ∧ w'.cell? ⟨gh, 4, none⟩ = some (.slice Ap' np' cp') ∧ w'.cell? ⟨gh, 5, none⟩ = some (.int .i64 ep') ∧ w'.cell? ⟨gh, 6, none⟩ = some (.bool bs) ∧ w'.cell? ⟨gh, 7, none⟩ = some (.slice As ns cs) ∧ w'.cell? ⟨gh, 8, none⟩ = some (.int .i64 es) ∧ w'.cell? ⟨gh, 9, none⟩ = some (.bool bs') ∧ w'.cell? ⟨gh, 10, none⟩ = some (.slice As' ns' cs') ∧ w'.cell? ⟨gh, 11, none⟩ = some (.int .i64 es')))) (by as_aux_lemma => kernel_rfl) ⟨vr6 (Vx.ext (Ext.refl wc).drew), vr6 (Vy.ext (Ext.refl wc).drew), bh12 (Bh.ext (Ext.refl wc).drew)⟩ (fun hHeld => ?_)
            have F0 : Ext wc (World.drew wc) := (Ext.refl _).drew
            generalize hgen : World.drew wc = V0 at *
            clear hgen
            refine wpAnyH_take (i := 0) (v := ?_) rfl (by as_aux_lemma => kernel_rfl) (by as_aux_lemma => kernel_rfl) (by as_aux_lemma => kernel_rfl) (fun _ _ _ h => h) (Or.inl ⟨by rfl, ?_⟩) (by assumption) ?_
            rotate_left
            · (intro w hSw; (try dsimp only at hSw); go_simp); (try with_reducible rfl)
            simp only [List.getElem_toArray, List.getElem_cons_zero, Act.put, List.setIfInBounds_toArray, List.set_cons_zero, List.set_cons_succ]
            refine wpAnyH_take (i := 1) (v := ?_) rfl (by as_aux_lemma => kernel_rfl) (by as_aux_lemma => kernel_rfl) (by as_aux_lemma => kernel_rfl) (fun _ _ _ h => h) (Or.inl ⟨by rfl, ?_⟩) (by assumption) ?_
            rotate_left
            · (intro w hSw; (try dsimp only at hSw); go_simp); (try with_reducible rfl)
            simp only [List.getElem_toArray, List.getElem_cons_zero, List.getElem_cons_succ, Act.put, List.setIfInBounds_toArray, List.set_cons_zero, List.set_cons_succ]
            refine wpAnyH_take (i := 2) (v := ?_) rfl (by as_aux_lemma => kernel_rfl) (by as_aux_lemma => kernel_rfl) (by as_aux_lemma => kernel_rfl) (fun _ _ _ h => h) (Or.inl ⟨by rfl, ?_⟩) (by assumption) ?_
            rotate_left
            · (intro w hSw; (try dsimp only at hSw); go_simp); (try with_reducible rfl)
            simp only [List.getElem_toArray, List.getElem_cons_zero, List.getElem_cons_succ, Act.put, List.setIfInBounds_toArray, List.set_cons_zero, List.set_cons_succ]
            refine wpAnyH_take (i := 4) (v := ?_) rfl (by as_aux_lemma => kernel_rfl) (by as_aux_lemma => kernel_rfl) (by as_aux_lemma => kernel_rfl) (fun _ _ _ h => h) (Or.inl ⟨by rfl, ?_⟩) (by assumption) ?_
            rotate_left
            · (intro w hSw; (try dsimp only at hSw); go_simp); (try with_reducible rfl)
            simp only [List.getElem_toArray, List.getElem_cons_zero, List.getElem_cons_succ, Act.put, List.setIfInBounds_toArray, List.set_cons_zero, List.set_cons_succ]
            refine wpAnyH_take (i := 5) (v := ?_) rfl (by as_aux_lemma => kernel_rfl) (by as_aux_lemma => kernel_rfl) (by as_aux_lemma => kernel_rfl) (fun _ _ _ h => h) (Or.inl ⟨by rfl, ?_⟩) (by assumption) ?_
            rotate_left
            · (intro w hSw; (try dsimp only at hSw); go_simp); (try with_reducible rfl)
            simp only [List.getElem_toArray, List.getElem_cons_zero, List.getElem_cons_succ, Act.put, List.setIfInBounds_toArray, List.set_cons_zero, List.set_cons_succ]
            refine wpAnyH_take (i := 6) (v := ?_) rfl (by as_aux_lemma => kernel_rfl) (by as_aux_lemma => kernel_rfl) (by as_aux_lemma => kernel_rfl) (fun _ _ _ h => h) (Or.inl ⟨by rfl, ?_⟩) (by assumption) ?_
            rotate_left
            · (intro w hSw; (try dsimp only at hSw); go_simp); (try with_reducible rfl)
            simp only [List.getElem_toArray, List.getElem_cons_zero, List.getElem_cons_succ, Act.put, List.setIfInBounds_toArray, List.set_cons_zero, List.set_cons_succ]
            refine wpAnyH_ready (rs := [3, 9]) (by as_aux_lemma => kernel_rfl) (by simp) ?_
            refine AllReadyH.cons rfl (fun K hK => ?_) (AllReadyH.cons rfl (fun K hK => ?_) AllReadyH.nil)
            · go_simp
              refine (rimul_any _ _ _ rr.y1 rr.y2 hf.c1 hf.c2 P 1 Pk 1 (iy.ext F0) (ic.ext F0) y1r y2r c1r c2r (by omega)).mono ?_
              rintro _ V1 ⟨vm3, rfl, m3, em3⟩
              have F1 : Ext wc V1 := F0.trans em3
              refine hK.out _ _ ⟨vr6 (Vx.ext F1), vr6 (Vy.ext F1), bh12 (Bh.ext F1)⟩ (fun hHeld => ?_)
              clear hK K em3
              refine wpAnyH_ready (rs := [7, 9]) (by as_aux_lemma => kernel_rfl) (by simp) ?_
              refine AllReadyH.cons rfl (fun K hK => ?_) (AllReadyH.cons rfl (fun K hK => ?_) AllReadyH.nil)
              · go_simp
                refine (rimul_any _ _ _ rr.x1 rr.x2 hf.s1 hf.s2 P 1 Pk 1 (ix.ext F1) (is.ext F1) x1r x2r s1r s2r (by omega)).mono ?_
                rintro _ V2 ⟨vm7, rfl, m7, em7⟩
                have F2 : Ext wc V2 := F1.trans em7
                replace m3 := m3.ext em7
                refine hK.out _ _ ⟨vr6 (Vx.ext F2), vr6 (Vy.ext F2), bh12 (Bh.ext F2)⟩ (fun hHeld => ?_)
                clear hK K em7 F1
                refine wpAnyH_ready (rs := [8, 9]) (by as_aux_lemma => kernel_rfl) (by simp) ?_
                refine AllReadyH.cons rfl (fun K hK => ?_) (AllReadyH.cons rfl (fun K hK => ?_) AllReadyH.nil)
                · go_simp
                  refine (riadd_any _ _ _ _ _ _ _ (P + Pk) (1 + 1) m3 m7 gyc.1 gyc.2 gxs.1 gxs.2 (by omega)).mono ?_
                  rintro _ V3 ⟨vm9, rfl, m9, em9⟩
                  have F3 : Ext wc V3 := F2.trans em9
                  replace m3 := m3.ext em9
                  replace m7 := m7.ext em9
                  obtain ⟨bm9, Am9, lm9, cm9, jm9, bm9', Am9', lm9', cm9', jm9', rfl⟩ := m9.form
                  refine hK.out _ _ ⟨vr6 (Vx.ext F3), vr6 (Vy.ext F3), bh12 (Bh.ext F3)⟩ (fun hHeld => ?_)
                  clear hK K em9 F2
                  refine wpAnyH_ready (rs := [9]) (by as_aux_lemma => kernel_rfl) (by simp) ?_
                  refine AllReadyH.cons rfl (fun K hK => ?_) AllReadyH.nil
                  go_simp
                  have eX : Ext V3 (V3.alloc (.cells #[.bool false, .slice none 0 0, .int .i64 0, .bool false, .slice none 0 0, .int .i64 0] 33)) := (Ext.refl _).alloc _
                  have F4 : Ext wc (V3.alloc (.cells #[.bool false, .slice none 0 0, .int .i64 0, .bool false, .slice none 0 0, .int .i64 0] 33)) := F3.trans eX
                  refine hK.out _ _ ⟨vr6 (Vx.ext F4), vr6 (Vy.ext F4), bh12 (Bh.ext F4)⟩ (fun hHeld => ?_)
                  clear hK K
                  replace m3 := m3.ext eX
                  replace m7 := m7.ext eX
                  replace m9 := m9.ext eX
                  have X : Zi (V3.alloc (.cells #[.bool false, .slice none 0 0, .int .i64 0, .bool false, .slice none 0 0, .int .i64 0] 33)) V3.heap.size := Zi.new _ _
                  have lX : wc.heap.size ≤ V3.heap.size := F3.size
                  clear eX F3
                  generalize hgen : V3.alloc (.cells #[.bool false, .slice none 0 0, .int .i64 0, .bool false, .slice none 0 0, .int .i64 0] 33) = V4 at *
                  clear hgen
                  generalize hgen : V3.heap.size = gX at *
                  clear hgen
                  refine wpAnyH_ready (rs := [10]) (by as_aux_lemma => kernel_rfl) (by simp) ?_
                  refine AllReadyH.cons rfl (fun K hK => ?_) AllReadyH.nil
                  have q0 := X.c0; have q1 := X.c1; have q2 := X.c2; have q3 := X.c3; have q4 := X.c4; have q5 := X.c5; have h0 := X.f 0; have h1 := X.f 1; have h2 := X.f 2; have h3 := X.f 3; have h4 := X.f 4; have h5 := X.f 5
                  go_simp
                  have F5 : Ext wc (set6 V4 gX (.bool bm9) (.slice Am9 lm9 cm9) (.int .i64 jm9) (.bool bm9') (.slice Am9' lm9' cm9') (.int .i64 jm9')) := F4.set6 lX
                  refine hK.out _ _ ⟨vr6 (Vx.ext F5), vr6 (Vy.ext F5), bh12 (Bh.ext F5)⟩ (fun hHeld => ?_)
                  clear hK K q0 q1 q2 q3 q4 q5 h0 h1 h2 h3 h4 h5
                  replace m3 := X.off m3 (.bool bm9) (.slice Am9 lm9 cm9) (.int .i64 jm9) (.bool bm9') (.slice Am9' lm9' cm9') (.int .i64 jm9')
                  replace m7 := X.off m7 (.bool bm9) (.slice Am9 lm9 cm9) (.int .i64 jm9) (.bool bm9') (.slice Am9' lm9' cm9') (.int .i64 jm9')
                  replace m9 := X.off m9 (.bool bm9) (.slice Am9 lm9 cm9) (.int .i64 jm9) (.bool bm9') (.slice Am9' lm9' cm9') (.int .i64 jm9')
                  have BX := X.put (.bool bm9) (.slice Am9 lm9 cm9) (.int .i64 jm9) (.bool bm9') (.slice Am9' lm9' cm9') (.int .i64 jm9')
                  clear X
                  obtain ⟨V5, hgen⟩ : ∃ V, (set6 V4 gX (.bool bm9) (.slice Am9 lm9 cm9) (.int .i64 jm9) (.bool bm9') (.slice Am9' lm9' cm9') (.int .i64 jm9')) = V := ⟨_, rfl⟩
                  rw [hgen] at F5 m3 m7 m9 BX
                  have hgen2 : ((((((V4.setCell ⟨gX, 0, none⟩ (.bool bm9)).setCell ⟨gX, 1, none⟩ (.slice Am9 lm9 cm9)).setCell ⟨gX, 2, none⟩ (.int .i64 jm9)).setCell ⟨gX, 3, none⟩ (.bool bm9')).setCell ⟨gX, 4, none⟩ (.slice Am9' lm9' cm9')).setCell ⟨gX, 5, none⟩ (.int .i64 jm9')) = V5 := hgen
                  rw [hgen2] at hHeld ⊢
                  clear hgen hgen2
                  refine wpAnyH_done (by as_aux_lemma => kernel_rfl) ?_ _
                  go_wp2_with fail
                  go_meet
                  case rel => exact ⟨_, _, _, _, _, _, _, _, _, _, _, rfl, BX, m9, F5, lX⟩
                · go_simp
                  have eX : Ext V2 (V2.alloc (.cells #[.bool false, .slice none 0 0, .int .i64 0, .bool false, .slice none 0 0, .int .i64 0] 33)) := (Ext.refl _).alloc _
                  have F3 : Ext wc (V2.alloc (.cells #[.bool false, .slice none 0 0, .int .i64 0, .bool false, .slice none 0 0, .int .i64 0] 33)) := F2.trans eX
                  refine hK.out _ _ ⟨vr6 (Vx.ext F3), vr6 (Vy.ext F3), bh12 (Bh.ext F3)⟩ (fun hHeld => ?_)
                  clear hK K
                  replace m3 := m3.ext eX
                  replace m7 := m7.ext eX
                  have X : Zi (V2.alloc (.cells #[.bool false, .slice none 0 0, .int .i64 0, .bool false, .slice none 0 0, .int .i64 0] 33)) V2.heap.size := Zi.new _ _
                  have lX : wc.heap.size ≤ V2.heap.size := F2.size
                  clear eX F2
                  generalize hgen : V2.alloc (.cells #[.bool false, .slice none 0 0, .int .i64 0, .bool false, .slice none 0 0, .int .i64 0] 33) = V3 at *
                  clear hgen
                  generalize hgen : V2.heap.size = gX at *
                  clear hgen
                  refine wpAnyH_ready (rs := [8]) (by as_aux_lemma => kernel_rfl) (by simp) ?_
                  refine AllReadyH.cons rfl (fun K hK => ?_) AllReadyH.nil
                  go_simp
                  refine (riadd_any _ _ _ _ _ _ _ (P + Pk) (1 + 1) m3 m7 gyc.1 gyc.2 gxs.1 gxs.2 (by omega)).mono ?_
                  rintro _ V4 ⟨vm9, rfl, m9, em9⟩
                  have F4 : Ext wc V4 := F3.trans em9
                  replace m3 := m3.ext em9
                  replace m7 := m7.ext em9
                  replace X := X.ext em9
                  obtain ⟨bm9, Am9, lm9, cm9, jm9, bm9', Am9', lm9', cm9', jm9', rfl⟩ := m9.form
                  refine hK.out _ _ ⟨vr6 (Vx.ext F4), vr6 (Vy.ext F4), bh12 (Bh.ext F4)⟩ (fun hHeld => ?_)
                  clear hK K em9 F3
                  refine wpAnyH_ready (rs := [10]) (by as_aux_lemma => kernel_rfl) (by simp) ?_
                  refine AllReadyH.cons rfl (fun K hK => ?_) AllReadyH.nil
                  have q0 := X.c0; have q1 := X.c1; have q2 := X.c2; have q3 := X.c3; have q4 := X.c4; have q5 := X.c5; have h0 := X.f 0; have h1 := X.f 1; have h2 := X.f 2; have h3 := X.f 3; have h4 := X.f 4; have h5 := X.f 5
                  go_simp
                  have F5 : Ext wc (set6 V4 gX (.bool bm9) (.slice Am9 lm9 cm9) (.int .i64 jm9) (.bool bm9') (.slice Am9' lm9' cm9') (.int .i64 jm9')) := F4.set6 lX
                  refine hK.out _ _ ⟨vr6 (Vx.ext F5), vr6 (Vy.ext F5), bh12 (Bh.ext F5)⟩ (fun hHeld => ?_)
                  clear hK K q0 q1 q2 q3 q4 q5 h0 h1 h2 h3 h4 h5
                  replace m3 := X.off m3 (.bool bm9) (.slice Am9 lm9 cm9) (.int .i64 jm9) (.bool bm9') (.slice Am9' lm9' cm9') (.int .i64 jm9')
                  replace m7 := X.off m7 (.bool bm9) (.slice Am9 lm9 cm9) (.int .i64 jm9) (.bool bm9') (.slice Am9' lm9' cm9') (.int .i64 jm9')
                  replace m9 := X.off m9 (.bool bm9) (.slice Am9 lm9 cm9) (.int .i64 jm9) (.bool bm9') (.slice Am9' lm9' cm9') (.int .i64 jm9')
                  have BX := X.put (.bool bm9) (.slice Am9 lm9 cm9) (.int .i64 jm9) (.bool bm9') (.slice Am9' lm9' cm9') (.int .i64 jm9')
                  clear X
                  obtain ⟨V5, hgen⟩ : ∃ V, (set6 V4 gX (.bool bm9) (.slice Am9 lm9 cm9) (.int .i64 jm9) (.bool bm9') (.slice Am9' lm9' cm9') (.int .i64 jm9')) = V := ⟨_, rfl⟩
                  rw [hgen] at F5 m3 m7 m9 BX
                  have hgen2 : ((((((V4.setCell ⟨gX, 0, none⟩ (.bool bm9)).setCell ⟨gX, 1, none⟩ (.slice Am9 lm9 cm9)).setCell ⟨gX, 2, none⟩ (.int .i64 jm9)).setCell ⟨gX, 3, none⟩ (.bool bm9')).setCell ⟨gX, 4, none⟩ (.slice Am9' lm9' cm9')).setCell ⟨gX, 5, none⟩ (.int .i64 jm9')) = V5 := hgen
                  rw [hgen2] at hHeld ⊢
                  clear hgen hgen2
                  refine wpAnyH_done (by as_aux_lemma => kernel_rfl) ?_ _
                  go_wp2_with fail
                  go_meet
                  case rel => exact ⟨_, _, _, _, _, _, _, _, _, _, _, rfl, BX, m9, F5, lX⟩
              · go_simp
                have eX : Ext V1 (V1.alloc (.cells #[.bool false, .slice none 0 0, .int .i64 0, .bool false, .slice none 0 0, .int .i64 0] 33)) := (Ext.refl _).alloc _
                have F2 : Ext wc (V1.alloc (.cells #[.bool false, .slice none 0 0, .int .i64 0, .bool false, .slice none 0 0, .int .i64 0] 33)) := F1.trans eX
                refine hK.out _ _ ⟨vr6 (Vx.ext F2), vr6 (Vy.ext F2), bh12 (Bh.ext F2)⟩ (fun hHeld => ?_)
                clear hK K
                replace m3 := m3.ext eX
                have X : Zi (V1.alloc (.cells #[.bool false, .slice none 0 0, .int .i64 0, .bool false, .slice none 0 0, .int .i64 0] 33)) V1.heap.size := Zi.new _ _
                have lX : wc.heap.size ≤ V1.heap.size := F1.size
                clear eX F1
                generalize hgen : V1.alloc (.cells #[.bool false, .slice none 0 0, .int .i64 0, .bool false, .slice none 0 0, .int .i64 0] 33) = V2 at *
                clear hgen
                generalize hgen : V1.heap.size = gX at *
                clear hgen
                refine wpAnyH_ready (rs := [7]) (by as_aux_lemma => kernel_rfl) (by simp) ?_
                refine AllReadyH.cons rfl (fun K hK => ?_) AllReadyH.nil
                go_simp
                refine (rimul_any _ _ _ rr.x1 rr.x2 hf.s1 hf.s2 P 1 Pk 1 (ix.ext F2) (is.ext F2) x1r x2r s1r s2r (by omega)).mono ?_
                rintro _ V3 ⟨vm7, rfl, m7, em7⟩
                have F3 : Ext wc V3 := F2.trans em7
                replace m3 := m3.ext em7
                replace X := X.ext em7
                refine hK.out _ _ ⟨vr6 (Vx.ext F3), vr6 (Vy.ext F3), bh12 (Bh.ext F3)⟩ (fun hHeld => ?_)
                clear hK K em7 F2
                refine wpAnyH_ready (rs := [8]) (by as_aux_lemma => kernel_rfl) (by simp) ?_
                refine AllReadyH.cons rfl (fun K hK => ?_) AllReadyH.nil
                go_simp
                refine (riadd_any _ _ _ _ _ _ _ (P + Pk) (1 + 1) m3 m7 gyc.1 gyc.2 gxs.1 gxs.2 (by omega)).mono ?_
                rintro _ V4 ⟨vm9, rfl, m9, em9⟩
                have F4 : Ext wc V4 := F3.trans em9
                replace m3 := m3.ext em9
                replace m7 := m7.ext em9
                replace X := X.ext em9
                obtain ⟨bm9, Am9, lm9, cm9, jm9, bm9', Am9', lm9', cm9', jm9', rfl⟩ := m9.form
                refine hK.out _ _ ⟨vr6 (Vx.ext F4), vr6 (Vy.ext F4), bh12 (Bh.ext F4)⟩ (fun hHeld => ?_)
                clear hK K em9 F3
                refine wpAnyH_ready (rs := [10]) (by as_aux_lemma => kernel_rfl) (by simp) ?_
                refine AllReadyH.cons rfl (fun K hK => ?_) AllReadyH.nil
                have q0 := X.c0; have q1 := X.c1; have q2 := X.c2; have q3 := X.c3; have q4 := X.c4; have q5 := X.c5; have h0 := X.f 0; have h1 := X.f 1; have h2 := X.f 2; have h3 := X.f 3; have h4 := X.f 4; have h5 := X.f 5
                go_simp
                have F5 : Ext wc (set6 V4 gX (.bool bm9) (.slice Am9 lm9 cm9) (.int .i64 jm9) (.bool bm9') (.slice Am9' lm9' cm9') (.int .i64 jm9')) := F4.set6 lX
                refine hK.out _ _ ⟨vr6 (Vx.ext F5), vr6 (Vy.ext F5), bh12 (Bh.ext F5)⟩ (fun hHeld => ?_)
                clear hK K q0 q1 q2 q3 q4 q5 h0 h1 h2 h3 h4 h5
                replace m3 := X.off m3 (.bool bm9) (.slice Am9 lm9 cm9) (.int .i64 jm9) (.bool bm9') (.slice Am9' lm9' cm9') (.int .i64 jm9')
                replace m7 := X.off m7 (.bool bm9) (.slice Am9 lm9 cm9) (.int .i64 jm9) (.bool bm9') (.slice Am9' lm9' cm9') (.int .i64 jm9')
                replace m9 := X.off m9 (.bool bm9) (.slice Am9 lm9 cm9) (.int .i64 jm9) (.bool bm9') (.slice Am9' lm9' cm9') (.int .i64 jm9')
                have BX := X.put (.bool bm9) (.slice Am9 lm9 cm9) (.int .i64 jm9) (.bool bm9') (.slice Am9' lm9' cm9') (.int .i64 jm9')
                clear X
                obtain ⟨V5, hgen⟩ : ∃ V, (set6 V4 gX (.bool bm9) (.slice Am9 lm9 cm9) (.int .i64 jm9) (.bool bm9') (.slice Am9' lm9' cm9') (.int .i64 jm9')) = V := ⟨_, rfl⟩
                rw [hgen] at F5 m3 m7 m9 BX
                have hgen2 : ((((((V4.setCell ⟨gX, 0, none⟩ (.bool bm9)).setCell ⟨gX, 1, none⟩ (.slice Am9 lm9 cm9)).setCell ⟨gX, 2, none⟩ (.int .i64 jm9)).setCell ⟨gX, 3, none⟩ (.bool bm9')).setCell ⟨gX, 4, none⟩ (.slice Am9' lm9' cm9')).setCell ⟨gX, 5, none⟩ (.int .i64 jm9')) = V5 := hgen
                rw [hgen2] at hHeld ⊢
                clear hgen hgen2
                refine wpAnyH_done (by as_aux_lemma => kernel_rfl) ?_ _
                go_wp2_with fail
                go_meet
                case rel => exact ⟨_, _, _, _, _, _, _, _, _, _, _, rfl, BX, m9, F5, lX⟩
            · go_simp
              have eX : Ext V0 (V0.alloc (.cells #[.bool false, .slice none 0 0, .int .i64 0, .bool false, .slice none 0 0, .int .i64 0] 33)) := (Ext.refl _).alloc _
              have F1 : Ext wc (V0.alloc (.cells #[.bool false, .slice none 0 0, .int .i64 0, .bool false, .slice none 0 0, .int .i64 0] 33)) := F0.trans eX
              refine hK.out _ _ ⟨vr6 (Vx.ext F1), vr6 (Vy.ext F1), bh12 (Bh.ext F1)⟩ (fun hHeld => ?_)
              clear hK K
              have X : Zi (V0.alloc (.cells #[.bool false, .slice none 0 0, .int .i64 0, .bool false, .slice none 0 0, .int .i64 0] 33)) V0.heap.size := Zi.new _ _
              have lX : wc.heap.size ≤ V0.heap.size := F0.size
              clear eX
              generalize hgen : V0.alloc (.cells #[.bool false, .slice none 0 0, .int .i64 0, .bool false, .slice none 0 0, .int .i64 0] 33) = V1 at *
              clear hgen
              generalize hgen : V0.heap.size = gX at *
              clear hgen
              refine wpAnyH_ready (rs := [3]) (by as_aux_lemma => kernel_rfl) (by simp) ?_
              refine AllReadyH.cons rfl (fun K hK => ?_) AllReadyH.nil
              go_simp
              refine (rimul_any _ _ _ rr.y1 rr.y2 hf.c1 hf.c2 P 1 Pk 1 (iy.ext F1) (ic.ext F1) y1r y2r c1r c2r (by omega)).mono ?_
              rintro _ V2 ⟨vm3, rfl, m3, em3⟩
              have F2 : Ext wc V2 := F1.trans em3
              replace X := X.ext em3
              refine hK.out _ _ ⟨vr6 (Vx.ext F2), vr6 (Vy.ext F2), bh12 (Bh.ext F2)⟩ (fun hHeld => ?_)
              clear hK K em3 F1
              refine wpAnyH_ready (rs := [7]) (by as_aux_lemma => kernel_rfl) (by simp) ?_
              refine AllReadyH.cons rfl (fun K hK => ?_) AllReadyH.nil
              go_simp
              refine (rimul_any _ _ _ rr.x1 rr.x2 hf.s1 hf.s2 P 1 Pk 1 (ix.ext F2) (is.ext F2) x1r x2r s1r s2r (by omega)).mono ?_
              rintro _ V3 ⟨vm7, rfl, m7, em7⟩
              have F3 : Ext wc V3 := F2.trans em7
              replace m3 := m3.ext em7
              replace X := X.ext em7
              refine hK.out _ _ ⟨vr6 (Vx.ext F3), vr6 (Vy.ext F3), bh12 (Bh.ext F3)⟩ (fun hHeld => ?_)
              clear hK K em7 F2
              refine wpAnyH_ready (rs := [8]) (by as_aux_lemma => kernel_rfl) (by simp) ?_
              refine AllReadyH.cons rfl (fun K hK => ?_) AllReadyH.nil
              go_simp
              refine (riadd_any _ _ _ _ _ _ _ (P + Pk) (1 + 1) m3 m7 gyc.1 gyc.2 gxs.1 gxs.2 (by omega)).mono ?_
              rintro _ V4 ⟨vm9, rfl, m9, em9⟩
              have F4 : Ext wc V4 := F3.trans em9
              replace m3 := m3.ext em9
              replace m7 := m7.ext em9
              replace X := X.ext em9
              obtain ⟨bm9, Am9, lm9, cm9, jm9, bm9', Am9', lm9', cm9', jm9', rfl⟩ := m9.form
              refine hK.out _ _ ⟨vr6 (Vx.ext F4), vr6 (Vy.ext F4), bh12 (Bh.ext F4)⟩ (fun hHeld => ?_)
              clear hK K em9 F3
              refine wpAnyH_ready (rs := [10]) (by as_aux_lemma => kernel_rfl) (by simp) ?_
              refine AllReadyH.cons rfl (fun K hK => ?_) AllReadyH.nil
              have q0 := X.c0; have q1 := X.c1; have q2 := X.c2; have q3 := X.c3; have q4 := X.c4; have q5 := X.c5; have h0 := X.f 0; have h1 := X.f 1; have h2 := X.f 2; have h3 := X.f 3; have h4 := X.f 4; have h5 := X.f 5
              go_simp
              have F5 : Ext wc (set6 V4 gX (.bool bm9) (.slice Am9 lm9 cm9) (.int .i64 jm9) (.bool bm9') (.slice Am9' lm9' cm9') (.int .i64 jm9')) := F4.set6 lX
              refine hK.out _ _ ⟨vr6 (Vx.ext F5), vr6 (Vy.ext F5), bh12 (Bh.ext F5)⟩ (fun hHeld => ?_)
              clear hK K q0 q1 q2 q3 q4 q5 h0 h1 h2 h3 h4 h5
              replace m3 := X.off m3 (.bool bm9) (.slice Am9 lm9 cm9) (.int .i64 jm9) (.bool bm9') (.slice Am9' lm9' cm9') (.int .i64 jm9')
              replace m7 := X.off m7 (.bool bm9) (.slice Am9 lm9 cm9) (.int .i64 jm9) (.bool bm9') (.slice Am9' lm9' cm9') (.int .i64 jm9')
              replace m9 := X.off m9 (.bool bm9) (.slice Am9 lm9 cm9) (.int .i64 jm9) (.bool bm9') (.slice Am9' lm9' cm9') (.int .i64 jm9')
              have BX := X.put (.bool bm9) (.slice Am9 lm9 cm9) (.int .i64 jm9) (.bool bm9') (.slice Am9' lm9' cm9') (.int .i64 jm9')
              clear X
              obtain ⟨V5, hgen⟩ : ∃ V, (set6 V4 gX (.bool bm9) (.slice Am9 lm9 cm9) (.int .i64 jm9) (.bool bm9') (.slice Am9' lm9' cm9') (.int .i64 jm9')) = V := ⟨_, rfl⟩
              rw [hgen] at F5 m3 m7 m9 BX
              have hgen2 : ((((((V4.setCell ⟨gX, 0, none⟩ (.bool bm9)).setCell ⟨gX, 1, none⟩ (.slice Am9 lm9 cm9)).setCell ⟨gX, 2, none⟩ (.int .i64 jm9)).setCell ⟨gX, 3, none⟩ (.bool bm9')).setCell ⟨gX, 4, none⟩ (.slice Am9' lm9' cm9')).setCell ⟨gX, 5, none⟩ (.int .i64 jm9')) = V5 := hgen
              rw [hgen2] at hHeld ⊢
              clear hgen hgen2
              refine wpAnyH_done (by as_aux_lemma => kernel_rfl) ?_ _
              go_wp2_with fail
              go_meet
              case rel => exact ⟨_, _, _, _, _, _, _, _, _, _, _, rfl, BX, m9, F5, lX⟩
          case rest =>
            obtain ⟨gd, bd, Ad, nd, cd, ed, bd', Ad', nd', cd', ed', rfl, Bd, id, eC, hgd⟩ := hcut
            clear x0_ f0_ x1_ f1_ x2_ f2_ x3_ f3_ x4_ f4_ x5_ f5_ h0_ h1_ h2_ h3_ h4_ h5_ h6_ h7_ h8_ h9_ h10_ h11_
            replace Bt := Bt.ext eC
            replace Z1 := Z1.ext eC
            replace Z2 := Z2.ext eC
            replace Vx := Vx.ext eC
            replace Vy := Vy.ext eC
            replace ix := ix.ext eC
            replace iy := iy.ext eC
            replace ic := ic.ext eC
            replace is := is.ext eC
            replace Bh := Bh.ext eC
            replace Ba := Ba.ext eC
            replace ia := ia.ext eC
            have EB := EA.trans eC
            clear eC EA ix iy ic is Bh
            have g1c := (gxc.1.add gys.2.neg).mono (Nat.le_refl _) (show 1 + 1 + 1 ≤ 3 by omega)
            have g2c := (gxc.2.add gys.1.neg).mono (Nat.le_refl _) (show 1 + 1 + 1 ≤ 3 by omega)
            have g3c := (gyc.1.add gxs.1).mono (Nat.le_refl _) (show 1 + 1 + 1 ≤ 3 by omega)
            have g4c := (gyc.2.add gxs.2).mono (Nat.le_refl _) (show 1 + 1 + 1 ≤ 3 by omega)
            clear gxc gys gyc gxs
            obtain ⟨a0_, a1_, a2_, a3_, a4_, a5_⟩ := bx6 Ba
            go_wp2_with fail
            refine (ricut_any _ _ (mlo rr.x1 rr.x2 hf.c1 hf.c2 + -mhi rr.y1 rr.y2 hf.s1 hf.s2) (mhi rr.x1 rr.x2 hf.c1 hf.c2 + -mlo rr.y1 rr.y2 hf.s1 hf.s2) (k : Int) k (P + Pk) 3 rfl ia g1c g2c (by omega) hk3 (by omega)).mono ?_
            rintro _ WD ⟨vx, rfl, jx, eD⟩
            clear a0_ a1_ a2_ a3_ a4_ a5_ ia Ba
            rw [← hrx1, ← hrx2] at jx
            obtain ⟨bu, Au, nu, cu, eu, bu', Au', nu', cu', eu', rfl, w1, w2⟩ := jx.two xr xr2
            replace Bt := Bt.ext eD
            replace Z1 := Z1.ext eD
            replace Z2 := Z2.ext eD
            replace Vx := Vx.ext eD
            replace Vy := Vy.ext eD
            replace Bd := Bd.ext eD
            replace id := id.ext eD
            have ED := EB.trans eD
            clear eD EB
            have q0 := Vx.c0; have f0 := Vx.f 0
            have q1 := Vx.c1; have f1 := Vx.f 1
            have q2 := Vx.c2; have f2 := Vx.f 2
            have q3 := Vx.c3; have f3 := Vx.f 3
            have q4 := Vx.c4; have f4 := Vx.f 4
            have q5 := Vx.c5; have f5 := Vx.f 5
            go_upto_region 11 with fail
            clear q0 f0 q1 f1 q2 f2 q3 f3 q4 f4 q5 f5
            have hd1 : gd ≠ gx := by omega
            have hd2 : gy ≠ gx := by omega
            have hd3 : w.heap.size ≠ gx := by omega
            have hd4 : w.heap.size + 1 ≠ gx := by omega
            have hd5 : w.heap.size + 1 + 1 ≠ gx := by omega
            have VxN : Vr (set6 WD gx (.bool bu) (.slice Au nu cu) (.int .i64 eu) (.bool bu') (.slice Au' nu' cu') (.int .i64 eu')) gx (.bool bu) (.slice Au nu cu) (.int .i64 eu) (.bool bu') (.slice Au' nu' cu') (.int .i64 eu') := Vx.set _ _ _ _ _ _ _ _ _ _ w1 w2
            have jxN := Vx.off jx (.bool bu) (.slice Au nu cu) (.int .i64 eu) (.bool bu') (.slice Au' nu' cu') (.int .i64 eu')
            have idN := Vx.off id (.bool bu) (.slice Au nu cu) (.int .i64 eu) (.bool bu') (.slice Au' nu' cu') (.int .i64 eu')
            have VyN := Vy.other (a := (.bool bu)) (b := (.slice Au nu cu)) (c := (.int .i64 eu)) (a' := (.bool bu')) (b' := (.slice Au' nu' cu')) (c' := (.int .i64 eu')) hd2
            have BdN := Bd.other (a := (.bool bu)) (b := (.slice Au nu cu)) (c := (.int .i64 eu)) (a' := (.bool bu')) (b' := (.slice Au' nu' cu')) (c' := (.int .i64 eu')) hd1
            have BtN := Bt.other (a := (.bool bu)) (b := (.slice Au nu cu)) (c := (.int .i64 eu)) (a' := (.bool bu')) (b' := (.slice Au' nu' cu')) (c' := (.int .i64 eu')) hd3
            have Z1N := Z1.other (a := (.bool bu)) (b := (.slice Au nu cu)) (c := (.int .i64 eu)) (a' := (.bool bu')) (b' := (.slice Au' nu' cu')) (c' := (.int .i64 eu')) hd4
            have Z2N := Z2.other (a := (.bool bu)) (b := (.slice Au nu cu)) (c := (.int .i64 eu)) (a' := (.bool bu')) (b' := (.slice Au' nu' cu')) (c' := (.int .i64 eu')) hd5
            have EN : Ext w (set6 WD gx (.bool bu) (.slice Au nu cu) (.int .i64 eu) (.bool bu') (.slice Au' nu' cu') (.int .i64 eu')) := ED.set6 (by omega)
            clear Vx jx id Vy Bd Bt Z1 Z2 ED
            obtain ⟨WE, hgen⟩ : ∃ V, (set6 WD gx (.bool bu) (.slice Au nu cu) (.int .i64 eu) (.bool bu') (.slice Au' nu' cu') (.int .i64 eu')) = V := ⟨_, rfl⟩
            rw [hgen] at VxN jxN idN VyN BdN BtN Z1N Z2N EN
            have hgen2 : ((((((WD.setCell ⟨gx, 0, none⟩ (.bool bu)).setCell ⟨gx, 1, none⟩ (.slice Au nu cu)).setCell ⟨gx, 2, none⟩ (.int .i64 eu)).setCell ⟨gx, 3, none⟩ (.bool bu')).setCell ⟨gx, 4, none⟩ (.slice Au' nu' cu')).setCell ⟨gx, 5, none⟩ (.int .i64 eu')) = WE := hgen
            rw [hgen2]
            clear hgen hgen2
            obtain ⟨a0_, a1_, a2_, a3_, a4_, a5_⟩ := bx6 BdN
            go_wp2_with fail
            refine (ricut_any _ _ (mlo rr.y1 rr.y2 hf.c1 hf.c2 + mlo rr.x1 rr.x2 hf.s1 hf.s2) (mhi rr.y1 rr.y2 hf.c1 hf.c2 + mhi rr.x1 rr.x2 hf.s1 hf.s2) (k : Int) k (P + Pk) 3 rfl idN g3c g4c (by omega) hk3 (by omega)).mono ?_
            rintro _ WF ⟨vy, rfl, jy, eF⟩
            clear a0_ a1_ a2_ a3_ a4_ a5_ idN BdN
            rw [← hry1, ← hry2] at jy
            obtain ⟨bt, At, nt, ct, et, bt', At', nt', ct', et', rfl, w3, w4⟩ := jy.two yr yr2
            replace BtN := BtN.ext eF
            replace Z1N := Z1N.ext eF
            replace Z2N := Z2N.ext eF
            replace VxN := VxN.ext eF
            replace VyN := VyN.ext eF
            replace jxN := jxN.ext eF
            have EF := EN.trans eF
            clear eF EN
            have q0 := VyN.c0; have f0 := VyN.f 0
            have q1 := VyN.c1; have f1 := VyN.f 1
            have q2 := VyN.c2; have f2 := VyN.f 2
            have q3 := VyN.c3; have f3 := VyN.f 3
            have q4 := VyN.c4; have f4 := VyN.f 4
            have q5 := VyN.c5; have f5 := VyN.f 5
            have he1 : gx ≠ gy := by omega
            have he3 : w.heap.size ≠ gy := by omega
            have he4 : w.heap.size + 1 ≠ gy := by omega
            have he5 : w.heap.size + 1 + 1 ≠ gy := by omega
            have HN := HX.out (set6 WF gy (.bool bt) (.slice At nt ct) (.int .i64 et) (.bool bt') (.slice At' nt' ct') (.int .i64 et')) ⟨BtN.other he3, Z1N.other he4, Z2N.other he5, ⟨_, _, _, _, _, _, _, _, _, _, VxN.other he1, w1, w2, VyN.off jxN _ _ _ _ _ _⟩, ⟨_, _, _, _, _, _, _, _, _, _, VyN.set _ _ _ _ _ _ _ _ _ _ w3 w4, w3, w4, VyN.off jy _ _ _ _ _ _⟩, EF.set6 (by omega), n1, n2⟩
            clear BtN Z1N Z2N VxN VyN jxN jy EF HX
            go_wp2
            go_roundw
            case rel => exact ⟨j + 1, kk + 1, by have := HQ.out; omega, .inr HQ.out.2, by go_num, HN⟩
            case measure => simp [intOf]; omega
      · have hb2 : (K / 2 ^ sh % 2 == 1) = false := beq_eq_false_iff_ne.2 hbit
        have HN : Rx w K Q gx gy wr (rxy k K Q (j + 1)) := by rw [rxy_no (by rw [e3]; exact hbit)]; exact H
        clear H Z1 Z2 Vx Vy ix iy Ee
        go_wp2
        go_roundw
        case rel => exact ⟨j + 1, kk + 1, by have := HQ.out; omega, .inr HQ.out.2, by go_num, HN⟩
        case measure => simp [intOf]; omega
    · have hle1 : ¬ (kk : Int) ≤ (Q : Int) := by omega
      have hjq : rxy k K Q j = rxy k K Q (Q - 2) := by congr 1; omega
      rw [hjq] at H
      clear Bt Z1 Z2 Vx Vy ix iy Ee y1 y2 z1 z2 lx ly lz
      have Bt := H.bt
      have Z1 := H.z1
      have Z2 := H.z2
      have Ee := H.ext
      obtain ⟨bx, Ax, nx, cx, ex, bx', Ax', nx', cx', ex', Vx, y1, y2, ix⟩ := H.x.out
      obtain ⟨bf, Af, nf, cf, ef, bf', Af', nf', cf', ef', Vy, z1, z2, iy⟩ := H.y.out
      clear H hjq hj0
      generalize rxy k K Q (Q - 2) = rr at *
      obtain ⟨t0, t1⟩ := _root_.id Bt
      go_upto_region 12 with fail
      clear t0 t1
      have m1 : gx ≠ w.heap.size + 1 := by omega
      have m2 : gx ≠ w.heap.size + 1 + 1 := by omega
      have m3 : gy ≠ w.heap.size + 1 := by omega
      have m4 : gy ≠ w.heap.size + 1 + 1 := by omega
      have m5 : w.heap.size + 1 + 1 ≠ w.heap.size + 1 := by omega
      have m6 : w.heap.size + 1 ≠ w.heap.size + 1 + 1 := by omega
      have F0 : Ext wr (World.drew wr) := (Ext.refl _).drew
      refine wp_region_held_drew (S := (fun w' => (w'.cell? ⟨gx, 0, none⟩ = some (.bool bx) ∧ w'.cell? ⟨gx, 1, none⟩ = some (.slice Ax nx cx) ∧ w'.cell? ⟨gx, 2, none⟩ = some (.int .i64 ex) ∧ w'.cell? ⟨gx, 3, none⟩ = some (.bool bx') ∧ w'.cell? ⟨gx, 4, none⟩ = some (.slice Ax' nx' cx') ∧ w'.cell? ⟨gx, 5, none⟩ = some (.int .i64 ex')) ∧ (w'.cell? ⟨gy, 0, none⟩ = some (.bool bf) ∧ w'.cell? ⟨gy, 1, none⟩ = some (.slice Af nf cf) ∧ w'.cell? ⟨gy, 2, none⟩ = some (.int .i64 ef) ∧ w'.cell? ⟨gy, 3, none⟩ = some (.bool bf') ∧ w'.cell? ⟨gy, 4, none⟩ = some (.slice Af' nf' cf') ∧ w'.cell? ⟨gy, 5, none⟩ = some (.int .i64 ef')))) (by as_aux_lemma => kernel_rfl) ⟨vr6 (Vx.ext F0), vr6 (Vy.ext F0)⟩ (fun hHeld => ?_)
      replace Vx := Vx.ext F0
      replace Vy := Vy.ext F0
      replace Z1 := Z1.ext F0
      replace Z2 := Z2.ext F0
      replace ix := ix.ext F0
      replace iy := iy.ext F0
      have E0 := Ee.trans F0
      clear F0
      generalize hgen : World.drew wr = V0 at *
      clear hgen
      refine wpAnyH_take (i := 0) (v := ?_) rfl (by as_aux_lemma => kernel_rfl) (by as_aux_lemma => kernel_rfl) (by as_aux_lemma => kernel_rfl) (fun _ _ _ h => h) (Or.inl ⟨by rfl, ?_⟩) (by assumption) ?_
      rotate_left
      · (intro w hSw; (try dsimp only at hSw); go_simp); (try with_reducible rfl)
      simp only [List.getElem_toArray, List.getElem_cons_zero, Act.put, List.setIfInBounds_toArray, List.set_cons_zero, List.set_cons_succ]
      refine wpAnyH_take (i := 1) (v := ?_) rfl (by as_aux_lemma => kernel_rfl) (by as_aux_lemma => kernel_rfl) (by as_aux_lemma => kernel_rfl) (fun _ _ _ h => h) (Or.inl ⟨by rfl, ?_⟩) (by assumption) ?_
      rotate_left
      · (intro w hSw; (try dsimp only at hSw); go_simp); (try with_reducible rfl)
      simp only [List.getElem_toArray, List.getElem_cons_zero, List.getElem_cons_succ, Act.put, List.setIfInBounds_toArray, List.set_cons_zero, List.set_cons_succ]
      refine wpAnyH_ready (rs := [2]) (by as_aux_lemma => kernel_rfl) (by simp) ?_
      refine AllReadyH.cons rfl (fun K hK => ?_) AllReadyH.nil
      have q0 := Z1.c0; have h0 := Z1.f 0
      have q1 := Z1.c1; have h1 := Z1.f 1
      have q2 := Z1.c2; have h2 := Z1.f 2
      have q3 := Z1.c3; have h3 := Z1.f 3
      have q4 := Z1.c4; have h4 := Z1.f 4
      have q5 := Z1.c5; have h5 := Z1.f 5
      go_simp
      have gvx := Vx.other (a := (.bool bx)) (b := (.slice Ax nx cx)) (c := (.int .i64 ex)) (a' := (.bool bx')) (b' := (.slice Ax' nx' cx')) (c' := (.int .i64 ex')) m1
      have gvy := Vy.other (a := (.bool bx)) (b := (.slice Ax nx cx)) (c := (.int .i64 ex)) (a' := (.bool bx')) (b' := (.slice Ax' nx' cx')) (c' := (.int .i64 ex')) m3
      refine hK.out _ _ ⟨vr6 gvx, vr6 gvy⟩ (fun hHeld => ?_)
      clear hK K q0 h0 q1 h1 q2 h2 q3 h3 q4 h4 q5 h5
      replace ix := Z1.off ix (.bool bx) (.slice Ax nx cx) (.int .i64 ex) (.bool bx') (.slice Ax' nx' cx') (.int .i64 ex')
      replace iy := Z1.off iy (.bool bx) (.slice Ax nx cx) (.int .i64 ex) (.bool bx') (.slice Ax' nx' cx') (.int .i64 ex')
      have E1 : Ext w (set6 V0 (w.heap.size + 1) (.bool bx) (.slice Ax nx cx) (.int .i64 ex) (.bool bx') (.slice Ax' nx' cx') (.int .i64 ex')) := E0.set6 (by omega)
      have RR2 := Z1.put (.bool bx) (.slice Ax nx cx) (.int .i64 ex) (.bool bx') (.slice Ax' nx' cx') (.int .i64 ex')
      replace Z2 := Z2.other (a := (.bool bx)) (b := (.slice Ax nx cx)) (c := (.int .i64 ex)) (a' := (.bool bx')) (b' := (.slice Ax' nx' cx')) (c' := (.int .i64 ex')) m5
      replace Vx := gvx
      replace Vy := gvy
      clear Z1 E0
      obtain ⟨V1, hgen⟩ : ∃ V, (set6 V0 (w.heap.size + 1) (.bool bx) (.slice Ax nx cx) (.int .i64 ex) (.bool bx') (.slice Ax' nx' cx') (.int .i64 ex')) = V := ⟨_, rfl⟩
      rw [hgen] at E1 RR2 ix iy Vx Vy Z2
      have hgen2 : ((((((V0.setCell ⟨w.heap.size + 1, 0, none⟩ (.bool bx)).setCell ⟨w.heap.size + 1, 1, none⟩ (.slice Ax nx cx)).setCell ⟨w.heap.size + 1, 2, none⟩ (.int .i64 ex)).setCell ⟨w.heap.size + 1, 3, none⟩ (.bool bx')).setCell ⟨w.heap.size + 1, 4, none⟩ (.slice Ax' nx' cx')).setCell ⟨w.heap.size + 1, 5, none⟩ (.int .i64 ex')) = V1 := hgen
      rw [hgen2] at hHeld ⊢
      clear hgen hgen2
      refine wpAnyH_ready (rs := [3]) (by as_aux_lemma => kernel_rfl) (by simp) ?_
      refine AllReadyH.cons rfl (fun K hK => ?_) AllReadyH.nil
      have q0 := Z2.c0; have h0 := Z2.f 0
      have q1 := Z2.c1; have h1 := Z2.f 1
      have q2 := Z2.c2; have h2 := Z2.f 2
      have q3 := Z2.c3; have h3 := Z2.f 3
      have q4 := Z2.c4; have h4 := Z2.f 4
      have q5 := Z2.c5; have h5 := Z2.f 5
      go_simp
      have gvx := Vx.other (a := (.bool bf)) (b := (.slice Af nf cf)) (c := (.int .i64 ef)) (a' := (.bool bf')) (b' := (.slice Af' nf' cf')) (c' := (.int .i64 ef')) m2
      have gvy := Vy.other (a := (.bool bf)) (b := (.slice Af nf cf)) (c := (.int .i64 ef)) (a' := (.bool bf')) (b' := (.slice Af' nf' cf')) (c' := (.int .i64 ef')) m4
      refine hK.out _ _ ⟨vr6 gvx, vr6 gvy⟩ (fun hHeld => ?_)
      clear hK K q0 h0 q1 h1 q2 h2 q3 h3 q4 h4 q5 h5
      replace ix := Z2.off ix (.bool bf) (.slice Af nf cf) (.int .i64 ef) (.bool bf') (.slice Af' nf' cf') (.int .i64 ef')
      replace iy := Z2.off iy (.bool bf) (.slice Af nf cf) (.int .i64 ef) (.bool bf') (.slice Af' nf' cf') (.int .i64 ef')
      have E2 : Ext w (set6 V1 (w.heap.size + 1 + 1) (.bool bf) (.slice Af nf cf) (.int .i64 ef) (.bool bf') (.slice Af' nf' cf') (.int .i64 ef')) := E1.set6 (by omega)
      have RR3 := Z2.put (.bool bf) (.slice Af nf cf) (.int .i64 ef) (.bool bf') (.slice Af' nf' cf') (.int .i64 ef')
      replace RR2 := RR2.other (a := (.bool bf)) (b := (.slice Af nf cf)) (c := (.int .i64 ef)) (a' := (.bool bf')) (b' := (.slice Af' nf' cf')) (c' := (.int .i64 ef')) m6
      replace Vx := gvx
      replace Vy := gvy
      clear Z2 E1
      obtain ⟨V2, hgen⟩ : ∃ V, (set6 V1 (w.heap.size + 1 + 1) (.bool bf) (.slice Af nf cf) (.int .i64 ef) (.bool bf') (.slice Af' nf' cf') (.int .i64 ef')) = V := ⟨_, rfl⟩
      rw [hgen] at E2 RR3 ix iy Vx Vy RR2
      have hgen2 : ((((((V1.setCell ⟨w.heap.size + 1 + 1, 0, none⟩ (.bool bf)).setCell ⟨w.heap.size + 1 + 1, 1, none⟩ (.slice Af nf cf)).setCell ⟨w.heap.size + 1 + 1, 2, none⟩ (.int .i64 ef)).setCell ⟨w.heap.size + 1 + 1, 3, none⟩ (.bool bf')).setCell ⟨w.heap.size + 1 + 1, 4, none⟩ (.slice Af' nf' cf')).setCell ⟨w.heap.size + 1 + 1, 5, none⟩ (.int .i64 ef')) = V2 := hgen
      rw [hgen2] at hHeld ⊢
      clear hgen hgen2
      refine wpAnyH_done (by as_aux_lemma => kernel_rfl) ?_ _
      have k0 := RR2.c0; have k1 := RR2.c1; have k2 := RR2.c2; have k3 := RR2.c3; have k4 := RR2.c4; have k5 := RR2.c5
      have p0 := RR3.c0; have p1 := RR3.c1; have p2 := RR3.c2; have p3 := RR3.c3; have p4 := RR3.c4; have p5 := RR3.c5
      go_wp2
      exact bodyPost_ret (by simp [results, Tryz.results110, go_sem, k0, k1, k2, k3, k4, k5, p0, p1, p2, p3, p4, p5]) rfl ⟨_, _, rfl, ix, iy, E2⟩
end Go.Proofs.YtomdbmjfehoodaaGreatDoor
