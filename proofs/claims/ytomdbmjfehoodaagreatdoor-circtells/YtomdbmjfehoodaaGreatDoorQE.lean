/- Walks of the document's answers on cosines: By, Pair, Cos, Sin. -/
import Derived.Test.YtomdbmjfehoodaaGreatDoorQD
set_option maxRecDepth 8000
namespace Go.Proofs.YtomdbmjfehoodaaGreatDoor
open Go.RowKit
set_option linter.unusedVariables false
set_option linter.unusedSimpArgs false
theorem rsplit7_any (w : World) (K k e : Int) (Q q : Nat) (hK : -9223372036854775808 ≤ K ∧ K ≤ 9223372036854775807) (hQ : Q ≤ 40) (he : eighth (tv K Q) = e) (h : Fm (rest (tv K Q)) k q) :
    Calls Tryz.prog 109 #[.agg #[.int .i64 K, .int .i64 Q]] w (RetE w (.agg #[.int .i64 e, .int .i64 k, .int .i64 q])) := by
  subst he
  obtain ⟨kf, qf, hf⟩ := fm_there (tv_range K Q).1 (tv_range K Q).2
  by_cases hp : eighth (tv K Q) % 2 = 0
  · exact rsplit_even w K kf k Q qf q hK hQ hf hp h
  · exact rsplit_odd w K kf k Q qf q hK hQ hf hp h
theorem rplace_lit7 (w : World) (e : Int) (a b c : Bool) (ha : plSwap e = a) (hb : plCos e = b) (hc : plSin e = c) : Calls Tryz.prog 111 #[.int .i64 e] w (RetE w (.tuple #[.bool a, .bool b, .bool c])) := by
  subst ha hb hc; exact rplace_any w e
theorem rest_q {v kf kr : Int} {qf qr : Nat} (hf : Fm v kf qf) (hq : qf ≤ 14) (hr : Fm (rest v) kr qr) : qr - 2 ≤ qf - 2 ∧ qr ≤ 14 ∧ 2 * qr ≤ 2 * qf ∧ 0 ≤ kr ∧ kr < 2 ^ (qr - 2) := by
  rcases Nat.lt_or_ge 2 qf with g | g
  · obtain ⟨a, b, c, d⟩ := rest_form hf g hq hr
    exact ⟨by omega, by omega, by omega, c, d⟩
  · have h0 := rest_quarter hf g
    rw [h0] at hr
    obtain ⟨rfl, rfl⟩ := hr.uniq fm_zero
    exact ⟨by omega, by omega, by omega, by omega, by decide⟩
theorem rxy_rg {k Q : Nat} {K : Int} (hk : k ≤ 200) (h0 : 0 ≤ K) (h1 : K < 2 ^ (Q - 2)) (hQ : Q ≤ 14) (hkQ : 2 * Q + 5 ≤ k) : ∃ P, Rg P 1 (rxy k K Q (Q - 2)).x1 ∧ Rg P 1 (rxy k K Q (Q - 2)).x2 ∧ Rg P 1 (rxy k K Q (Q - 2)).y1 ∧ Rg P 1 (rxy k K Q (Q - 2)).y2 := by
  rcases Nat.lt_or_ge Q 2 with g | g
  · rw [show Q - 2 = 0 by omega]
    exact ⟨0, rg_one 0, rg_one 0, rg_zero1 0 1, rg_zero1 0 1⟩
  · have := rxy_ok hk h0 h1 hQ hkQ (Q - 2) (by omega)
    exact ⟨_, this.r1, this.r2, this.r3, this.r4⟩
/-- What holds between By's statements. -/
structure Sx (w : World) (gc gs : Nat) (W : World) (r : Xy) : Prop where
  z1 : Zi W (w.heap.size + 1)
  z2 : Zi W (w.heap.size + 1 + 1)
  x : Vu W gc r.x1 r.x2
  y : Vu W gs r.y1 r.y2
  ext : Ext w W
  n1 : w.heap.size + 1 + 1 < gc
  n2 : gc < gs
  rg : ∃ P, Rg P 1 r.x1 ∧ Rg P 1 r.x2 ∧ Rg P 1 r.y1 ∧ Rg P 1 r.y2
set_option maxRecDepth 20000 in
set_option maxHeartbeats 4000000 in
theorem rby_any (w : World) (K kf kr : Int) (Q qf qr k n base : Nat) (l : Value) (L : Lh w base l n (hs k)) (hK : -9223372036854775808 ≤ K ∧ K ≤ 9223372036854775807) (hQ : Q ≤ 14) (hf : Fm (tv K Q) kf qf) (hq : qf ≤ 14) (hr : Fm (rest (tv K Q)) kr qr) (hn : qf - 2 ≤ n) (hkQ : 2 * qf + 5 ≤ k) (hk2 : k ≤ 140) :
    Calls Tryz.prog 83 #[.agg #[.int .i64 K, .int .i64 (Q : Int)], .int .i64 (k : Int), l] w (RetII w (docxy k (tv K Q) kr qr).x1 (docxy k (tv K Q) kr qr).x2 (docxy k (tv K Q) kr qr).y1 (docxy k (tv K Q) kr qr).y2) := by
  obtain ⟨q1, q2, q3, q4, q5⟩ := rest_q hf hq hr
  obtain ⟨e, he⟩ : ∃ e, eighth (tv K Q) = e := ⟨_, rfl⟩
  have HS := Lib.hid (fun w' => rsplit7_any w' K kr e Q qr hK (by omega) he hr)
  have HR := Lib.hid (fun w' (hE : Ext w w') => rrest_any w' kr qr k n base (k : Int) l (L.ext hE) rfl (by omega) q4 q5 q2 (by omega) hk2)
  obtain ⟨P, p1, p2, p3, p4⟩ := rxy_rg (k := k) (by omega) q4 q5 q2 (by omega)
  unfold docxy
  rw [he]
  obtain ⟨sw, hsw⟩ : ∃ b, plSwap e = b := ⟨_, rfl⟩
  obtain ⟨cn, hcn⟩ : ∃ b, plCos e = b := ⟨_, rfl⟩
  obtain ⟨sn, hsn⟩ : ∃ b, plSin e = b := ⟨_, rfl⟩
  have HP := Lib.hid (fun w' => rplace_lit7 w' e sw cn sn hsw hcn hsn)
  rw [hsw, hcn, hsn]
  clear hK hf hr hn he hsw hcn hsn q1 q2 q3 q4 q5 L
  generalize rxy k kr qr (qr - 2) = r at *
  obtain ⟨r1, hr1⟩ : ∃ r1 : Xy, (if sw then (⟨r.y1, r.y2, r.x1, r.x2⟩ : Xy) else r) = r1 := ⟨_, rfl⟩
  obtain ⟨r2, hr2⟩ : ∃ r2 : Xy, (⟨if cn then -r1.x2 else r1.x1, if cn then -r1.x1 else r1.x2, r1.y1, r1.y2⟩ : Xy) = r2 := ⟨_, rfl⟩
  obtain ⟨r3, hr3⟩ : ∃ r3 : Xy, (⟨r2.x1, r2.x2, if sn then -r2.y2 else r2.y1, if sn then -r2.y1 else r2.y2⟩ : Xy) = r3 := ⟨_, rfl⟩
  have hb : byp sw cn sn r = r3 := by rw [← hr3, ← hr2, ← hr1]; rfl
  rw [hb]
  clear hb
  replace hr1 := Lib.hid hr1
  replace hr2 := Lib.hid hr2
  replace hr3 := Lib.hid hr3
  go_enter Tryz.func83, Tryz.ntmps83
  go_wp2_with fail
  refine (HS.out _).mono ?_
  rintro _ w1 ⟨rfl, f1⟩
  have Bt : B2 w1 (w.heap.size) (.int .i64 K) (.int .i64 (Q : Int)) := B2.at ((((Ext.refl _).alloc _).alloc _).trans f1) (by simp)
  have Z1 : Zi w1 (w.heap.size + 1) := Zi.at (((Ext.refl _).alloc _).trans f1) (by simp)
  have Z2 : Zi w1 (w.heap.size + 1 + 1) := Zi.at ((Ext.refl _).trans f1) (by simp)
  have e1 : Ext w w1 := ((((Ext.refl w).alloc _).alloc _).alloc _).trans f1
  have E1 : Ext w w1 := e1
  clear f1
  have hz2 := World.block_lt_of_cell? _ _ Z2.c0
  go_upto_region 2 with fail
  have Bp : Box (w1.alloc (.cells #[.int .i64 e, .int .i64 kr, .int .i64 (qr : Int)] 81)) w1.heap.size (.int .i64 e) (.int .i64 kr) (.int .i64 (qr : Int)) := Box.at (Ext.refl _) rfl
  have e2 : Ext w1 (w1.alloc (.cells #[.int .i64 e, .int .i64 kr, .int .i64 (qr : Int)] 81)) := (Ext.refl _).alloc _
  replace Z1 := Z1.ext e2
  replace Z2 := Z2.ext e2
  have E2 := E1.trans e2
  clear E1 e2 Bt
  generalize hgen : (w1.alloc (.cells #[.int .i64 e, .int .i64 kr, .int .i64 (qr : Int)] 81)) = W2 at *
  clear hgen
  obtain ⟨t0, t1, t2⟩ := _root_.id Bp
  have tl := World.block_lt_of_cell? _ _ t0
  go_wp2_with fail
  refine (HR.out _ E2).mono ?_
  rintro _ W3 ⟨v1, v2, rfl, ix, iy, e3⟩
  clear t0 t1 t2 HR
  replace Z1 := Z1.ext e3
  replace Z2 := Z2.ext e3
  replace Bp := Bp.ext e3
  have hz3 : w.heap.size + 1 + 1 < W3.heap.size := World.block_lt_of_cell? _ _ Z2.c0
  have E3 := E2.trans e3
  clear E2 e3
  obtain ⟨bx, Ax, nx, cx, ex, bx', Ax', nx', cx', ex', rfl, y1, y2⟩ := ix.two p1 p2
  obtain ⟨bf, Af, nf, cf, ef, bf', Af', nf', cf', ef', rfl, z1, z2⟩ := iy.two p3 p4
  go_upto_region 3 with fail
  have Vx : Vr ((W3.alloc (.cells #[.bool bx, .slice Ax nx cx, .int .i64 ex, .bool bx', .slice Ax' nx' cx', .int .i64 ex'] 33)).alloc (.cells #[.bool bf, .slice Af nf cf, .int .i64 ef, .bool bf', .slice Af' nf' cf', .int .i64 ef'] 33)) W3.heap.size (.bool bx) (.slice Ax nx cx) (.int .i64 ex) (.bool bx') (.slice Ax' nx' cx') (.int .i64 ex') := (Vr.new W3 _ _ _ _ _ _ _ _ _ _ y1 y2 _).ext ((Ext.refl _).alloc _)
  have Vy : Vr ((W3.alloc (.cells #[.bool bx, .slice Ax nx cx, .int .i64 ex, .bool bx', .slice Ax' nx' cx', .int .i64 ex'] 33)).alloc (.cells #[.bool bf, .slice Af nf cf, .int .i64 ef, .bool bf', .slice Af' nf' cf', .int .i64 ef'] 33)) (W3.heap.size + 1) (.bool bf) (.slice Af nf cf) (.int .i64 ef) (.bool bf') (.slice Af' nf' cf') (.int .i64 ef') := Vr.at z1 z2 (Ext.refl _) (by simp)
  have e4 : Ext W3 ((W3.alloc (.cells #[.bool bx, .slice Ax nx cx, .int .i64 ex, .bool bx', .slice Ax' nx' cx', .int .i64 ex'] 33)).alloc (.cells #[.bool bf, .slice Af nf cf, .int .i64 ef, .bool bf', .slice Af' nf' cf', .int .i64 ef'] 33)) := ((Ext.refl _).alloc _).alloc _
  replace Z1 := Z1.ext e4
  replace Z2 := Z2.ext e4
  replace Bp := Bp.ext e4
  replace ix := ix.ext e4
  replace iy := iy.ext e4
  have E4 := E3.trans e4
  have S0 : Sx w W3.heap.size (W3.heap.size + 1) ((W3.alloc (.cells #[.bool bx, .slice Ax nx cx, .int .i64 ex, .bool bx', .slice Ax' nx' cx', .int .i64 ex'] 33)).alloc (.cells #[.bool bf, .slice Af nf cf, .int .i64 ef, .bool bf', .slice Af' nf' cf', .int .i64 ef'] 33)) r := ⟨Z1, Z2, ⟨_, _, _, _, _, _, _, _, _, _, Vx, y1, y2, ix⟩, ⟨_, _, _, _, _, _, _, _, _, _, Vy, z1, z2, iy⟩, E4, hz3, by omega, P, p1, p2, p3, p4⟩
  clear Z1 Z2 Vx Vy ix iy y1 y2 z1 z2 E3 E4 e4 p1 p2 p3 p4
  generalize hgen : ((W3.alloc (.cells #[.bool bx, .slice Ax nx cx, .int .i64 ex, .bool bx', .slice Ax' nx' cx', .int .i64 ex'] 33)).alloc (.cells #[.bool bf, .slice Af nf cf, .int .i64 ef, .bool bf', .slice Af' nf' cf', .int .i64 ef'] 33)) = W4 at *
  clear hgen
  generalize hg2 : W3.heap.size + 1 = gs at *
  generalize hg1 : W3.heap.size = gc at *
  clear hg1 hg2
  obtain ⟨t0, t1, t2⟩ := _root_.id Bp
  have tl := World.block_lt_of_cell? _ _ t0
  go_wp2_with fail
  refine (HP.out _).mono ?_
  rintro _ W5 ⟨rfl, e5⟩
  have S1 : Sx w gc gs W5 r := ⟨S0.z1.ext e5, S0.z2.ext e5, S0.x.ext e5, S0.y.ext e5, S0.ext.trans e5, S0.n1, S0.n2, S0.rg⟩
  clear t0 t1 t2 tl Bp S0 e5
  go_upto_if 31 with fail
  go_cut [] from 14 (fun wx => Sx w gc gs wx r1)
  case first =>
    cases sw with
    | false =>
      go_wp2_with fail
      go_meet
      case rel => exact (show r = r1 from hr1.out) ▸ S1
    | true =>
    have Z1 := S1.z1
    have Z2 := S1.z2
    have Ee := S1.ext
    have n1 := S1.n1
    have n2 := S1.n2
    obtain ⟨bx, Ax, nx, cx, ex, bx', Ax', nx', cx', ex', Vx, y1, y2, ix⟩ := S1.x.out
    obtain ⟨bf, Af, nf, cf, ef, bf', Af', nf', cf', ef', Vy, z1, z2, iy⟩ := S1.y.out
    have a0 := Vx.c0; have af0 := Vx.f 0
    have a1 := Vx.c1; have af1 := Vx.f 1
    have a2 := Vx.c2; have af2 := Vx.f 2
    have a3 := Vx.c3; have af3 := Vx.f 3
    have a4 := Vx.c4; have af4 := Vx.f 4
    have a5 := Vx.c5; have af5 := Vx.f 5
    have d0 := Vy.c0; have df0 := Vy.f 0
    have d1 := Vy.c1; have df1 := Vy.f 1
    have d2 := Vy.c2; have df2 := Vy.f 2
    have d3 := Vy.c3; have df3 := Vy.f 3
    have d4 := Vy.c4; have df4 := Vy.f 4
    have d5 := Vy.c5; have df5 := Vy.f 5
    have hne : gc ≠ gs := by omega
    have hne2 : gs ≠ gc := by omega
    have Vx1 : Vr (set6 W5 gc (.bool bf) (.slice Af nf cf) (.int .i64 ef) (.bool bf') (.slice Af' nf' cf') (.int .i64 ef')) gc (.bool bf) (.slice Af nf cf) (.int .i64 ef) (.bool bf') (.slice Af' nf' cf') (.int .i64 ef') := Vx.set _ _ _ _ _ _ _ _ _ _ z1 z2
    have Vy1 := Vy.other (a := (.bool bf)) (b := (.slice Af nf cf)) (c := (.int .i64 ef)) (a' := (.bool bf')) (b' := (.slice Af' nf' cf')) (c' := (.int .i64 ef')) hne2
    have ix1 := Vx.off ix (.bool bf) (.slice Af nf cf) (.int .i64 ef) (.bool bf') (.slice Af' nf' cf') (.int .i64 ef')
    have iy1 := Vx.off iy (.bool bf) (.slice Af nf cf) (.int .i64 ef) (.bool bf') (.slice Af' nf' cf') (.int .i64 ef')
    have h1 : w.heap.size + 1 ≠ gc := by omega
    have h2 : w.heap.size + 1 + 1 ≠ gc := by omega
    have h3 : w.heap.size + 1 ≠ gs := by omega
    have h4 : w.heap.size + 1 + 1 ≠ gs := by omega
    have Z11 := Z1.other (a := (.bool bf)) (b := (.slice Af nf cf)) (c := (.int .i64 ef)) (a' := (.bool bf')) (b' := (.slice Af' nf' cf')) (c' := (.int .i64 ef')) h1
    have Z21 := Z2.other (a := (.bool bf)) (b := (.slice Af nf cf)) (c := (.int .i64 ef)) (a' := (.bool bf')) (b' := (.slice Af' nf' cf')) (c' := (.int .i64 ef')) h2
    have E1_ : Ext w (set6 W5 gc (.bool bf) (.slice Af nf cf) (.int .i64 ef) (.bool bf') (.slice Af' nf' cf') (.int .i64 ef')) := Ee.set6 (by omega)
    obtain ⟨P, p1, p2, p3, p4⟩ := S1.rg
    have S2 : Sx w gc gs (set6 (set6 W5 gc (.bool bf) (.slice Af nf cf) (.int .i64 ef) (.bool bf') (.slice Af' nf' cf') (.int .i64 ef')) gs (.bool bx) (.slice Ax nx cx) (.int .i64 ex) (.bool bx') (.slice Ax' nx' cx') (.int .i64 ex')) ⟨r.y1, r.y2, r.x1, r.x2⟩ := ⟨Z11.other h3, Z21.other h4, ⟨_, _, _, _, _, _, _, _, _, _, Vx1.other hne, z1, z2, Vy1.off iy1 _ _ _ _ _ _⟩, ⟨_, _, _, _, _, _, _, _, _, _, Vy1.set _ _ _ _ _ _ _ _ _ _ y1 y2, y1, y2, Vy1.off ix1 _ _ _ _ _ _⟩, E1_.set6 (by omega), n1, n2, P, p3, p4, p1, p2⟩
    clear Z1 Z2 Ee Vx Vy ix iy Vx1 Vy1 ix1 iy1 Z11 Z21 E1_ S1
    go_wp2_with fail
    go_meet
    case rel => exact (show (⟨r.y1, r.y2, r.x1, r.x2⟩ : Xy) = r1 from hr1.out) ▸ S2
  case rest =>
    clear S1
    have S3 : Sx w gc gs wc r1 := hcut
    clear hcut
    go_upto_if 34 with fail
    go_cut [] from 14 (fun wx => Sx w gc gs wx r2)
    case first =>
      cases cn with
      | false =>
        go_wp2_with fail
        go_meet
        case rel => exact (show r1 = r2 from hr2.out) ▸ S3
      | true =>
        have Z1 := S3.z1
        have Z2 := S3.z2
        have Ee := S3.ext
        have n1 := S3.n1
        have n2 := S3.n2
        obtain ⟨bx, Ax, nx, cx, ex, bx', Ax', nx', cx', ex', Vx, y1, y2, ix⟩ := S3.x.out
        obtain ⟨bf, Af, nf, cf, ef, bf', Af', nf', cf', ef', Vy, z1, z2, iy⟩ := S3.y.out
        obtain ⟨P, p1, p2, p3, p4⟩ := S3.rg
        have a0 := Vx.c0
        have a1 := Vx.c1
        have a2 := Vx.c2
        have a3 := Vx.c3
        have a4 := Vx.c4
        have a5 := Vx.c5
        go_wp2_with fail
        refine (riflip_any _ _ r1.x1 r1.x2 ix).mono ?_
        rintro _ Wn ⟨vn, rfl, jn, en⟩
        clear a0 a1 a2 a3 a4 a5
        obtain ⟨bu, Au, nu, cu, eu, bu', Au', nu', cu', eu', rfl, w1, w2⟩ := jn.two p2.neg p1.neg
        replace Z1 := Z1.ext en
        replace Z2 := Z2.ext en
        replace Vx := Vx.ext en
        replace Vy := Vy.ext en
        replace ix := ix.ext en
        replace iy := iy.ext en
        have En := Ee.trans en
        clear en Ee
        have a0 := Vx.c0; have af0 := Vx.f 0
        have a1 := Vx.c1; have af1 := Vx.f 1
        have a2 := Vx.c2; have af2 := Vx.f 2
        have a3 := Vx.c3; have af3 := Vx.f 3
        have a4 := Vx.c4; have af4 := Vx.f 4
        have a5 := Vx.c5; have af5 := Vx.f 5
        have h1 : w.heap.size + 1 ≠ gc := by omega
        have h2 : w.heap.size + 1 + 1 ≠ gc := by omega
        have h3 : gs ≠ gc := by omega
        have S9 : Sx w gc gs (set6 Wn gc (.bool bu) (.slice Au nu cu) (.int .i64 eu) (.bool bu') (.slice Au' nu' cu') (.int .i64 eu')) ⟨-r1.x2, -r1.x1, r1.y1, r1.y2⟩ := ⟨Z1.other h1, Z2.other h2, ⟨_, _, _, _, _, _, _, _, _, _, Vx.set _ _ _ _ _ _ _ _ _ _ w1 w2, w1, w2, Vx.off jn _ _ _ _ _ _⟩, ⟨_, _, _, _, _, _, _, _, _, _, Vy.other h3, z1, z2, Vx.off iy _ _ _ _ _ _⟩, En.set6 (by omega), n1, n2, P, p2.neg, p1.neg, p3, p4⟩
        clear Z1 Z2 En Vx Vy ix iy jn S3
        go_wp2_with fail
        go_meet
        case rel => exact (show (⟨-r1.x2, -r1.x1, r1.y1, r1.y2⟩ : Xy) = r2 from hr2.out) ▸ S9
    case rest =>
      clear S3
      have S5 : Sx w gc gs wc r2 := hcut
      clear hcut
      go_upto_if 37 with fail
      go_cut [] from 14 (fun wx => Sx w gc gs wx r3)
      case first =>
        cases sn with
        | false =>
          go_wp2_with fail
          go_meet
          case rel => exact (show r2 = r3 from hr3.out) ▸ S5
        | true =>
          have Z1 := S5.z1
          have Z2 := S5.z2
          have Ee := S5.ext
          have n1 := S5.n1
          have n2 := S5.n2
          obtain ⟨bx, Ax, nx, cx, ex, bx', Ax', nx', cx', ex', Vx, y1, y2, ix⟩ := S5.x.out
          obtain ⟨bf, Af, nf, cf, ef, bf', Af', nf', cf', ef', Vy, z1, z2, iy⟩ := S5.y.out
          obtain ⟨P, p1, p2, p3, p4⟩ := S5.rg
          have a0 := Vy.c0
          have a1 := Vy.c1
          have a2 := Vy.c2
          have a3 := Vy.c3
          have a4 := Vy.c4
          have a5 := Vy.c5
          go_wp2_with fail
          refine (riflip_any _ _ r2.y1 r2.y2 iy).mono ?_
          rintro _ Wn ⟨vn, rfl, jn, en⟩
          clear a0 a1 a2 a3 a4 a5
          obtain ⟨bu, Au, nu, cu, eu, bu', Au', nu', cu', eu', rfl, w1, w2⟩ := jn.two p4.neg p3.neg
          replace Z1 := Z1.ext en
          replace Z2 := Z2.ext en
          replace Vx := Vx.ext en
          replace Vy := Vy.ext en
          replace ix := ix.ext en
          replace iy := iy.ext en
          have En := Ee.trans en
          clear en Ee
          have a0 := Vy.c0; have af0 := Vy.f 0
          have a1 := Vy.c1; have af1 := Vy.f 1
          have a2 := Vy.c2; have af2 := Vy.f 2
          have a3 := Vy.c3; have af3 := Vy.f 3
          have a4 := Vy.c4; have af4 := Vy.f 4
          have a5 := Vy.c5; have af5 := Vy.f 5
          have h1 : w.heap.size + 1 ≠ gs := by omega
          have h2 : w.heap.size + 1 + 1 ≠ gs := by omega
          have h3 : gc ≠ gs := by omega
          have S9 : Sx w gc gs (set6 Wn gs (.bool bu) (.slice Au nu cu) (.int .i64 eu) (.bool bu') (.slice Au' nu' cu') (.int .i64 eu')) ⟨r2.x1, r2.x2, -r2.y2, -r2.y1⟩ := ⟨Z1.other h1, Z2.other h2, ⟨_, _, _, _, _, _, _, _, _, _, Vx.other h3, y1, y2, Vy.off ix _ _ _ _ _ _⟩, ⟨_, _, _, _, _, _, _, _, _, _, Vy.set _ _ _ _ _ _ _ _ _ _ w1 w2, w1, w2, Vy.off jn _ _ _ _ _ _⟩, En.set6 (by omega), n1, n2, P, p1, p2, p4.neg, p3.neg⟩
          clear Z1 Z2 En Vx Vy ix iy jn S5
          go_wp2_with fail
          go_meet
          case rel => exact (show (⟨r2.x1, r2.x2, -r2.y2, -r2.y1⟩ : Xy) = r3 from hr3.out) ▸ S9
      case rest =>
        clear S5
        have S7 : Sx w gc gs wc r3 := hcut
        clear hcut
        have Z1 := S7.z1
        have Z2 := S7.z2
        have Ee := S7.ext
        have n1 := S7.n1
        have n2 := S7.n2
        obtain ⟨bx, Ax, nx, cx, ex, bx', Ax', nx', cx', ex', Vx, y1, y2, ix⟩ := S7.x.out
        obtain ⟨bf, Af, nf, cf, ef, bf', Af', nf', cf', ef', Vy, z1, z2, iy⟩ := S7.y.out
        clear S7
        go_upto_region 10 with fail
        have m1 : gc ≠ w.heap.size + 1 := by omega
        have m2 : gc ≠ w.heap.size + 1 + 1 := by omega
        have m3 : gs ≠ w.heap.size + 1 := by omega
        have m4 : gs ≠ w.heap.size + 1 + 1 := by omega
        have m5 : w.heap.size + 1 + 1 ≠ w.heap.size + 1 := by omega
        have m6 : w.heap.size + 1 ≠ w.heap.size + 1 + 1 := by omega
        have F0 : Ext wc (World.drew wc) := (Ext.refl _).drew
        refine wp_region_held_drew (S := (fun w' => (w'.cell? ⟨gc, 0, none⟩ = some (.bool bx) ∧ w'.cell? ⟨gc, 1, none⟩ = some (.slice Ax nx cx) ∧ w'.cell? ⟨gc, 2, none⟩ = some (.int .i64 ex) ∧ w'.cell? ⟨gc, 3, none⟩ = some (.bool bx') ∧ w'.cell? ⟨gc, 4, none⟩ = some (.slice Ax' nx' cx') ∧ w'.cell? ⟨gc, 5, none⟩ = some (.int .i64 ex')) ∧ (w'.cell? ⟨gs, 0, none⟩ = some (.bool bf) ∧ w'.cell? ⟨gs, 1, none⟩ = some (.slice Af nf cf) ∧ w'.cell? ⟨gs, 2, none⟩ = some (.int .i64 ef) ∧ w'.cell? ⟨gs, 3, none⟩ = some (.bool bf') ∧ w'.cell? ⟨gs, 4, none⟩ = some (.slice Af' nf' cf') ∧ w'.cell? ⟨gs, 5, none⟩ = some (.int .i64 ef')))) (by as_aux_lemma => kernel_rfl) ⟨vr6 (Vx.ext F0), vr6 (Vy.ext F0)⟩ (fun hHeld => ?_)
        replace Vx := Vx.ext F0
        replace Vy := Vy.ext F0
        replace Z1 := Z1.ext F0
        replace Z2 := Z2.ext F0
        replace ix := ix.ext F0
        replace iy := iy.ext F0
        have E0 := Ee.trans F0
        clear F0
        generalize hgen : World.drew wc = V0 at *
        clear hgen
        refine wpAnyH_take (i := 0) (v := ?_) rfl (by as_aux_lemma => kernel_rfl) (by as_aux_lemma => kernel_rfl) (by as_aux_lemma => kernel_rfl) (fun _ _ _ h => h) (Or.inl ⟨by rfl, ?_⟩) (by assumption) ?_
        rotate_left
        · (intro w hSw; (try dsimp only at hSw); go_simp); (try with_reducible rfl)
        simp only [List.getElem_toArray, List.getElem_cons_zero, Act.put, List.setIfInBounds_toArray, List.set_cons_zero, List.set_cons_succ]
        refine wpAnyH_take (i := 1) (v := ?_) rfl (by as_aux_lemma => kernel_rfl) (by as_aux_lemma => kernel_rfl) (by as_aux_lemma => kernel_rfl) (fun _ _ _ h => h) (Or.inl ⟨by rfl, ?_⟩) (by assumption) ?_
        rotate_left
        · (intro w hSw; (try dsimp only at hSw); go_simp); (try with_reducible rfl)
        simp only [List.getElem_toArray, List.getElem_cons_zero, List.getElem_cons_succ, Act.put, List.setIfInBounds_toArray, List.set_cons_zero, List.set_cons_succ]
        refine wpAnyH_ready (rs := [2]) (by as_aux_lemma => kernel_rfl) (by simp) ?_
        refine AllReadyH.cons rfl (fun K hK => ?_) AllReadyH.nil
        have q0 := Z1.c0; have h0 := Z1.f 0
        have q1 := Z1.c1; have h1 := Z1.f 1
        have q2 := Z1.c2; have h2 := Z1.f 2
        have q3 := Z1.c3; have h3 := Z1.f 3
        have q4 := Z1.c4; have h4 := Z1.f 4
        have q5 := Z1.c5; have h5 := Z1.f 5
        go_simp
        have gvx := Vx.other (a := (.bool bx)) (b := (.slice Ax nx cx)) (c := (.int .i64 ex)) (a' := (.bool bx')) (b' := (.slice Ax' nx' cx')) (c' := (.int .i64 ex')) m1
        have gvy := Vy.other (a := (.bool bx)) (b := (.slice Ax nx cx)) (c := (.int .i64 ex)) (a' := (.bool bx')) (b' := (.slice Ax' nx' cx')) (c' := (.int .i64 ex')) m3
        refine hK.out _ _ ⟨vr6 gvx, vr6 gvy⟩ (fun hHeld => ?_)
        clear hK K q0 h0 q1 h1 q2 h2 q3 h3 q4 h4 q5 h5
        replace ix := Z1.off ix (.bool bx) (.slice Ax nx cx) (.int .i64 ex) (.bool bx') (.slice Ax' nx' cx') (.int .i64 ex')
        replace iy := Z1.off iy (.bool bx) (.slice Ax nx cx) (.int .i64 ex) (.bool bx') (.slice Ax' nx' cx') (.int .i64 ex')
        have E1 : Ext w (set6 V0 (w.heap.size + 1) (.bool bx) (.slice Ax nx cx) (.int .i64 ex) (.bool bx') (.slice Ax' nx' cx') (.int .i64 ex')) := E0.set6 (by omega)
        have RR2 := Z1.put (.bool bx) (.slice Ax nx cx) (.int .i64 ex) (.bool bx') (.slice Ax' nx' cx') (.int .i64 ex')
        replace Z2 := Z2.other (a := (.bool bx)) (b := (.slice Ax nx cx)) (c := (.int .i64 ex)) (a' := (.bool bx')) (b' := (.slice Ax' nx' cx')) (c' := (.int .i64 ex')) m5
        replace Vx := gvx
        replace Vy := gvy
        clear Z1 E0
        obtain ⟨V1, hgen⟩ : ∃ V, (set6 V0 (w.heap.size + 1) (.bool bx) (.slice Ax nx cx) (.int .i64 ex) (.bool bx') (.slice Ax' nx' cx') (.int .i64 ex')) = V := ⟨_, rfl⟩
        rw [hgen] at E1 RR2 ix iy Vx Vy Z2
        have hgen2 : ((((((V0.setCell ⟨w.heap.size + 1, 0, none⟩ (.bool bx)).setCell ⟨w.heap.size + 1, 1, none⟩ (.slice Ax nx cx)).setCell ⟨w.heap.size + 1, 2, none⟩ (.int .i64 ex)).setCell ⟨w.heap.size + 1, 3, none⟩ (.bool bx')).setCell ⟨w.heap.size + 1, 4, none⟩ (.slice Ax' nx' cx')).setCell ⟨w.heap.size + 1, 5, none⟩ (.int .i64 ex')) = V1 := hgen
        rw [hgen2] at hHeld ⊢
        clear hgen hgen2
        refine wpAnyH_ready (rs := [3]) (by as_aux_lemma => kernel_rfl) (by simp) ?_
        refine AllReadyH.cons rfl (fun K hK => ?_) AllReadyH.nil
        have q0 := Z2.c0; have h0 := Z2.f 0
        have q1 := Z2.c1; have h1 := Z2.f 1
        have q2 := Z2.c2; have h2 := Z2.f 2
        have q3 := Z2.c3; have h3 := Z2.f 3
        have q4 := Z2.c4; have h4 := Z2.f 4
        have q5 := Z2.c5; have h5 := Z2.f 5
        go_simp
        have gvx := Vx.other (a := (.bool bf)) (b := (.slice Af nf cf)) (c := (.int .i64 ef)) (a' := (.bool bf')) (b' := (.slice Af' nf' cf')) (c' := (.int .i64 ef')) m2
        have gvy := Vy.other (a := (.bool bf)) (b := (.slice Af nf cf)) (c := (.int .i64 ef)) (a' := (.bool bf')) (b' := (.slice Af' nf' cf')) (c' := (.int .i64 ef')) m4
        refine hK.out _ _ ⟨vr6 gvx, vr6 gvy⟩ (fun hHeld => ?_)
        clear hK K q0 h0 q1 h1 q2 h2 q3 h3 q4 h4 q5 h5
        replace ix := Z2.off ix (.bool bf) (.slice Af nf cf) (.int .i64 ef) (.bool bf') (.slice Af' nf' cf') (.int .i64 ef')
        replace iy := Z2.off iy (.bool bf) (.slice Af nf cf) (.int .i64 ef) (.bool bf') (.slice Af' nf' cf') (.int .i64 ef')
        have E2 : Ext w (set6 V1 (w.heap.size + 1 + 1) (.bool bf) (.slice Af nf cf) (.int .i64 ef) (.bool bf') (.slice Af' nf' cf') (.int .i64 ef')) := E1.set6 (by omega)
        have RR3 := Z2.put (.bool bf) (.slice Af nf cf) (.int .i64 ef) (.bool bf') (.slice Af' nf' cf') (.int .i64 ef')
        replace RR2 := RR2.other (a := (.bool bf)) (b := (.slice Af nf cf)) (c := (.int .i64 ef)) (a' := (.bool bf')) (b' := (.slice Af' nf' cf')) (c' := (.int .i64 ef')) m6
        replace Vx := gvx
        replace Vy := gvy
        clear Z2 E1
        obtain ⟨V2, hgen⟩ : ∃ V, (set6 V1 (w.heap.size + 1 + 1) (.bool bf) (.slice Af nf cf) (.int .i64 ef) (.bool bf') (.slice Af' nf' cf') (.int .i64 ef')) = V := ⟨_, rfl⟩
        rw [hgen] at E2 RR3 ix iy Vx Vy RR2
        have hgen2 : ((((((V1.setCell ⟨w.heap.size + 1 + 1, 0, none⟩ (.bool bf)).setCell ⟨w.heap.size + 1 + 1, 1, none⟩ (.slice Af nf cf)).setCell ⟨w.heap.size + 1 + 1, 2, none⟩ (.int .i64 ef)).setCell ⟨w.heap.size + 1 + 1, 3, none⟩ (.bool bf')).setCell ⟨w.heap.size + 1 + 1, 4, none⟩ (.slice Af' nf' cf')).setCell ⟨w.heap.size + 1 + 1, 5, none⟩ (.int .i64 ef')) = V2 := hgen
        rw [hgen2] at hHeld ⊢
        clear hgen hgen2
        refine wpAnyH_done (by as_aux_lemma => kernel_rfl) ?_ _
        have k0 := RR2.c0; have k1 := RR2.c1; have k2 := RR2.c2; have k3 := RR2.c3; have k4 := RR2.c4; have k5 := RR2.c5
        have p0 := RR3.c0; have p1 := RR3.c1; have p2 := RR3.c2; have p3 := RR3.c3; have p4 := RR3.c4; have p5 := RR3.c5
        go_wp2
        exact bodyPost_ret (by simp [results, Tryz.results83, go_sem, k0, k1, k2, k3, k4, k5, p0, p1, p2, p3, p4, p5]) rfl ⟨_, _, rfl, ix, iy, E2⟩
set_option maxRecDepth 20000 in
set_option maxHeartbeats 4000000 in
theorem rpair_any (w : World) (K kf kr : Int) (Q qf qr k : Nat) (hK : -9223372036854775808 ≤ K ∧ K ≤ 9223372036854775807) (hQ : Q ≤ 14) (hf : Fm (tv K Q) kf qf) (hq : qf ≤ 14) (hr : Fm (rest (tv K Q)) kr qr) (hkQ : 2 * qf + 5 ≤ k) (hk2 : k ≤ 140) (hk13 : 13 ≤ k) :
    Calls Tryz.prog 50 #[.agg #[.int .i64 K, .int .i64 (Q : Int)], .int .i64 (k : Int)] w (RetII w (docxy k (tv K Q) kr qr).x1 (docxy k (tv K Q) kr qr).x2 (docxy k (tv K Q) kr qr).y1 (docxy k (tv K Q) kr qr).y2) := by
  obtain ⟨m, hm⟩ : ∃ m : Nat, max qf 3 = m := ⟨_, rfl⟩
  have hm1 : max (qf : Int) 3 = (m : Int) := by omega
  have hm3 : 3 ≤ m := by omega
  have HF := Lib.hid (fun w' => rform_any w' K kf Q qf hK (by omega) hf)
  have HH := Lib.hid (fun w' => rhalves_any w' m k (m : Int) (k : Int) rfl rfl hm3 (by omega) (by omega) (by omega))
  have HB := Lib.hid (fun w' base l (hL : Lh w' base l (m - 2) (hs k)) => rby_any w' K kf kr Q qf qr k (m - 2) base l hL hK hQ hf hq hr (by omega) hkQ hk2)
  have f1 := fld1 (.int .i64 kf) (.int .i64 (qf : Int))
  have hq2 : qf ≤ 14 := hq
  replace hm1 := Lib.hid hm1
  clear hK hf hr hkQ hk2 hk13 hm hm3
  generalize docxy k (tv K Q) kr qr = r at *
  obtain ⟨xa, xb, ya, yb⟩ := r
  go_enter Tryz.func50, Tryz.ntmps50
  go_upto_region 1 with fail
  have eW1 : Ext w (((w.alloc (.cells #[.int .i64 K, .int .i64 (Q : Int)] 23)).alloc (.cells #[.bool false, .slice none 0 0, .int .i64 0, .bool false, .slice none 0 0, .int .i64 0] 33)).alloc (.cells #[.bool false, .slice none 0 0, .int .i64 0, .bool false, .slice none 0 0, .int .i64 0] 33)) := ((((Ext.refl w).alloc _).alloc _).alloc _)
  have Bt : B2 (((w.alloc (.cells #[.int .i64 K, .int .i64 (Q : Int)] 23)).alloc (.cells #[.bool false, .slice none 0 0, .int .i64 0, .bool false, .slice none 0 0, .int .i64 0] 33)).alloc (.cells #[.bool false, .slice none 0 0, .int .i64 0, .bool false, .slice none 0 0, .int .i64 0] 33)) (w.heap.size) (.int .i64 K) (.int .i64 (Q : Int)) := B2.at (((Ext.refl _).alloc _).alloc _) (by simp)
  have Z1 : Zi (((w.alloc (.cells #[.int .i64 K, .int .i64 (Q : Int)] 23)).alloc (.cells #[.bool false, .slice none 0 0, .int .i64 0, .bool false, .slice none 0 0, .int .i64 0] 33)).alloc (.cells #[.bool false, .slice none 0 0, .int .i64 0, .bool false, .slice none 0 0, .int .i64 0] 33)) (w.heap.size + 1) := Zi.at ((Ext.refl _).alloc _) (by simp)
  have Z2 : Zi (((w.alloc (.cells #[.int .i64 K, .int .i64 (Q : Int)] 23)).alloc (.cells #[.bool false, .slice none 0 0, .int .i64 0, .bool false, .slice none 0 0, .int .i64 0] 33)).alloc (.cells #[.bool false, .slice none 0 0, .int .i64 0, .bool false, .slice none 0 0, .int .i64 0] 33)) (w.heap.size + 1 + 1) := Zi.at (Ext.refl _) (by simp)
  have EW1 := (Ext.refl w).trans eW1
  clear eW1
  generalize hgen : (((w.alloc (.cells #[.int .i64 K, .int .i64 (Q : Int)] 23)).alloc (.cells #[.bool false, .slice none 0 0, .int .i64 0, .bool false, .slice none 0 0, .int .i64 0] 33)).alloc (.cells #[.bool false, .slice none 0 0, .int .i64 0, .bool false, .slice none 0 0, .int .i64 0] 33)) = W1 at *
  clear hgen
  have hz : w.heap.size + 1 + 1 < W1.heap.size := World.block_lt_of_cell? _ _ Z2.c0
  have hm2 := hm1.out
  have e1 : Ext w W1 := EW1
  obtain ⟨t0, t1⟩ := _root_.id Bt
  go_cut [6, 7] from 8 (fun p6 p7 wx => ∃ (gc gs : Nat) (bx : Bool) (Ax : Option Addr) (nx cx : Nat) (ex : Int) (bx' : Bool) (Ax' : Option Addr) (nx' cx' : Nat) (ex' : Int) (bf : Bool) (Af : Option Addr) (nf cf : Nat) (ef : Int) (bf' : Bool) (Af' : Option Addr) (nf' cf' : Nat) (ef' : Int), p6 = .pointer (some ⟨gc, 0, none⟩) ∧ p7 = .pointer (some ⟨gs, 0, none⟩) ∧ Bx wx gc (.bool bx) (.slice Ax nx cx) (.int .i64 ex) (.bool bx') (.slice Ax' nx' cx') (.int .i64 ex') ∧ Bx wx gs (.bool bf) (.slice Af nf cf) (.int .i64 ef) (.bool bf') (.slice Af' nf' cf') (.int .i64 ef') ∧ In wx (.agg #[.bool bx, .slice Ax nx cx, .int .i64 ex, .bool bx', .slice Ax' nx' cx', .int .i64 ex']) xa xb ∧ In wx (.agg #[.bool bf, .slice Af nf cf, .int .i64 ef, .bool bf', .slice Af' nf' cf', .int .i64 ef']) ya yb ∧ Ext W1 wx ∧ W1.heap.size ≤ gc ∧ W1.heap.size ≤ gs)
  case first =>
    refine wp_region_held_drew (S := (fun w' => (w'.cell? ⟨w.heap.size, 0, none⟩ = some (.int .i64 K) ∧ w'.cell? ⟨w.heap.size, 1, none⟩ = some (.int .i64 (Q : Int))))) (by as_aux_lemma => kernel_rfl) (b2 (Bt.ext (Ext.refl W1).drew)) (fun hHeld => ?_)
    have F0 : Ext W1 (World.drew W1) := (Ext.refl _).drew
    generalize hgen : World.drew W1 = V0 at *
    clear hgen
    apply cutG
    · intro REST
      refine wpAnyH_take (i := 0) (v := ?_) rfl (by as_aux_lemma => kernel_rfl) (by as_aux_lemma => kernel_rfl) (by as_aux_lemma => kernel_rfl) (fun _ _ _ h => h) (Or.inl ⟨by rfl, ?_⟩) (by assumption) ?_
      rotate_left
      · (intro w hSw; (try dsimp only at hSw); go_simp); (try with_reducible rfl)
      simp only [List.getElem_toArray, List.getElem_cons_zero, Act.put, List.setIfInBounds_toArray, List.set_cons_zero, List.set_cons_succ]
      refine wpAnyH_take (i := 1) (v := ?_) rfl (by as_aux_lemma => kernel_rfl) (by as_aux_lemma => kernel_rfl) (by as_aux_lemma => kernel_rfl) (fun _ _ _ h => h) (Or.inl ⟨by rfl, ?_⟩) (by assumption) ?_
      rotate_left
      · (intro w hSw; (try dsimp only at hSw); go_simp); (try with_reducible rfl)
      simp only [List.getElem_toArray, List.getElem_cons_zero, List.getElem_cons_succ, Act.put, List.setIfInBounds_toArray, List.set_cons_zero, List.set_cons_succ]
      refine wpAnyH_take (i := 2) (v := ?_) rfl (by as_aux_lemma => kernel_rfl) (by as_aux_lemma => kernel_rfl) (by as_aux_lemma => kernel_rfl) (fun _ _ _ h => h) (Or.inl ⟨by rfl, ?_⟩) (by assumption) ?_
      rotate_left
      · (intro w hSw; (try dsimp only at hSw); go_simp); (try with_reducible rfl)
      simp only [List.getElem_toArray, List.getElem_cons_zero, List.getElem_cons_succ, Act.put, List.setIfInBounds_toArray, List.set_cons_zero, List.set_cons_succ]
      refine wpAnyH_take (i := 6) (v := ?_) rfl (by as_aux_lemma => kernel_rfl) (by as_aux_lemma => kernel_rfl) (by as_aux_lemma => kernel_rfl) (fun _ _ _ h => h) (Or.inl ⟨by rfl, ?_⟩) (by assumption) ?_
      rotate_left
      · (intro w hSw; (try dsimp only at hSw); go_simp); (try with_reducible rfl)
      simp only [List.getElem_toArray, List.getElem_cons_zero, List.getElem_cons_succ, Act.put, List.setIfInBounds_toArray, List.set_cons_zero, List.set_cons_succ]
      refine wpAnyH_ready (rs := [3, 12, 13]) (by as_aux_lemma => kernel_rfl) (by simp) ?_
      refine AllReadyH.cons rfl (fun K hK => ?_) (AllReadyH.cons rfl (fun K hK => ?_) (AllReadyH.cons rfl (fun K hK => ?_) AllReadyH.nil))
      ·go_simp
       refine (HF.out _).mono ?_
       rintro _ V1 ⟨rfl, eF⟩
       have F1 : Ext W1 V1 := F0.trans eF
       refine hK.out _ _ (b2 (Bt.ext F1)) (fun hHeld => ?_)
       clear hK K eF
       refine wpAnyH_take (i := 4) (v := ?_) rfl (by as_aux_lemma => kernel_rfl) (by as_aux_lemma => kernel_rfl) (by as_aux_lemma => kernel_rfl) (fun _ _ _ h => h) (Or.inl ⟨by rfl, ?_⟩) (by assumption) ?_
       rotate_left
       · (intro w hSw; (try dsimp only at hSw); go_simp); (try with_reducible rfl)
       simp only [List.getElem_toArray, List.getElem_cons_zero, List.getElem_cons_succ, Act.put, List.setIfInBounds_toArray, List.set_cons_zero, List.set_cons_succ]
       refine wpAnyH_take (i := 5) (v := ?_) rfl (by as_aux_lemma => kernel_rfl) (by as_aux_lemma => kernel_rfl) (by as_aux_lemma => kernel_rfl) (fun _ _ _ h => h) (Or.inl ⟨by rfl, ?_⟩) (by assumption) ?_
       rotate_left
       · (intro w hSw; (try dsimp only at hSw); go_simp); (try with_reducible rfl)
       simp only [List.getElem_toArray, List.getElem_cons_zero, List.getElem_cons_succ, Act.put, List.setIfInBounds_toArray, List.set_cons_zero, List.set_cons_succ]
       refine wpAnyH_ready (rs := [7, 12, 13]) (by as_aux_lemma => kernel_rfl) (by simp) ?_
       refine AllReadyH.cons rfl (fun K hK => ?_) (AllReadyH.cons rfl (fun K hK => ?_) (AllReadyH.cons rfl (fun K hK => ?_) AllReadyH.nil))
       ·go_simp
        refine (HH.out _).mono ?_
        rintro _ V2 ⟨v7, rfl, mL, eH⟩
        have F2 : Ext W1 V2 := F1.trans eH
        refine hK.out _ _ (b2 (Bt.ext F2)) (fun hHeld => ?_)
        clear hK K eH F1
        refine wpAnyH_ready (rs := [8, 12, 13]) (by as_aux_lemma => kernel_rfl) (by simp) ?_
        refine AllReadyH.cons rfl (fun K hK => ?_) (AllReadyH.cons rfl (fun K hK => ?_) (AllReadyH.cons rfl (fun K hK => ?_) AllReadyH.nil))
        ·go_simp
         refine (HB.out _ _ _ mL).mono ?_
         rintro _ V3 ⟨v8, v9, rfl, m1, m2, eB⟩
         have F3 : Ext W1 V3 := F2.trans eB
         replace mL := mL.ext eB
         refine hK.out _ _ (b2 (Bt.ext F3)) (fun hHeld => ?_)
         clear hK K eB F2
         obtain ⟨bm1, Am1, lm1, cm1, jm1, bm1', Am1', lm1', cm1', jm1', rfl⟩ := m1.form
         obtain ⟨bm2, Am2, lm2, cm2, jm2, bm2', Am2', lm2', cm2', jm2', rfl⟩ := m2.form
         clear mL
         refine wpAnyH_take (i := 9) (v := ?_) rfl (by as_aux_lemma => kernel_rfl) (by as_aux_lemma => kernel_rfl) (by as_aux_lemma => kernel_rfl) (fun _ _ _ h => h) (Or.inl ⟨by rfl, ?_⟩) (by assumption) ?_
         rotate_left
         · (intro w hSw; (try dsimp only at hSw); go_simp); (try with_reducible rfl)
         simp only [List.getElem_toArray, List.getElem_cons_zero, List.getElem_cons_succ, Act.put, List.setIfInBounds_toArray, List.set_cons_zero, List.set_cons_succ]
         refine wpAnyH_take (i := 10) (v := ?_) rfl (by as_aux_lemma => kernel_rfl) (by as_aux_lemma => kernel_rfl) (by as_aux_lemma => kernel_rfl) (fun _ _ _ h => h) (Or.inl ⟨by rfl, ?_⟩) (by assumption) ?_
         rotate_left
         · (intro w hSw; (try dsimp only at hSw); go_simp); (try with_reducible rfl)
         simp only [List.getElem_toArray, List.getElem_cons_zero, List.getElem_cons_succ, Act.put, List.setIfInBounds_toArray, List.set_cons_zero, List.set_cons_succ]
         refine wpAnyH_take (i := 11) (v := ?_) rfl (by as_aux_lemma => kernel_rfl) (by as_aux_lemma => kernel_rfl) (by as_aux_lemma => kernel_rfl) (fun _ _ _ h => h) (Or.inl ⟨by rfl, ?_⟩) (by assumption) ?_
         rotate_left
         · (intro w hSw; (try dsimp only at hSw); go_simp); (try with_reducible rfl)
         simp only [List.getElem_toArray, List.getElem_cons_zero, List.getElem_cons_succ, Act.put, List.setIfInBounds_toArray, List.set_cons_zero, List.set_cons_succ]
         refine wpAnyH_ready (rs := [12, 13]) (by as_aux_lemma => kernel_rfl) (by simp) ?_
         refine AllReadyH.cons rfl (fun K hK => ?_) (AllReadyH.cons rfl (fun K hK => ?_) AllReadyH.nil)
         ·go_simp
          have eX : Ext V3 (V3.alloc (.cells #[.bool false, .slice none 0 0, .int .i64 0, .bool false, .slice none 0 0, .int .i64 0] 33)) := (Ext.refl _).alloc _
          have F4 : Ext W1 (V3.alloc (.cells #[.bool false, .slice none 0 0, .int .i64 0, .bool false, .slice none 0 0, .int .i64 0] 33)) := F3.trans eX
          refine hK.out _ _ (b2 (Bt.ext F4)) (fun hHeld => ?_)
          clear hK K
          replace m1 := m1.ext eX
          replace m2 := m2.ext eX
          have X : Zi (V3.alloc (.cells #[.bool false, .slice none 0 0, .int .i64 0, .bool false, .slice none 0 0, .int .i64 0] 33)) V3.heap.size := Zi.new _ _
          have lX : W1.heap.size ≤ V3.heap.size := F3.size
          clear eX F3
          generalize hgen : V3.alloc (.cells #[.bool false, .slice none 0 0, .int .i64 0, .bool false, .slice none 0 0, .int .i64 0] 33) = V4 at *
          clear hgen
          generalize hgen : V3.heap.size = gX at *
          clear hgen
          refine wpAnyH_ready (rs := [13]) (by as_aux_lemma => kernel_rfl) (by simp) ?_
          refine AllReadyH.cons rfl (fun K hK => ?_) AllReadyH.nil
          go_simp
          have eY : Ext V4 (V4.alloc (.cells #[.bool false, .slice none 0 0, .int .i64 0, .bool false, .slice none 0 0, .int .i64 0] 33)) := (Ext.refl _).alloc _
          have F5 : Ext W1 (V4.alloc (.cells #[.bool false, .slice none 0 0, .int .i64 0, .bool false, .slice none 0 0, .int .i64 0] 33)) := F4.trans eY
          refine hK.out _ _ (b2 (Bt.ext F5)) (fun hHeld => ?_)
          clear hK K
          have tYX := World.block_lt_of_cell? _ _ X.c0
          simp only at tYX
          replace m1 := m1.ext eY
          replace m2 := m2.ext eY
          replace X := X.ext eY
          have Y : Zi (V4.alloc (.cells #[.bool false, .slice none 0 0, .int .i64 0, .bool false, .slice none 0 0, .int .i64 0] 33)) V4.heap.size := Zi.new _ _
          have lY : W1.heap.size ≤ V4.heap.size := F4.size
          clear eY F4
          generalize hgen : V4.alloc (.cells #[.bool false, .slice none 0 0, .int .i64 0, .bool false, .slice none 0 0, .int .i64 0] 33) = V5 at *
          clear hgen
          generalize hgen : V4.heap.size = gY at *
          clear hgen
          have hXY : gX ≠ gY := by omega
          first | clear tYX | clear tXY
          revert hHeld
          revert m2
          revert m1
          revert lY
          revert lX
          revert hXY
          revert Y
          revert X
          revert F5
          revert bm2
          revert Am2
          revert lm2
          revert cm2
          revert jm2
          revert bm2'
          revert Am2'
          revert lm2'
          revert cm2'
          revert jm2'
          revert bm1
          revert Am1
          revert lm1
          revert cm1
          revert jm1
          revert bm1'
          revert Am1'
          revert lm1'
          revert cm1'
          revert jm1'
          revert v7
          revert gY
          revert gX
          revert V5
          exact REST.out
         ·go_simp
          have eY : Ext V3 (V3.alloc (.cells #[.bool false, .slice none 0 0, .int .i64 0, .bool false, .slice none 0 0, .int .i64 0] 33)) := (Ext.refl _).alloc _
          have F4 : Ext W1 (V3.alloc (.cells #[.bool false, .slice none 0 0, .int .i64 0, .bool false, .slice none 0 0, .int .i64 0] 33)) := F3.trans eY
          refine hK.out _ _ (b2 (Bt.ext F4)) (fun hHeld => ?_)
          clear hK K
          replace m1 := m1.ext eY
          replace m2 := m2.ext eY
          have Y : Zi (V3.alloc (.cells #[.bool false, .slice none 0 0, .int .i64 0, .bool false, .slice none 0 0, .int .i64 0] 33)) V3.heap.size := Zi.new _ _
          have lY : W1.heap.size ≤ V3.heap.size := F3.size
          clear eY F3
          generalize hgen : V3.alloc (.cells #[.bool false, .slice none 0 0, .int .i64 0, .bool false, .slice none 0 0, .int .i64 0] 33) = V4 at *
          clear hgen
          generalize hgen : V3.heap.size = gY at *
          clear hgen
          refine wpAnyH_ready (rs := [12]) (by as_aux_lemma => kernel_rfl) (by simp) ?_
          refine AllReadyH.cons rfl (fun K hK => ?_) AllReadyH.nil
          go_simp
          have eX : Ext V4 (V4.alloc (.cells #[.bool false, .slice none 0 0, .int .i64 0, .bool false, .slice none 0 0, .int .i64 0] 33)) := (Ext.refl _).alloc _
          have F5 : Ext W1 (V4.alloc (.cells #[.bool false, .slice none 0 0, .int .i64 0, .bool false, .slice none 0 0, .int .i64 0] 33)) := F4.trans eX
          refine hK.out _ _ (b2 (Bt.ext F5)) (fun hHeld => ?_)
          clear hK K
          have tXY := World.block_lt_of_cell? _ _ Y.c0
          simp only at tXY
          replace m1 := m1.ext eX
          replace m2 := m2.ext eX
          replace Y := Y.ext eX
          have X : Zi (V4.alloc (.cells #[.bool false, .slice none 0 0, .int .i64 0, .bool false, .slice none 0 0, .int .i64 0] 33)) V4.heap.size := Zi.new _ _
          have lX : W1.heap.size ≤ V4.heap.size := F4.size
          clear eX F4
          generalize hgen : V4.alloc (.cells #[.bool false, .slice none 0 0, .int .i64 0, .bool false, .slice none 0 0, .int .i64 0] 33) = V5 at *
          clear hgen
          generalize hgen : V4.heap.size = gX at *
          clear hgen
          have hXY : gX ≠ gY := by omega
          first | clear tYX | clear tXY
          revert hHeld
          revert m2
          revert m1
          revert lY
          revert lX
          revert hXY
          revert Y
          revert X
          revert F5
          revert bm2
          revert Am2
          revert lm2
          revert cm2
          revert jm2
          revert bm2'
          revert Am2'
          revert lm2'
          revert cm2'
          revert jm2'
          revert bm1
          revert Am1
          revert lm1
          revert cm1
          revert jm1
          revert bm1'
          revert Am1'
          revert lm1'
          revert cm1'
          revert jm1'
          revert v7
          revert gY
          revert gX
          revert V5
          exact REST.out
        ·go_simp
         have eX : Ext V2 (V2.alloc (.cells #[.bool false, .slice none 0 0, .int .i64 0, .bool false, .slice none 0 0, .int .i64 0] 33)) := (Ext.refl _).alloc _
         have F3 : Ext W1 (V2.alloc (.cells #[.bool false, .slice none 0 0, .int .i64 0, .bool false, .slice none 0 0, .int .i64 0] 33)) := F2.trans eX
         refine hK.out _ _ (b2 (Bt.ext F3)) (fun hHeld => ?_)
         clear hK K
         replace mL := mL.ext eX
         have X : Zi (V2.alloc (.cells #[.bool false, .slice none 0 0, .int .i64 0, .bool false, .slice none 0 0, .int .i64 0] 33)) V2.heap.size := Zi.new _ _
         have lX : W1.heap.size ≤ V2.heap.size := F2.size
         clear eX F2
         generalize hgen : V2.alloc (.cells #[.bool false, .slice none 0 0, .int .i64 0, .bool false, .slice none 0 0, .int .i64 0] 33) = V3 at *
         clear hgen
         generalize hgen : V2.heap.size = gX at *
         clear hgen
         refine wpAnyH_ready (rs := [8, 13]) (by as_aux_lemma => kernel_rfl) (by simp) ?_
         refine AllReadyH.cons rfl (fun K hK => ?_) (AllReadyH.cons rfl (fun K hK => ?_) AllReadyH.nil)
         ·go_simp
          refine (HB.out _ _ _ mL).mono ?_
          rintro _ V4 ⟨v8, v9, rfl, m1, m2, eB⟩
          have F4 : Ext W1 V4 := F3.trans eB
          replace mL := mL.ext eB
          replace X := X.ext eB
          refine hK.out _ _ (b2 (Bt.ext F4)) (fun hHeld => ?_)
          clear hK K eB F3
          obtain ⟨bm1, Am1, lm1, cm1, jm1, bm1', Am1', lm1', cm1', jm1', rfl⟩ := m1.form
          obtain ⟨bm2, Am2, lm2, cm2, jm2, bm2', Am2', lm2', cm2', jm2', rfl⟩ := m2.form
          clear mL
          refine wpAnyH_take (i := 9) (v := ?_) rfl (by as_aux_lemma => kernel_rfl) (by as_aux_lemma => kernel_rfl) (by as_aux_lemma => kernel_rfl) (fun _ _ _ h => h) (Or.inl ⟨by rfl, ?_⟩) (by assumption) ?_
          rotate_left
          · (intro w hSw; (try dsimp only at hSw); go_simp); (try with_reducible rfl)
          simp only [List.getElem_toArray, List.getElem_cons_zero, List.getElem_cons_succ, Act.put, List.setIfInBounds_toArray, List.set_cons_zero, List.set_cons_succ]
          refine wpAnyH_take (i := 10) (v := ?_) rfl (by as_aux_lemma => kernel_rfl) (by as_aux_lemma => kernel_rfl) (by as_aux_lemma => kernel_rfl) (fun _ _ _ h => h) (Or.inl ⟨by rfl, ?_⟩) (by assumption) ?_
          rotate_left
          · (intro w hSw; (try dsimp only at hSw); go_simp); (try with_reducible rfl)
          simp only [List.getElem_toArray, List.getElem_cons_zero, List.getElem_cons_succ, Act.put, List.setIfInBounds_toArray, List.set_cons_zero, List.set_cons_succ]
          refine wpAnyH_take (i := 11) (v := ?_) rfl (by as_aux_lemma => kernel_rfl) (by as_aux_lemma => kernel_rfl) (by as_aux_lemma => kernel_rfl) (fun _ _ _ h => h) (Or.inl ⟨by rfl, ?_⟩) (by assumption) ?_
          rotate_left
          · (intro w hSw; (try dsimp only at hSw); go_simp); (try with_reducible rfl)
          simp only [List.getElem_toArray, List.getElem_cons_zero, List.getElem_cons_succ, Act.put, List.setIfInBounds_toArray, List.set_cons_zero, List.set_cons_succ]
          refine wpAnyH_ready (rs := [13]) (by as_aux_lemma => kernel_rfl) (by simp) ?_
          refine AllReadyH.cons rfl (fun K hK => ?_) AllReadyH.nil
          go_simp
          have eY : Ext V4 (V4.alloc (.cells #[.bool false, .slice none 0 0, .int .i64 0, .bool false, .slice none 0 0, .int .i64 0] 33)) := (Ext.refl _).alloc _
          have F5 : Ext W1 (V4.alloc (.cells #[.bool false, .slice none 0 0, .int .i64 0, .bool false, .slice none 0 0, .int .i64 0] 33)) := F4.trans eY
          refine hK.out _ _ (b2 (Bt.ext F5)) (fun hHeld => ?_)
          clear hK K
          have tYX := World.block_lt_of_cell? _ _ X.c0
          simp only at tYX
          replace m1 := m1.ext eY
          replace m2 := m2.ext eY
          replace X := X.ext eY
          have Y : Zi (V4.alloc (.cells #[.bool false, .slice none 0 0, .int .i64 0, .bool false, .slice none 0 0, .int .i64 0] 33)) V4.heap.size := Zi.new _ _
          have lY : W1.heap.size ≤ V4.heap.size := F4.size
          clear eY F4
          generalize hgen : V4.alloc (.cells #[.bool false, .slice none 0 0, .int .i64 0, .bool false, .slice none 0 0, .int .i64 0] 33) = V5 at *
          clear hgen
          generalize hgen : V4.heap.size = gY at *
          clear hgen
          have hXY : gX ≠ gY := by omega
          first | clear tYX | clear tXY
          revert hHeld
          revert m2
          revert m1
          revert lY
          revert lX
          revert hXY
          revert Y
          revert X
          revert F5
          revert bm2
          revert Am2
          revert lm2
          revert cm2
          revert jm2
          revert bm2'
          revert Am2'
          revert lm2'
          revert cm2'
          revert jm2'
          revert bm1
          revert Am1
          revert lm1
          revert cm1
          revert jm1
          revert bm1'
          revert Am1'
          revert lm1'
          revert cm1'
          revert jm1'
          revert v7
          revert gY
          revert gX
          revert V5
          exact REST.out
         ·go_simp
          have eY : Ext V3 (V3.alloc (.cells #[.bool false, .slice none 0 0, .int .i64 0, .bool false, .slice none 0 0, .int .i64 0] 33)) := (Ext.refl _).alloc _
          have F4 : Ext W1 (V3.alloc (.cells #[.bool false, .slice none 0 0, .int .i64 0, .bool false, .slice none 0 0, .int .i64 0] 33)) := F3.trans eY
          refine hK.out _ _ (b2 (Bt.ext F4)) (fun hHeld => ?_)
          clear hK K
          have tYX := World.block_lt_of_cell? _ _ X.c0
          simp only at tYX
          replace mL := mL.ext eY
          replace X := X.ext eY
          have Y : Zi (V3.alloc (.cells #[.bool false, .slice none 0 0, .int .i64 0, .bool false, .slice none 0 0, .int .i64 0] 33)) V3.heap.size := Zi.new _ _
          have lY : W1.heap.size ≤ V3.heap.size := F3.size
          clear eY F3
          generalize hgen : V3.alloc (.cells #[.bool false, .slice none 0 0, .int .i64 0, .bool false, .slice none 0 0, .int .i64 0] 33) = V4 at *
          clear hgen
          generalize hgen : V3.heap.size = gY at *
          clear hgen
          refine wpAnyH_ready (rs := [8]) (by as_aux_lemma => kernel_rfl) (by simp) ?_
          refine AllReadyH.cons rfl (fun K hK => ?_) AllReadyH.nil
          go_simp
          refine (HB.out _ _ _ mL).mono ?_
          rintro _ V5 ⟨v8, v9, rfl, m1, m2, eB⟩
          have F5 : Ext W1 V5 := F4.trans eB
          replace mL := mL.ext eB
          replace X := X.ext eB
          replace Y := Y.ext eB
          refine hK.out _ _ (b2 (Bt.ext F5)) (fun hHeld => ?_)
          clear hK K eB F4
          obtain ⟨bm1, Am1, lm1, cm1, jm1, bm1', Am1', lm1', cm1', jm1', rfl⟩ := m1.form
          obtain ⟨bm2, Am2, lm2, cm2, jm2, bm2', Am2', lm2', cm2', jm2', rfl⟩ := m2.form
          clear mL
          refine wpAnyH_take (i := 9) (v := ?_) rfl (by as_aux_lemma => kernel_rfl) (by as_aux_lemma => kernel_rfl) (by as_aux_lemma => kernel_rfl) (fun _ _ _ h => h) (Or.inl ⟨by rfl, ?_⟩) (by assumption) ?_
          rotate_left
          · (intro w hSw; (try dsimp only at hSw); go_simp); (try with_reducible rfl)
          simp only [List.getElem_toArray, List.getElem_cons_zero, List.getElem_cons_succ, Act.put, List.setIfInBounds_toArray, List.set_cons_zero, List.set_cons_succ]
          refine wpAnyH_take (i := 10) (v := ?_) rfl (by as_aux_lemma => kernel_rfl) (by as_aux_lemma => kernel_rfl) (by as_aux_lemma => kernel_rfl) (fun _ _ _ h => h) (Or.inl ⟨by rfl, ?_⟩) (by assumption) ?_
          rotate_left
          · (intro w hSw; (try dsimp only at hSw); go_simp); (try with_reducible rfl)
          simp only [List.getElem_toArray, List.getElem_cons_zero, List.getElem_cons_succ, Act.put, List.setIfInBounds_toArray, List.set_cons_zero, List.set_cons_succ]
          refine wpAnyH_take (i := 11) (v := ?_) rfl (by as_aux_lemma => kernel_rfl) (by as_aux_lemma => kernel_rfl) (by as_aux_lemma => kernel_rfl) (fun _ _ _ h => h) (Or.inl ⟨by rfl, ?_⟩) (by assumption) ?_
          rotate_left
          · (intro w hSw; (try dsimp only at hSw); go_simp); (try with_reducible rfl)
          simp only [List.getElem_toArray, List.getElem_cons_zero, List.getElem_cons_succ, Act.put, List.setIfInBounds_toArray, List.set_cons_zero, List.set_cons_succ]
          have hXY : gX ≠ gY := by omega
          first | clear tYX | clear tXY
          revert hHeld
          revert m2
          revert m1
          revert lY
          revert lX
          revert hXY
          revert Y
          revert X
          revert F5
          revert bm2
          revert Am2
          revert lm2
          revert cm2
          revert jm2
          revert bm2'
          revert Am2'
          revert lm2'
          revert cm2'
          revert jm2'
          revert bm1
          revert Am1
          revert lm1
          revert cm1
          revert jm1
          revert bm1'
          revert Am1'
          revert lm1'
          revert cm1'
          revert jm1'
          revert v7
          revert gY
          revert gX
          revert V5
          exact REST.out
        ·go_simp
         have eY : Ext V2 (V2.alloc (.cells #[.bool false, .slice none 0 0, .int .i64 0, .bool false, .slice none 0 0, .int .i64 0] 33)) := (Ext.refl _).alloc _
         have F3 : Ext W1 (V2.alloc (.cells #[.bool false, .slice none 0 0, .int .i64 0, .bool false, .slice none 0 0, .int .i64 0] 33)) := F2.trans eY
         refine hK.out _ _ (b2 (Bt.ext F3)) (fun hHeld => ?_)
         clear hK K
         replace mL := mL.ext eY
         have Y : Zi (V2.alloc (.cells #[.bool false, .slice none 0 0, .int .i64 0, .bool false, .slice none 0 0, .int .i64 0] 33)) V2.heap.size := Zi.new _ _
         have lY : W1.heap.size ≤ V2.heap.size := F2.size
         clear eY F2
         generalize hgen : V2.alloc (.cells #[.bool false, .slice none 0 0, .int .i64 0, .bool false, .slice none 0 0, .int .i64 0] 33) = V3 at *
         clear hgen
         generalize hgen : V2.heap.size = gY at *
         clear hgen
         refine wpAnyH_ready (rs := [8, 12]) (by as_aux_lemma => kernel_rfl) (by simp) ?_
         refine AllReadyH.cons rfl (fun K hK => ?_) (AllReadyH.cons rfl (fun K hK => ?_) AllReadyH.nil)
         ·go_simp
          refine (HB.out _ _ _ mL).mono ?_
          rintro _ V4 ⟨v8, v9, rfl, m1, m2, eB⟩
          have F4 : Ext W1 V4 := F3.trans eB
          replace mL := mL.ext eB
          replace Y := Y.ext eB
          refine hK.out _ _ (b2 (Bt.ext F4)) (fun hHeld => ?_)
          clear hK K eB F3
          obtain ⟨bm1, Am1, lm1, cm1, jm1, bm1', Am1', lm1', cm1', jm1', rfl⟩ := m1.form
          obtain ⟨bm2, Am2, lm2, cm2, jm2, bm2', Am2', lm2', cm2', jm2', rfl⟩ := m2.form
          clear mL
          refine wpAnyH_take (i := 9) (v := ?_) rfl (by as_aux_lemma => kernel_rfl) (by as_aux_lemma => kernel_rfl) (by as_aux_lemma => kernel_rfl) (fun _ _ _ h => h) (Or.inl ⟨by rfl, ?_⟩) (by assumption) ?_
          rotate_left
          · (intro w hSw; (try dsimp only at hSw); go_simp); (try with_reducible rfl)
          simp only [List.getElem_toArray, List.getElem_cons_zero, List.getElem_cons_succ, Act.put, List.setIfInBounds_toArray, List.set_cons_zero, List.set_cons_succ]
          refine wpAnyH_take (i := 10) (v := ?_) rfl (by as_aux_lemma => kernel_rfl) (by as_aux_lemma => kernel_rfl) (by as_aux_lemma => kernel_rfl) (fun _ _ _ h => h) (Or.inl ⟨by rfl, ?_⟩) (by assumption) ?_
          rotate_left
          · (intro w hSw; (try dsimp only at hSw); go_simp); (try with_reducible rfl)
          simp only [List.getElem_toArray, List.getElem_cons_zero, List.getElem_cons_succ, Act.put, List.setIfInBounds_toArray, List.set_cons_zero, List.set_cons_succ]
          refine wpAnyH_take (i := 11) (v := ?_) rfl (by as_aux_lemma => kernel_rfl) (by as_aux_lemma => kernel_rfl) (by as_aux_lemma => kernel_rfl) (fun _ _ _ h => h) (Or.inl ⟨by rfl, ?_⟩) (by assumption) ?_
          rotate_left
          · (intro w hSw; (try dsimp only at hSw); go_simp); (try with_reducible rfl)
          simp only [List.getElem_toArray, List.getElem_cons_zero, List.getElem_cons_succ, Act.put, List.setIfInBounds_toArray, List.set_cons_zero, List.set_cons_succ]
          refine wpAnyH_ready (rs := [12]) (by as_aux_lemma => kernel_rfl) (by simp) ?_
          refine AllReadyH.cons rfl (fun K hK => ?_) AllReadyH.nil
          go_simp
          have eX : Ext V4 (V4.alloc (.cells #[.bool false, .slice none 0 0, .int .i64 0, .bool false, .slice none 0 0, .int .i64 0] 33)) := (Ext.refl _).alloc _
          have F5 : Ext W1 (V4.alloc (.cells #[.bool false, .slice none 0 0, .int .i64 0, .bool false, .slice none 0 0, .int .i64 0] 33)) := F4.trans eX
          refine hK.out _ _ (b2 (Bt.ext F5)) (fun hHeld => ?_)
          clear hK K
          have tXY := World.block_lt_of_cell? _ _ Y.c0
          simp only at tXY
          replace m1 := m1.ext eX
          replace m2 := m2.ext eX
          replace Y := Y.ext eX
          have X : Zi (V4.alloc (.cells #[.bool false, .slice none 0 0, .int .i64 0, .bool false, .slice none 0 0, .int .i64 0] 33)) V4.heap.size := Zi.new _ _
          have lX : W1.heap.size ≤ V4.heap.size := F4.size
          clear eX F4
          generalize hgen : V4.alloc (.cells #[.bool false, .slice none 0 0, .int .i64 0, .bool false, .slice none 0 0, .int .i64 0] 33) = V5 at *
          clear hgen
          generalize hgen : V4.heap.size = gX at *
          clear hgen
          have hXY : gX ≠ gY := by omega
          first | clear tYX | clear tXY
          revert hHeld
          revert m2
          revert m1
          revert lY
          revert lX
          revert hXY
          revert Y
          revert X
          revert F5
          revert bm2
          revert Am2
          revert lm2
          revert cm2
          revert jm2
          revert bm2'
          revert Am2'
          revert lm2'
          revert cm2'
          revert jm2'
          revert bm1
          revert Am1
          revert lm1
          revert cm1
          revert jm1
          revert bm1'
          revert Am1'
          revert lm1'
          revert cm1'
          revert jm1'
          revert v7
          revert gY
          revert gX
          revert V5
          exact REST.out
         ·go_simp
          have eX : Ext V3 (V3.alloc (.cells #[.bool false, .slice none 0 0, .int .i64 0, .bool false, .slice none 0 0, .int .i64 0] 33)) := (Ext.refl _).alloc _
          have F4 : Ext W1 (V3.alloc (.cells #[.bool false, .slice none 0 0, .int .i64 0, .bool false, .slice none 0 0, .int .i64 0] 33)) := F3.trans eX
          refine hK.out _ _ (b2 (Bt.ext F4)) (fun hHeld => ?_)
          clear hK K
          have tXY := World.block_lt_of_cell? _ _ Y.c0
          simp only at tXY
          replace mL := mL.ext eX
          replace Y := Y.ext eX
          have X : Zi (V3.alloc (.cells #[.bool false, .slice none 0 0, .int .i64 0, .bool false, .slice none 0 0, .int .i64 0] 33)) V3.heap.size := Zi.new _ _
          have lX : W1.heap.size ≤ V3.heap.size := F3.size
          clear eX F3
          generalize hgen : V3.alloc (.cells #[.bool false, .slice none 0 0, .int .i64 0, .bool false, .slice none 0 0, .int .i64 0] 33) = V4 at *
          clear hgen
          generalize hgen : V3.heap.size = gX at *
          clear hgen
          refine wpAnyH_ready (rs := [8]) (by as_aux_lemma => kernel_rfl) (by simp) ?_
          refine AllReadyH.cons rfl (fun K hK => ?_) AllReadyH.nil
          go_simp
          refine (HB.out _ _ _ mL).mono ?_
          rintro _ V5 ⟨v8, v9, rfl, m1, m2, eB⟩
          have F5 : Ext W1 V5 := F4.trans eB
          replace mL := mL.ext eB
          replace Y := Y.ext eB
          replace X := X.ext eB
          refine hK.out _ _ (b2 (Bt.ext F5)) (fun hHeld => ?_)
          clear hK K eB F4
          obtain ⟨bm1, Am1, lm1, cm1, jm1, bm1', Am1', lm1', cm1', jm1', rfl⟩ := m1.form
          obtain ⟨bm2, Am2, lm2, cm2, jm2, bm2', Am2', lm2', cm2', jm2', rfl⟩ := m2.form
          clear mL
          refine wpAnyH_take (i := 9) (v := ?_) rfl (by as_aux_lemma => kernel_rfl) (by as_aux_lemma => kernel_rfl) (by as_aux_lemma => kernel_rfl) (fun _ _ _ h => h) (Or.inl ⟨by rfl, ?_⟩) (by assumption) ?_
          rotate_left
          · (intro w hSw; (try dsimp only at hSw); go_simp); (try with_reducible rfl)
          simp only [List.getElem_toArray, List.getElem_cons_zero, List.getElem_cons_succ, Act.put, List.setIfInBounds_toArray, List.set_cons_zero, List.set_cons_succ]
          refine wpAnyH_take (i := 10) (v := ?_) rfl (by as_aux_lemma => kernel_rfl) (by as_aux_lemma => kernel_rfl) (by as_aux_lemma => kernel_rfl) (fun _ _ _ h => h) (Or.inl ⟨by rfl, ?_⟩) (by assumption) ?_
          rotate_left
          · (intro w hSw; (try dsimp only at hSw); go_simp); (try with_reducible rfl)
          simp only [List.getElem_toArray, List.getElem_cons_zero, List.getElem_cons_succ, Act.put, List.setIfInBounds_toArray, List.set_cons_zero, List.set_cons_succ]
          refine wpAnyH_take (i := 11) (v := ?_) rfl (by as_aux_lemma => kernel_rfl) (by as_aux_lemma => kernel_rfl) (by as_aux_lemma => kernel_rfl) (fun _ _ _ h => h) (Or.inl ⟨by rfl, ?_⟩) (by assumption) ?_
          rotate_left
          · (intro w hSw; (try dsimp only at hSw); go_simp); (try with_reducible rfl)
          simp only [List.getElem_toArray, List.getElem_cons_zero, List.getElem_cons_succ, Act.put, List.setIfInBounds_toArray, List.set_cons_zero, List.set_cons_succ]
          have hXY : gX ≠ gY := by omega
          first | clear tYX | clear tXY
          revert hHeld
          revert m2
          revert m1
          revert lY
          revert lX
          revert hXY
          revert Y
          revert X
          revert F5
          revert bm2
          revert Am2
          revert lm2
          revert cm2
          revert jm2
          revert bm2'
          revert Am2'
          revert lm2'
          revert cm2'
          revert jm2'
          revert bm1
          revert Am1
          revert lm1
          revert cm1
          revert jm1
          revert bm1'
          revert Am1'
          revert lm1'
          revert cm1'
          revert jm1'
          revert v7
          revert gY
          revert gX
          revert V5
          exact REST.out
       ·go_simp
        have eX : Ext V1 (V1.alloc (.cells #[.bool false, .slice none 0 0, .int .i64 0, .bool false, .slice none 0 0, .int .i64 0] 33)) := (Ext.refl _).alloc _
        have F2 : Ext W1 (V1.alloc (.cells #[.bool false, .slice none 0 0, .int .i64 0, .bool false, .slice none 0 0, .int .i64 0] 33)) := F1.trans eX
        refine hK.out _ _ (b2 (Bt.ext F2)) (fun hHeld => ?_)
        clear hK K
        have X : Zi (V1.alloc (.cells #[.bool false, .slice none 0 0, .int .i64 0, .bool false, .slice none 0 0, .int .i64 0] 33)) V1.heap.size := Zi.new _ _
        have lX : W1.heap.size ≤ V1.heap.size := F1.size
        clear eX F1
        generalize hgen : V1.alloc (.cells #[.bool false, .slice none 0 0, .int .i64 0, .bool false, .slice none 0 0, .int .i64 0] 33) = V2 at *
        clear hgen
        generalize hgen : V1.heap.size = gX at *
        clear hgen
        refine wpAnyH_ready (rs := [7, 13]) (by as_aux_lemma => kernel_rfl) (by simp) ?_
        refine AllReadyH.cons rfl (fun K hK => ?_) (AllReadyH.cons rfl (fun K hK => ?_) AllReadyH.nil)
        ·go_simp
         refine (HH.out _).mono ?_
         rintro _ V3 ⟨v7, rfl, mL, eH⟩
         have F3 : Ext W1 V3 := F2.trans eH
         replace X := X.ext eH
         refine hK.out _ _ (b2 (Bt.ext F3)) (fun hHeld => ?_)
         clear hK K eH F2
         refine wpAnyH_ready (rs := [8, 13]) (by as_aux_lemma => kernel_rfl) (by simp) ?_
         refine AllReadyH.cons rfl (fun K hK => ?_) (AllReadyH.cons rfl (fun K hK => ?_) AllReadyH.nil)
         ·go_simp
          refine (HB.out _ _ _ mL).mono ?_
          rintro _ V4 ⟨v8, v9, rfl, m1, m2, eB⟩
          have F4 : Ext W1 V4 := F3.trans eB
          replace mL := mL.ext eB
          replace X := X.ext eB
          refine hK.out _ _ (b2 (Bt.ext F4)) (fun hHeld => ?_)
          clear hK K eB F3
          obtain ⟨bm1, Am1, lm1, cm1, jm1, bm1', Am1', lm1', cm1', jm1', rfl⟩ := m1.form
          obtain ⟨bm2, Am2, lm2, cm2, jm2, bm2', Am2', lm2', cm2', jm2', rfl⟩ := m2.form
          clear mL
          refine wpAnyH_take (i := 9) (v := ?_) rfl (by as_aux_lemma => kernel_rfl) (by as_aux_lemma => kernel_rfl) (by as_aux_lemma => kernel_rfl) (fun _ _ _ h => h) (Or.inl ⟨by rfl, ?_⟩) (by assumption) ?_
          rotate_left
          · (intro w hSw; (try dsimp only at hSw); go_simp); (try with_reducible rfl)
          simp only [List.getElem_toArray, List.getElem_cons_zero, List.getElem_cons_succ, Act.put, List.setIfInBounds_toArray, List.set_cons_zero, List.set_cons_succ]
          refine wpAnyH_take (i := 10) (v := ?_) rfl (by as_aux_lemma => kernel_rfl) (by as_aux_lemma => kernel_rfl) (by as_aux_lemma => kernel_rfl) (fun _ _ _ h => h) (Or.inl ⟨by rfl, ?_⟩) (by assumption) ?_
          rotate_left
          · (intro w hSw; (try dsimp only at hSw); go_simp); (try with_reducible rfl)
          simp only [List.getElem_toArray, List.getElem_cons_zero, List.getElem_cons_succ, Act.put, List.setIfInBounds_toArray, List.set_cons_zero, List.set_cons_succ]
          refine wpAnyH_take (i := 11) (v := ?_) rfl (by as_aux_lemma => kernel_rfl) (by as_aux_lemma => kernel_rfl) (by as_aux_lemma => kernel_rfl) (fun _ _ _ h => h) (Or.inl ⟨by rfl, ?_⟩) (by assumption) ?_
          rotate_left
          · (intro w hSw; (try dsimp only at hSw); go_simp); (try with_reducible rfl)
          simp only [List.getElem_toArray, List.getElem_cons_zero, List.getElem_cons_succ, Act.put, List.setIfInBounds_toArray, List.set_cons_zero, List.set_cons_succ]
          refine wpAnyH_ready (rs := [13]) (by as_aux_lemma => kernel_rfl) (by simp) ?_
          refine AllReadyH.cons rfl (fun K hK => ?_) AllReadyH.nil
          go_simp
          have eY : Ext V4 (V4.alloc (.cells #[.bool false, .slice none 0 0, .int .i64 0, .bool false, .slice none 0 0, .int .i64 0] 33)) := (Ext.refl _).alloc _
          have F5 : Ext W1 (V4.alloc (.cells #[.bool false, .slice none 0 0, .int .i64 0, .bool false, .slice none 0 0, .int .i64 0] 33)) := F4.trans eY
          refine hK.out _ _ (b2 (Bt.ext F5)) (fun hHeld => ?_)
          clear hK K
          have tYX := World.block_lt_of_cell? _ _ X.c0
          simp only at tYX
          replace m1 := m1.ext eY
          replace m2 := m2.ext eY
          replace X := X.ext eY
          have Y : Zi (V4.alloc (.cells #[.bool false, .slice none 0 0, .int .i64 0, .bool false, .slice none 0 0, .int .i64 0] 33)) V4.heap.size := Zi.new _ _
          have lY : W1.heap.size ≤ V4.heap.size := F4.size
          clear eY F4
          generalize hgen : V4.alloc (.cells #[.bool false, .slice none 0 0, .int .i64 0, .bool false, .slice none 0 0, .int .i64 0] 33) = V5 at *
          clear hgen
          generalize hgen : V4.heap.size = gY at *
          clear hgen
          have hXY : gX ≠ gY := by omega
          first | clear tYX | clear tXY
          revert hHeld
          revert m2
          revert m1
          revert lY
          revert lX
          revert hXY
          revert Y
          revert X
          revert F5
          revert bm2
          revert Am2
          revert lm2
          revert cm2
          revert jm2
          revert bm2'
          revert Am2'
          revert lm2'
          revert cm2'
          revert jm2'
          revert bm1
          revert Am1
          revert lm1
          revert cm1
          revert jm1
          revert bm1'
          revert Am1'
          revert lm1'
          revert cm1'
          revert jm1'
          revert v7
          revert gY
          revert gX
          revert V5
          exact REST.out
         ·go_simp
          have eY : Ext V3 (V3.alloc (.cells #[.bool false, .slice none 0 0, .int .i64 0, .bool false, .slice none 0 0, .int .i64 0] 33)) := (Ext.refl _).alloc _
          have F4 : Ext W1 (V3.alloc (.cells #[.bool false, .slice none 0 0, .int .i64 0, .bool false, .slice none 0 0, .int .i64 0] 33)) := F3.trans eY
          refine hK.out _ _ (b2 (Bt.ext F4)) (fun hHeld => ?_)
          clear hK K
          have tYX := World.block_lt_of_cell? _ _ X.c0
          simp only at tYX
          replace mL := mL.ext eY
          replace X := X.ext eY
          have Y : Zi (V3.alloc (.cells #[.bool false, .slice none 0 0, .int .i64 0, .bool false, .slice none 0 0, .int .i64 0] 33)) V3.heap.size := Zi.new _ _
          have lY : W1.heap.size ≤ V3.heap.size := F3.size
          clear eY F3
          generalize hgen : V3.alloc (.cells #[.bool false, .slice none 0 0, .int .i64 0, .bool false, .slice none 0 0, .int .i64 0] 33) = V4 at *
          clear hgen
          generalize hgen : V3.heap.size = gY at *
          clear hgen
          refine wpAnyH_ready (rs := [8]) (by as_aux_lemma => kernel_rfl) (by simp) ?_
          refine AllReadyH.cons rfl (fun K hK => ?_) AllReadyH.nil
          go_simp
          refine (HB.out _ _ _ mL).mono ?_
          rintro _ V5 ⟨v8, v9, rfl, m1, m2, eB⟩
          have F5 : Ext W1 V5 := F4.trans eB
          replace mL := mL.ext eB
          replace X := X.ext eB
          replace Y := Y.ext eB
          refine hK.out _ _ (b2 (Bt.ext F5)) (fun hHeld => ?_)
          clear hK K eB F4
          obtain ⟨bm1, Am1, lm1, cm1, jm1, bm1', Am1', lm1', cm1', jm1', rfl⟩ := m1.form
          obtain ⟨bm2, Am2, lm2, cm2, jm2, bm2', Am2', lm2', cm2', jm2', rfl⟩ := m2.form
          clear mL
          refine wpAnyH_take (i := 9) (v := ?_) rfl (by as_aux_lemma => kernel_rfl) (by as_aux_lemma => kernel_rfl) (by as_aux_lemma => kernel_rfl) (fun _ _ _ h => h) (Or.inl ⟨by rfl, ?_⟩) (by assumption) ?_
          rotate_left
          · (intro w hSw; (try dsimp only at hSw); go_simp); (try with_reducible rfl)
          simp only [List.getElem_toArray, List.getElem_cons_zero, List.getElem_cons_succ, Act.put, List.setIfInBounds_toArray, List.set_cons_zero, List.set_cons_succ]
          refine wpAnyH_take (i := 10) (v := ?_) rfl (by as_aux_lemma => kernel_rfl) (by as_aux_lemma => kernel_rfl) (by as_aux_lemma => kernel_rfl) (fun _ _ _ h => h) (Or.inl ⟨by rfl, ?_⟩) (by assumption) ?_
          rotate_left
          · (intro w hSw; (try dsimp only at hSw); go_simp); (try with_reducible rfl)
          simp only [List.getElem_toArray, List.getElem_cons_zero, List.getElem_cons_succ, Act.put, List.setIfInBounds_toArray, List.set_cons_zero, List.set_cons_succ]
          refine wpAnyH_take (i := 11) (v := ?_) rfl (by as_aux_lemma => kernel_rfl) (by as_aux_lemma => kernel_rfl) (by as_aux_lemma => kernel_rfl) (fun _ _ _ h => h) (Or.inl ⟨by rfl, ?_⟩) (by assumption) ?_
          rotate_left
          · (intro w hSw; (try dsimp only at hSw); go_simp); (try with_reducible rfl)
          simp only [List.getElem_toArray, List.getElem_cons_zero, List.getElem_cons_succ, Act.put, List.setIfInBounds_toArray, List.set_cons_zero, List.set_cons_succ]
          have hXY : gX ≠ gY := by omega
          first | clear tYX | clear tXY
          revert hHeld
          revert m2
          revert m1
          revert lY
          revert lX
          revert hXY
          revert Y
          revert X
          revert F5
          revert bm2
          revert Am2
          revert lm2
          revert cm2
          revert jm2
          revert bm2'
          revert Am2'
          revert lm2'
          revert cm2'
          revert jm2'
          revert bm1
          revert Am1
          revert lm1
          revert cm1
          revert jm1
          revert bm1'
          revert Am1'
          revert lm1'
          revert cm1'
          revert jm1'
          revert v7
          revert gY
          revert gX
          revert V5
          exact REST.out
        ·go_simp
         have eY : Ext V2 (V2.alloc (.cells #[.bool false, .slice none 0 0, .int .i64 0, .bool false, .slice none 0 0, .int .i64 0] 33)) := (Ext.refl _).alloc _
         have F3 : Ext W1 (V2.alloc (.cells #[.bool false, .slice none 0 0, .int .i64 0, .bool false, .slice none 0 0, .int .i64 0] 33)) := F2.trans eY
         refine hK.out _ _ (b2 (Bt.ext F3)) (fun hHeld => ?_)
         clear hK K
         have tYX := World.block_lt_of_cell? _ _ X.c0
         simp only at tYX
         replace X := X.ext eY
         have Y : Zi (V2.alloc (.cells #[.bool false, .slice none 0 0, .int .i64 0, .bool false, .slice none 0 0, .int .i64 0] 33)) V2.heap.size := Zi.new _ _
         have lY : W1.heap.size ≤ V2.heap.size := F2.size
         clear eY F2
         generalize hgen : V2.alloc (.cells #[.bool false, .slice none 0 0, .int .i64 0, .bool false, .slice none 0 0, .int .i64 0] 33) = V3 at *
         clear hgen
         generalize hgen : V2.heap.size = gY at *
         clear hgen
         refine wpAnyH_ready (rs := [7]) (by as_aux_lemma => kernel_rfl) (by simp) ?_
         refine AllReadyH.cons rfl (fun K hK => ?_) AllReadyH.nil
         go_simp
         refine (HH.out _).mono ?_
         rintro _ V4 ⟨v7, rfl, mL, eH⟩
         have F4 : Ext W1 V4 := F3.trans eH
         replace X := X.ext eH
         replace Y := Y.ext eH
         refine hK.out _ _ (b2 (Bt.ext F4)) (fun hHeld => ?_)
         clear hK K eH F3
         refine wpAnyH_ready (rs := [8]) (by as_aux_lemma => kernel_rfl) (by simp) ?_
         refine AllReadyH.cons rfl (fun K hK => ?_) AllReadyH.nil
         go_simp
         refine (HB.out _ _ _ mL).mono ?_
         rintro _ V5 ⟨v8, v9, rfl, m1, m2, eB⟩
         have F5 : Ext W1 V5 := F4.trans eB
         replace mL := mL.ext eB
         replace X := X.ext eB
         replace Y := Y.ext eB
         refine hK.out _ _ (b2 (Bt.ext F5)) (fun hHeld => ?_)
         clear hK K eB F4
         obtain ⟨bm1, Am1, lm1, cm1, jm1, bm1', Am1', lm1', cm1', jm1', rfl⟩ := m1.form
         obtain ⟨bm2, Am2, lm2, cm2, jm2, bm2', Am2', lm2', cm2', jm2', rfl⟩ := m2.form
         clear mL
         refine wpAnyH_take (i := 9) (v := ?_) rfl (by as_aux_lemma => kernel_rfl) (by as_aux_lemma => kernel_rfl) (by as_aux_lemma => kernel_rfl) (fun _ _ _ h => h) (Or.inl ⟨by rfl, ?_⟩) (by assumption) ?_
         rotate_left
         · (intro w hSw; (try dsimp only at hSw); go_simp); (try with_reducible rfl)
         simp only [List.getElem_toArray, List.getElem_cons_zero, List.getElem_cons_succ, Act.put, List.setIfInBounds_toArray, List.set_cons_zero, List.set_cons_succ]
         refine wpAnyH_take (i := 10) (v := ?_) rfl (by as_aux_lemma => kernel_rfl) (by as_aux_lemma => kernel_rfl) (by as_aux_lemma => kernel_rfl) (fun _ _ _ h => h) (Or.inl ⟨by rfl, ?_⟩) (by assumption) ?_
         rotate_left
         · (intro w hSw; (try dsimp only at hSw); go_simp); (try with_reducible rfl)
         simp only [List.getElem_toArray, List.getElem_cons_zero, List.getElem_cons_succ, Act.put, List.setIfInBounds_toArray, List.set_cons_zero, List.set_cons_succ]
         refine wpAnyH_take (i := 11) (v := ?_) rfl (by as_aux_lemma => kernel_rfl) (by as_aux_lemma => kernel_rfl) (by as_aux_lemma => kernel_rfl) (fun _ _ _ h => h) (Or.inl ⟨by rfl, ?_⟩) (by assumption) ?_
         rotate_left
         · (intro w hSw; (try dsimp only at hSw); go_simp); (try with_reducible rfl)
         simp only [List.getElem_toArray, List.getElem_cons_zero, List.getElem_cons_succ, Act.put, List.setIfInBounds_toArray, List.set_cons_zero, List.set_cons_succ]
         have hXY : gX ≠ gY := by omega
         first | clear tYX | clear tXY
         revert hHeld
         revert m2
         revert m1
         revert lY
         revert lX
         revert hXY
         revert Y
         revert X
         revert F5
         revert bm2
         revert Am2
         revert lm2
         revert cm2
         revert jm2
         revert bm2'
         revert Am2'
         revert lm2'
         revert cm2'
         revert jm2'
         revert bm1
         revert Am1
         revert lm1
         revert cm1
         revert jm1
         revert bm1'
         revert Am1'
         revert lm1'
         revert cm1'
         revert jm1'
         revert v7
         revert gY
         revert gX
         revert V5
         exact REST.out
       ·go_simp
        have eY : Ext V1 (V1.alloc (.cells #[.bool false, .slice none 0 0, .int .i64 0, .bool false, .slice none 0 0, .int .i64 0] 33)) := (Ext.refl _).alloc _
        have F2 : Ext W1 (V1.alloc (.cells #[.bool false, .slice none 0 0, .int .i64 0, .bool false, .slice none 0 0, .int .i64 0] 33)) := F1.trans eY
        refine hK.out _ _ (b2 (Bt.ext F2)) (fun hHeld => ?_)
        clear hK K
        have Y : Zi (V1.alloc (.cells #[.bool false, .slice none 0 0, .int .i64 0, .bool false, .slice none 0 0, .int .i64 0] 33)) V1.heap.size := Zi.new _ _
        have lY : W1.heap.size ≤ V1.heap.size := F1.size
        clear eY F1
        generalize hgen : V1.alloc (.cells #[.bool false, .slice none 0 0, .int .i64 0, .bool false, .slice none 0 0, .int .i64 0] 33) = V2 at *
        clear hgen
        generalize hgen : V1.heap.size = gY at *
        clear hgen
        refine wpAnyH_ready (rs := [7, 12]) (by as_aux_lemma => kernel_rfl) (by simp) ?_
        refine AllReadyH.cons rfl (fun K hK => ?_) (AllReadyH.cons rfl (fun K hK => ?_) AllReadyH.nil)
        ·go_simp
         refine (HH.out _).mono ?_
         rintro _ V3 ⟨v7, rfl, mL, eH⟩
         have F3 : Ext W1 V3 := F2.trans eH
         replace Y := Y.ext eH
         refine hK.out _ _ (b2 (Bt.ext F3)) (fun hHeld => ?_)
         clear hK K eH F2
         refine wpAnyH_ready (rs := [8, 12]) (by as_aux_lemma => kernel_rfl) (by simp) ?_
         refine AllReadyH.cons rfl (fun K hK => ?_) (AllReadyH.cons rfl (fun K hK => ?_) AllReadyH.nil)
         ·go_simp
          refine (HB.out _ _ _ mL).mono ?_
          rintro _ V4 ⟨v8, v9, rfl, m1, m2, eB⟩
          have F4 : Ext W1 V4 := F3.trans eB
          replace mL := mL.ext eB
          replace Y := Y.ext eB
          refine hK.out _ _ (b2 (Bt.ext F4)) (fun hHeld => ?_)
          clear hK K eB F3
          obtain ⟨bm1, Am1, lm1, cm1, jm1, bm1', Am1', lm1', cm1', jm1', rfl⟩ := m1.form
          obtain ⟨bm2, Am2, lm2, cm2, jm2, bm2', Am2', lm2', cm2', jm2', rfl⟩ := m2.form
          clear mL
          refine wpAnyH_take (i := 9) (v := ?_) rfl (by as_aux_lemma => kernel_rfl) (by as_aux_lemma => kernel_rfl) (by as_aux_lemma => kernel_rfl) (fun _ _ _ h => h) (Or.inl ⟨by rfl, ?_⟩) (by assumption) ?_
          rotate_left
          · (intro w hSw; (try dsimp only at hSw); go_simp); (try with_reducible rfl)
          simp only [List.getElem_toArray, List.getElem_cons_zero, List.getElem_cons_succ, Act.put, List.setIfInBounds_toArray, List.set_cons_zero, List.set_cons_succ]
          refine wpAnyH_take (i := 10) (v := ?_) rfl (by as_aux_lemma => kernel_rfl) (by as_aux_lemma => kernel_rfl) (by as_aux_lemma => kernel_rfl) (fun _ _ _ h => h) (Or.inl ⟨by rfl, ?_⟩) (by assumption) ?_
          rotate_left
          · (intro w hSw; (try dsimp only at hSw); go_simp); (try with_reducible rfl)
          simp only [List.getElem_toArray, List.getElem_cons_zero, List.getElem_cons_succ, Act.put, List.setIfInBounds_toArray, List.set_cons_zero, List.set_cons_succ]
          refine wpAnyH_take (i := 11) (v := ?_) rfl (by as_aux_lemma => kernel_rfl) (by as_aux_lemma => kernel_rfl) (by as_aux_lemma => kernel_rfl) (fun _ _ _ h => h) (Or.inl ⟨by rfl, ?_⟩) (by assumption) ?_
          rotate_left
          · (intro w hSw; (try dsimp only at hSw); go_simp); (try with_reducible rfl)
          simp only [List.getElem_toArray, List.getElem_cons_zero, List.getElem_cons_succ, Act.put, List.setIfInBounds_toArray, List.set_cons_zero, List.set_cons_succ]
          refine wpAnyH_ready (rs := [12]) (by as_aux_lemma => kernel_rfl) (by simp) ?_
          refine AllReadyH.cons rfl (fun K hK => ?_) AllReadyH.nil
          go_simp
          have eX : Ext V4 (V4.alloc (.cells #[.bool false, .slice none 0 0, .int .i64 0, .bool false, .slice none 0 0, .int .i64 0] 33)) := (Ext.refl _).alloc _
          have F5 : Ext W1 (V4.alloc (.cells #[.bool false, .slice none 0 0, .int .i64 0, .bool false, .slice none 0 0, .int .i64 0] 33)) := F4.trans eX
          refine hK.out _ _ (b2 (Bt.ext F5)) (fun hHeld => ?_)
          clear hK K
          have tXY := World.block_lt_of_cell? _ _ Y.c0
          simp only at tXY
          replace m1 := m1.ext eX
          replace m2 := m2.ext eX
          replace Y := Y.ext eX
          have X : Zi (V4.alloc (.cells #[.bool false, .slice none 0 0, .int .i64 0, .bool false, .slice none 0 0, .int .i64 0] 33)) V4.heap.size := Zi.new _ _
          have lX : W1.heap.size ≤ V4.heap.size := F4.size
          clear eX F4
          generalize hgen : V4.alloc (.cells #[.bool false, .slice none 0 0, .int .i64 0, .bool false, .slice none 0 0, .int .i64 0] 33) = V5 at *
          clear hgen
          generalize hgen : V4.heap.size = gX at *
          clear hgen
          have hXY : gX ≠ gY := by omega
          first | clear tYX | clear tXY
          revert hHeld
          revert m2
          revert m1
          revert lY
          revert lX
          revert hXY
          revert Y
          revert X
          revert F5
          revert bm2
          revert Am2
          revert lm2
          revert cm2
          revert jm2
          revert bm2'
          revert Am2'
          revert lm2'
          revert cm2'
          revert jm2'
          revert bm1
          revert Am1
          revert lm1
          revert cm1
          revert jm1
          revert bm1'
          revert Am1'
          revert lm1'
          revert cm1'
          revert jm1'
          revert v7
          revert gY
          revert gX
          revert V5
          exact REST.out
         ·go_simp
          have eX : Ext V3 (V3.alloc (.cells #[.bool false, .slice none 0 0, .int .i64 0, .bool false, .slice none 0 0, .int .i64 0] 33)) := (Ext.refl _).alloc _
          have F4 : Ext W1 (V3.alloc (.cells #[.bool false, .slice none 0 0, .int .i64 0, .bool false, .slice none 0 0, .int .i64 0] 33)) := F3.trans eX
          refine hK.out _ _ (b2 (Bt.ext F4)) (fun hHeld => ?_)
          clear hK K
          have tXY := World.block_lt_of_cell? _ _ Y.c0
          simp only at tXY
          replace mL := mL.ext eX
          replace Y := Y.ext eX
          have X : Zi (V3.alloc (.cells #[.bool false, .slice none 0 0, .int .i64 0, .bool false, .slice none 0 0, .int .i64 0] 33)) V3.heap.size := Zi.new _ _
          have lX : W1.heap.size ≤ V3.heap.size := F3.size
          clear eX F3
          generalize hgen : V3.alloc (.cells #[.bool false, .slice none 0 0, .int .i64 0, .bool false, .slice none 0 0, .int .i64 0] 33) = V4 at *
          clear hgen
          generalize hgen : V3.heap.size = gX at *
          clear hgen
          refine wpAnyH_ready (rs := [8]) (by as_aux_lemma => kernel_rfl) (by simp) ?_
          refine AllReadyH.cons rfl (fun K hK => ?_) AllReadyH.nil
          go_simp
          refine (HB.out _ _ _ mL).mono ?_
          rintro _ V5 ⟨v8, v9, rfl, m1, m2, eB⟩
          have F5 : Ext W1 V5 := F4.trans eB
          replace mL := mL.ext eB
          replace Y := Y.ext eB
          replace X := X.ext eB
          refine hK.out _ _ (b2 (Bt.ext F5)) (fun hHeld => ?_)
          clear hK K eB F4
          obtain ⟨bm1, Am1, lm1, cm1, jm1, bm1', Am1', lm1', cm1', jm1', rfl⟩ := m1.form
          obtain ⟨bm2, Am2, lm2, cm2, jm2, bm2', Am2', lm2', cm2', jm2', rfl⟩ := m2.form
          clear mL
          refine wpAnyH_take (i := 9) (v := ?_) rfl (by as_aux_lemma => kernel_rfl) (by as_aux_lemma => kernel_rfl) (by as_aux_lemma => kernel_rfl) (fun _ _ _ h => h) (Or.inl ⟨by rfl, ?_⟩) (by assumption) ?_
          rotate_left
          · (intro w hSw; (try dsimp only at hSw); go_simp); (try with_reducible rfl)
          simp only [List.getElem_toArray, List.getElem_cons_zero, List.getElem_cons_succ, Act.put, List.setIfInBounds_toArray, List.set_cons_zero, List.set_cons_succ]
          refine wpAnyH_take (i := 10) (v := ?_) rfl (by as_aux_lemma => kernel_rfl) (by as_aux_lemma => kernel_rfl) (by as_aux_lemma => kernel_rfl) (fun _ _ _ h => h) (Or.inl ⟨by rfl, ?_⟩) (by assumption) ?_
          rotate_left
          · (intro w hSw; (try dsimp only at hSw); go_simp); (try with_reducible rfl)
          simp only [List.getElem_toArray, List.getElem_cons_zero, List.getElem_cons_succ, Act.put, List.setIfInBounds_toArray, List.set_cons_zero, List.set_cons_succ]
          refine wpAnyH_take (i := 11) (v := ?_) rfl (by as_aux_lemma => kernel_rfl) (by as_aux_lemma => kernel_rfl) (by as_aux_lemma => kernel_rfl) (fun _ _ _ h => h) (Or.inl ⟨by rfl, ?_⟩) (by assumption) ?_
          rotate_left
          · (intro w hSw; (try dsimp only at hSw); go_simp); (try with_reducible rfl)
          simp only [List.getElem_toArray, List.getElem_cons_zero, List.getElem_cons_succ, Act.put, List.setIfInBounds_toArray, List.set_cons_zero, List.set_cons_succ]
          have hXY : gX ≠ gY := by omega
          first | clear tYX | clear tXY
          revert hHeld
          revert m2
          revert m1
          revert lY
          revert lX
          revert hXY
          revert Y
          revert X
          revert F5
          revert bm2
          revert Am2
          revert lm2
          revert cm2
          revert jm2
          revert bm2'
          revert Am2'
          revert lm2'
          revert cm2'
          revert jm2'
          revert bm1
          revert Am1
          revert lm1
          revert cm1
          revert jm1
          revert bm1'
          revert Am1'
          revert lm1'
          revert cm1'
          revert jm1'
          revert v7
          revert gY
          revert gX
          revert V5
          exact REST.out
        ·go_simp
         have eX : Ext V2 (V2.alloc (.cells #[.bool false, .slice none 0 0, .int .i64 0, .bool false, .slice none 0 0, .int .i64 0] 33)) := (Ext.refl _).alloc _
         have F3 : Ext W1 (V2.alloc (.cells #[.bool false, .slice none 0 0, .int .i64 0, .bool false, .slice none 0 0, .int .i64 0] 33)) := F2.trans eX
         refine hK.out _ _ (b2 (Bt.ext F3)) (fun hHeld => ?_)
         clear hK K
         have tXY := World.block_lt_of_cell? _ _ Y.c0
         simp only at tXY
         replace Y := Y.ext eX
         have X : Zi (V2.alloc (.cells #[.bool false, .slice none 0 0, .int .i64 0, .bool false, .slice none 0 0, .int .i64 0] 33)) V2.heap.size := Zi.new _ _
         have lX : W1.heap.size ≤ V2.heap.size := F2.size
         clear eX F2
         generalize hgen : V2.alloc (.cells #[.bool false, .slice none 0 0, .int .i64 0, .bool false, .slice none 0 0, .int .i64 0] 33) = V3 at *
         clear hgen
         generalize hgen : V2.heap.size = gX at *
         clear hgen
         refine wpAnyH_ready (rs := [7]) (by as_aux_lemma => kernel_rfl) (by simp) ?_
         refine AllReadyH.cons rfl (fun K hK => ?_) AllReadyH.nil
         go_simp
         refine (HH.out _).mono ?_
         rintro _ V4 ⟨v7, rfl, mL, eH⟩
         have F4 : Ext W1 V4 := F3.trans eH
         replace Y := Y.ext eH
         replace X := X.ext eH
         refine hK.out _ _ (b2 (Bt.ext F4)) (fun hHeld => ?_)
         clear hK K eH F3
         refine wpAnyH_ready (rs := [8]) (by as_aux_lemma => kernel_rfl) (by simp) ?_
         refine AllReadyH.cons rfl (fun K hK => ?_) AllReadyH.nil
         go_simp
         refine (HB.out _ _ _ mL).mono ?_
         rintro _ V5 ⟨v8, v9, rfl, m1, m2, eB⟩
         have F5 : Ext W1 V5 := F4.trans eB
         replace mL := mL.ext eB
         replace Y := Y.ext eB
         replace X := X.ext eB
         refine hK.out _ _ (b2 (Bt.ext F5)) (fun hHeld => ?_)
         clear hK K eB F4
         obtain ⟨bm1, Am1, lm1, cm1, jm1, bm1', Am1', lm1', cm1', jm1', rfl⟩ := m1.form
         obtain ⟨bm2, Am2, lm2, cm2, jm2, bm2', Am2', lm2', cm2', jm2', rfl⟩ := m2.form
         clear mL
         refine wpAnyH_take (i := 9) (v := ?_) rfl (by as_aux_lemma => kernel_rfl) (by as_aux_lemma => kernel_rfl) (by as_aux_lemma => kernel_rfl) (fun _ _ _ h => h) (Or.inl ⟨by rfl, ?_⟩) (by assumption) ?_
         rotate_left
         · (intro w hSw; (try dsimp only at hSw); go_simp); (try with_reducible rfl)
         simp only [List.getElem_toArray, List.getElem_cons_zero, List.getElem_cons_succ, Act.put, List.setIfInBounds_toArray, List.set_cons_zero, List.set_cons_succ]
         refine wpAnyH_take (i := 10) (v := ?_) rfl (by as_aux_lemma => kernel_rfl) (by as_aux_lemma => kernel_rfl) (by as_aux_lemma => kernel_rfl) (fun _ _ _ h => h) (Or.inl ⟨by rfl, ?_⟩) (by assumption) ?_
         rotate_left
         · (intro w hSw; (try dsimp only at hSw); go_simp); (try with_reducible rfl)
         simp only [List.getElem_toArray, List.getElem_cons_zero, List.getElem_cons_succ, Act.put, List.setIfInBounds_toArray, List.set_cons_zero, List.set_cons_succ]
         refine wpAnyH_take (i := 11) (v := ?_) rfl (by as_aux_lemma => kernel_rfl) (by as_aux_lemma => kernel_rfl) (by as_aux_lemma => kernel_rfl) (fun _ _ _ h => h) (Or.inl ⟨by rfl, ?_⟩) (by assumption) ?_
         rotate_left
         · (intro w hSw; (try dsimp only at hSw); go_simp); (try with_reducible rfl)
         simp only [List.getElem_toArray, List.getElem_cons_zero, List.getElem_cons_succ, Act.put, List.setIfInBounds_toArray, List.set_cons_zero, List.set_cons_succ]
         have hXY : gX ≠ gY := by omega
         first | clear tYX | clear tXY
         revert hHeld
         revert m2
         revert m1
         revert lY
         revert lX
         revert hXY
         revert Y
         revert X
         revert F5
         revert bm2
         revert Am2
         revert lm2
         revert cm2
         revert jm2
         revert bm2'
         revert Am2'
         revert lm2'
         revert cm2'
         revert jm2'
         revert bm1
         revert Am1
         revert lm1
         revert cm1
         revert jm1
         revert bm1'
         revert Am1'
         revert lm1'
         revert cm1'
         revert jm1'
         revert v7
         revert gY
         revert gX
         revert V5
         exact REST.out
      ·go_simp
       have eX : Ext V0 (V0.alloc (.cells #[.bool false, .slice none 0 0, .int .i64 0, .bool false, .slice none 0 0, .int .i64 0] 33)) := (Ext.refl _).alloc _
       have F1 : Ext W1 (V0.alloc (.cells #[.bool false, .slice none 0 0, .int .i64 0, .bool false, .slice none 0 0, .int .i64 0] 33)) := F0.trans eX
       refine hK.out _ _ (b2 (Bt.ext F1)) (fun hHeld => ?_)
       clear hK K
       have X : Zi (V0.alloc (.cells #[.bool false, .slice none 0 0, .int .i64 0, .bool false, .slice none 0 0, .int .i64 0] 33)) V0.heap.size := Zi.new _ _
       have lX : W1.heap.size ≤ V0.heap.size := F0.size
       clear eX
       generalize hgen : V0.alloc (.cells #[.bool false, .slice none 0 0, .int .i64 0, .bool false, .slice none 0 0, .int .i64 0] 33) = V1 at *
       clear hgen
       generalize hgen : V0.heap.size = gX at *
       clear hgen
       refine wpAnyH_ready (rs := [3, 13]) (by as_aux_lemma => kernel_rfl) (by simp) ?_
       refine AllReadyH.cons rfl (fun K hK => ?_) (AllReadyH.cons rfl (fun K hK => ?_) AllReadyH.nil)
       ·go_simp
        refine (HF.out _).mono ?_
        rintro _ V2 ⟨rfl, eF⟩
        have F2 : Ext W1 V2 := F1.trans eF
        replace X := X.ext eF
        refine hK.out _ _ (b2 (Bt.ext F2)) (fun hHeld => ?_)
        clear hK K eF F1
        refine wpAnyH_take (i := 4) (v := ?_) rfl (by as_aux_lemma => kernel_rfl) (by as_aux_lemma => kernel_rfl) (by as_aux_lemma => kernel_rfl) (fun _ _ _ h => h) (Or.inl ⟨by rfl, ?_⟩) (by assumption) ?_
        rotate_left
        · (intro w hSw; (try dsimp only at hSw); go_simp); (try with_reducible rfl)
        simp only [List.getElem_toArray, List.getElem_cons_zero, List.getElem_cons_succ, Act.put, List.setIfInBounds_toArray, List.set_cons_zero, List.set_cons_succ]
        refine wpAnyH_take (i := 5) (v := ?_) rfl (by as_aux_lemma => kernel_rfl) (by as_aux_lemma => kernel_rfl) (by as_aux_lemma => kernel_rfl) (fun _ _ _ h => h) (Or.inl ⟨by rfl, ?_⟩) (by assumption) ?_
        rotate_left
        · (intro w hSw; (try dsimp only at hSw); go_simp); (try with_reducible rfl)
        simp only [List.getElem_toArray, List.getElem_cons_zero, List.getElem_cons_succ, Act.put, List.setIfInBounds_toArray, List.set_cons_zero, List.set_cons_succ]
        refine wpAnyH_ready (rs := [7, 13]) (by as_aux_lemma => kernel_rfl) (by simp) ?_
        refine AllReadyH.cons rfl (fun K hK => ?_) (AllReadyH.cons rfl (fun K hK => ?_) AllReadyH.nil)
        ·go_simp
         refine (HH.out _).mono ?_
         rintro _ V3 ⟨v7, rfl, mL, eH⟩
         have F3 : Ext W1 V3 := F2.trans eH
         replace X := X.ext eH
         refine hK.out _ _ (b2 (Bt.ext F3)) (fun hHeld => ?_)
         clear hK K eH F2
         refine wpAnyH_ready (rs := [8, 13]) (by as_aux_lemma => kernel_rfl) (by simp) ?_
         refine AllReadyH.cons rfl (fun K hK => ?_) (AllReadyH.cons rfl (fun K hK => ?_) AllReadyH.nil)
         ·go_simp
          refine (HB.out _ _ _ mL).mono ?_
          rintro _ V4 ⟨v8, v9, rfl, m1, m2, eB⟩
          have F4 : Ext W1 V4 := F3.trans eB
          replace mL := mL.ext eB
          replace X := X.ext eB
          refine hK.out _ _ (b2 (Bt.ext F4)) (fun hHeld => ?_)
          clear hK K eB F3
          obtain ⟨bm1, Am1, lm1, cm1, jm1, bm1', Am1', lm1', cm1', jm1', rfl⟩ := m1.form
          obtain ⟨bm2, Am2, lm2, cm2, jm2, bm2', Am2', lm2', cm2', jm2', rfl⟩ := m2.form
          clear mL
          refine wpAnyH_take (i := 9) (v := ?_) rfl (by as_aux_lemma => kernel_rfl) (by as_aux_lemma => kernel_rfl) (by as_aux_lemma => kernel_rfl) (fun _ _ _ h => h) (Or.inl ⟨by rfl, ?_⟩) (by assumption) ?_
          rotate_left
          · (intro w hSw; (try dsimp only at hSw); go_simp); (try with_reducible rfl)
          simp only [List.getElem_toArray, List.getElem_cons_zero, List.getElem_cons_succ, Act.put, List.setIfInBounds_toArray, List.set_cons_zero, List.set_cons_succ]
          refine wpAnyH_take (i := 10) (v := ?_) rfl (by as_aux_lemma => kernel_rfl) (by as_aux_lemma => kernel_rfl) (by as_aux_lemma => kernel_rfl) (fun _ _ _ h => h) (Or.inl ⟨by rfl, ?_⟩) (by assumption) ?_
          rotate_left
          · (intro w hSw; (try dsimp only at hSw); go_simp); (try with_reducible rfl)
          simp only [List.getElem_toArray, List.getElem_cons_zero, List.getElem_cons_succ, Act.put, List.setIfInBounds_toArray, List.set_cons_zero, List.set_cons_succ]
          refine wpAnyH_take (i := 11) (v := ?_) rfl (by as_aux_lemma => kernel_rfl) (by as_aux_lemma => kernel_rfl) (by as_aux_lemma => kernel_rfl) (fun _ _ _ h => h) (Or.inl ⟨by rfl, ?_⟩) (by assumption) ?_
          rotate_left
          · (intro w hSw; (try dsimp only at hSw); go_simp); (try with_reducible rfl)
          simp only [List.getElem_toArray, List.getElem_cons_zero, List.getElem_cons_succ, Act.put, List.setIfInBounds_toArray, List.set_cons_zero, List.set_cons_succ]
          refine wpAnyH_ready (rs := [13]) (by as_aux_lemma => kernel_rfl) (by simp) ?_
          refine AllReadyH.cons rfl (fun K hK => ?_) AllReadyH.nil
          go_simp
          have eY : Ext V4 (V4.alloc (.cells #[.bool false, .slice none 0 0, .int .i64 0, .bool false, .slice none 0 0, .int .i64 0] 33)) := (Ext.refl _).alloc _
          have F5 : Ext W1 (V4.alloc (.cells #[.bool false, .slice none 0 0, .int .i64 0, .bool false, .slice none 0 0, .int .i64 0] 33)) := F4.trans eY
          refine hK.out _ _ (b2 (Bt.ext F5)) (fun hHeld => ?_)
          clear hK K
          have tYX := World.block_lt_of_cell? _ _ X.c0
          simp only at tYX
          replace m1 := m1.ext eY
          replace m2 := m2.ext eY
          replace X := X.ext eY
          have Y : Zi (V4.alloc (.cells #[.bool false, .slice none 0 0, .int .i64 0, .bool false, .slice none 0 0, .int .i64 0] 33)) V4.heap.size := Zi.new _ _
          have lY : W1.heap.size ≤ V4.heap.size := F4.size
          clear eY F4
          generalize hgen : V4.alloc (.cells #[.bool false, .slice none 0 0, .int .i64 0, .bool false, .slice none 0 0, .int .i64 0] 33) = V5 at *
          clear hgen
          generalize hgen : V4.heap.size = gY at *
          clear hgen
          have hXY : gX ≠ gY := by omega
          first | clear tYX | clear tXY
          revert hHeld
          revert m2
          revert m1
          revert lY
          revert lX
          revert hXY
          revert Y
          revert X
          revert F5
          revert bm2
          revert Am2
          revert lm2
          revert cm2
          revert jm2
          revert bm2'
          revert Am2'
          revert lm2'
          revert cm2'
          revert jm2'
          revert bm1
          revert Am1
          revert lm1
          revert cm1
          revert jm1
          revert bm1'
          revert Am1'
          revert lm1'
          revert cm1'
          revert jm1'
          revert v7
          revert gY
          revert gX
          revert V5
          exact REST.out
         ·go_simp
          have eY : Ext V3 (V3.alloc (.cells #[.bool false, .slice none 0 0, .int .i64 0, .bool false, .slice none 0 0, .int .i64 0] 33)) := (Ext.refl _).alloc _
          have F4 : Ext W1 (V3.alloc (.cells #[.bool false, .slice none 0 0, .int .i64 0, .bool false, .slice none 0 0, .int .i64 0] 33)) := F3.trans eY
          refine hK.out _ _ (b2 (Bt.ext F4)) (fun hHeld => ?_)
          clear hK K
          have tYX := World.block_lt_of_cell? _ _ X.c0
          simp only at tYX
          replace mL := mL.ext eY
          replace X := X.ext eY
          have Y : Zi (V3.alloc (.cells #[.bool false, .slice none 0 0, .int .i64 0, .bool false, .slice none 0 0, .int .i64 0] 33)) V3.heap.size := Zi.new _ _
          have lY : W1.heap.size ≤ V3.heap.size := F3.size
          clear eY F3
          generalize hgen : V3.alloc (.cells #[.bool false, .slice none 0 0, .int .i64 0, .bool false, .slice none 0 0, .int .i64 0] 33) = V4 at *
          clear hgen
          generalize hgen : V3.heap.size = gY at *
          clear hgen
          refine wpAnyH_ready (rs := [8]) (by as_aux_lemma => kernel_rfl) (by simp) ?_
          refine AllReadyH.cons rfl (fun K hK => ?_) AllReadyH.nil
          go_simp
          refine (HB.out _ _ _ mL).mono ?_
          rintro _ V5 ⟨v8, v9, rfl, m1, m2, eB⟩
          have F5 : Ext W1 V5 := F4.trans eB
          replace mL := mL.ext eB
          replace X := X.ext eB
          replace Y := Y.ext eB
          refine hK.out _ _ (b2 (Bt.ext F5)) (fun hHeld => ?_)
          clear hK K eB F4
          obtain ⟨bm1, Am1, lm1, cm1, jm1, bm1', Am1', lm1', cm1', jm1', rfl⟩ := m1.form
          obtain ⟨bm2, Am2, lm2, cm2, jm2, bm2', Am2', lm2', cm2', jm2', rfl⟩ := m2.form
          clear mL
          refine wpAnyH_take (i := 9) (v := ?_) rfl (by as_aux_lemma => kernel_rfl) (by as_aux_lemma => kernel_rfl) (by as_aux_lemma => kernel_rfl) (fun _ _ _ h => h) (Or.inl ⟨by rfl, ?_⟩) (by assumption) ?_
          rotate_left
          · (intro w hSw; (try dsimp only at hSw); go_simp); (try with_reducible rfl)
          simp only [List.getElem_toArray, List.getElem_cons_zero, List.getElem_cons_succ, Act.put, List.setIfInBounds_toArray, List.set_cons_zero, List.set_cons_succ]
          refine wpAnyH_take (i := 10) (v := ?_) rfl (by as_aux_lemma => kernel_rfl) (by as_aux_lemma => kernel_rfl) (by as_aux_lemma => kernel_rfl) (fun _ _ _ h => h) (Or.inl ⟨by rfl, ?_⟩) (by assumption) ?_
          rotate_left
          · (intro w hSw; (try dsimp only at hSw); go_simp); (try with_reducible rfl)
          simp only [List.getElem_toArray, List.getElem_cons_zero, List.getElem_cons_succ, Act.put, List.setIfInBounds_toArray, List.set_cons_zero, List.set_cons_succ]
          refine wpAnyH_take (i := 11) (v := ?_) rfl (by as_aux_lemma => kernel_rfl) (by as_aux_lemma => kernel_rfl) (by as_aux_lemma => kernel_rfl) (fun _ _ _ h => h) (Or.inl ⟨by rfl, ?_⟩) (by assumption) ?_
          rotate_left
          · (intro w hSw; (try dsimp only at hSw); go_simp); (try with_reducible rfl)
          simp only [List.getElem_toArray, List.getElem_cons_zero, List.getElem_cons_succ, Act.put, List.setIfInBounds_toArray, List.set_cons_zero, List.set_cons_succ]
          have hXY : gX ≠ gY := by omega
          first | clear tYX | clear tXY
          revert hHeld
          revert m2
          revert m1
          revert lY
          revert lX
          revert hXY
          revert Y
          revert X
          revert F5
          revert bm2
          revert Am2
          revert lm2
          revert cm2
          revert jm2
          revert bm2'
          revert Am2'
          revert lm2'
          revert cm2'
          revert jm2'
          revert bm1
          revert Am1
          revert lm1
          revert cm1
          revert jm1
          revert bm1'
          revert Am1'
          revert lm1'
          revert cm1'
          revert jm1'
          revert v7
          revert gY
          revert gX
          revert V5
          exact REST.out
        ·go_simp
         have eY : Ext V2 (V2.alloc (.cells #[.bool false, .slice none 0 0, .int .i64 0, .bool false, .slice none 0 0, .int .i64 0] 33)) := (Ext.refl _).alloc _
         have F3 : Ext W1 (V2.alloc (.cells #[.bool false, .slice none 0 0, .int .i64 0, .bool false, .slice none 0 0, .int .i64 0] 33)) := F2.trans eY
         refine hK.out _ _ (b2 (Bt.ext F3)) (fun hHeld => ?_)
         clear hK K
         have tYX := World.block_lt_of_cell? _ _ X.c0
         simp only at tYX
         replace X := X.ext eY
         have Y : Zi (V2.alloc (.cells #[.bool false, .slice none 0 0, .int .i64 0, .bool false, .slice none 0 0, .int .i64 0] 33)) V2.heap.size := Zi.new _ _
         have lY : W1.heap.size ≤ V2.heap.size := F2.size
         clear eY F2
         generalize hgen : V2.alloc (.cells #[.bool false, .slice none 0 0, .int .i64 0, .bool false, .slice none 0 0, .int .i64 0] 33) = V3 at *
         clear hgen
         generalize hgen : V2.heap.size = gY at *
         clear hgen
         refine wpAnyH_ready (rs := [7]) (by as_aux_lemma => kernel_rfl) (by simp) ?_
         refine AllReadyH.cons rfl (fun K hK => ?_) AllReadyH.nil
         go_simp
         refine (HH.out _).mono ?_
         rintro _ V4 ⟨v7, rfl, mL, eH⟩
         have F4 : Ext W1 V4 := F3.trans eH
         replace X := X.ext eH
         replace Y := Y.ext eH
         refine hK.out _ _ (b2 (Bt.ext F4)) (fun hHeld => ?_)
         clear hK K eH F3
         refine wpAnyH_ready (rs := [8]) (by as_aux_lemma => kernel_rfl) (by simp) ?_
         refine AllReadyH.cons rfl (fun K hK => ?_) AllReadyH.nil
         go_simp
         refine (HB.out _ _ _ mL).mono ?_
         rintro _ V5 ⟨v8, v9, rfl, m1, m2, eB⟩
         have F5 : Ext W1 V5 := F4.trans eB
         replace mL := mL.ext eB
         replace X := X.ext eB
         replace Y := Y.ext eB
         refine hK.out _ _ (b2 (Bt.ext F5)) (fun hHeld => ?_)
         clear hK K eB F4
         obtain ⟨bm1, Am1, lm1, cm1, jm1, bm1', Am1', lm1', cm1', jm1', rfl⟩ := m1.form
         obtain ⟨bm2, Am2, lm2, cm2, jm2, bm2', Am2', lm2', cm2', jm2', rfl⟩ := m2.form
         clear mL
         refine wpAnyH_take (i := 9) (v := ?_) rfl (by as_aux_lemma => kernel_rfl) (by as_aux_lemma => kernel_rfl) (by as_aux_lemma => kernel_rfl) (fun _ _ _ h => h) (Or.inl ⟨by rfl, ?_⟩) (by assumption) ?_
         rotate_left
         · (intro w hSw; (try dsimp only at hSw); go_simp); (try with_reducible rfl)
         simp only [List.getElem_toArray, List.getElem_cons_zero, List.getElem_cons_succ, Act.put, List.setIfInBounds_toArray, List.set_cons_zero, List.set_cons_succ]
         refine wpAnyH_take (i := 10) (v := ?_) rfl (by as_aux_lemma => kernel_rfl) (by as_aux_lemma => kernel_rfl) (by as_aux_lemma => kernel_rfl) (fun _ _ _ h => h) (Or.inl ⟨by rfl, ?_⟩) (by assumption) ?_
         rotate_left
         · (intro w hSw; (try dsimp only at hSw); go_simp); (try with_reducible rfl)
         simp only [List.getElem_toArray, List.getElem_cons_zero, List.getElem_cons_succ, Act.put, List.setIfInBounds_toArray, List.set_cons_zero, List.set_cons_succ]
         refine wpAnyH_take (i := 11) (v := ?_) rfl (by as_aux_lemma => kernel_rfl) (by as_aux_lemma => kernel_rfl) (by as_aux_lemma => kernel_rfl) (fun _ _ _ h => h) (Or.inl ⟨by rfl, ?_⟩) (by assumption) ?_
         rotate_left
         · (intro w hSw; (try dsimp only at hSw); go_simp); (try with_reducible rfl)
         simp only [List.getElem_toArray, List.getElem_cons_zero, List.getElem_cons_succ, Act.put, List.setIfInBounds_toArray, List.set_cons_zero, List.set_cons_succ]
         have hXY : gX ≠ gY := by omega
         first | clear tYX | clear tXY
         revert hHeld
         revert m2
         revert m1
         revert lY
         revert lX
         revert hXY
         revert Y
         revert X
         revert F5
         revert bm2
         revert Am2
         revert lm2
         revert cm2
         revert jm2
         revert bm2'
         revert Am2'
         revert lm2'
         revert cm2'
         revert jm2'
         revert bm1
         revert Am1
         revert lm1
         revert cm1
         revert jm1
         revert bm1'
         revert Am1'
         revert lm1'
         revert cm1'
         revert jm1'
         revert v7
         revert gY
         revert gX
         revert V5
         exact REST.out
       ·go_simp
        have eY : Ext V1 (V1.alloc (.cells #[.bool false, .slice none 0 0, .int .i64 0, .bool false, .slice none 0 0, .int .i64 0] 33)) := (Ext.refl _).alloc _
        have F2 : Ext W1 (V1.alloc (.cells #[.bool false, .slice none 0 0, .int .i64 0, .bool false, .slice none 0 0, .int .i64 0] 33)) := F1.trans eY
        refine hK.out _ _ (b2 (Bt.ext F2)) (fun hHeld => ?_)
        clear hK K
        have tYX := World.block_lt_of_cell? _ _ X.c0
        simp only at tYX
        replace X := X.ext eY
        have Y : Zi (V1.alloc (.cells #[.bool false, .slice none 0 0, .int .i64 0, .bool false, .slice none 0 0, .int .i64 0] 33)) V1.heap.size := Zi.new _ _
        have lY : W1.heap.size ≤ V1.heap.size := F1.size
        clear eY F1
        generalize hgen : V1.alloc (.cells #[.bool false, .slice none 0 0, .int .i64 0, .bool false, .slice none 0 0, .int .i64 0] 33) = V2 at *
        clear hgen
        generalize hgen : V1.heap.size = gY at *
        clear hgen
        refine wpAnyH_ready (rs := [3]) (by as_aux_lemma => kernel_rfl) (by simp) ?_
        refine AllReadyH.cons rfl (fun K hK => ?_) AllReadyH.nil
        go_simp
        refine (HF.out _).mono ?_
        rintro _ V3 ⟨rfl, eF⟩
        have F3 : Ext W1 V3 := F2.trans eF
        replace X := X.ext eF
        replace Y := Y.ext eF
        refine hK.out _ _ (b2 (Bt.ext F3)) (fun hHeld => ?_)
        clear hK K eF F2
        refine wpAnyH_take (i := 4) (v := ?_) rfl (by as_aux_lemma => kernel_rfl) (by as_aux_lemma => kernel_rfl) (by as_aux_lemma => kernel_rfl) (fun _ _ _ h => h) (Or.inl ⟨by rfl, ?_⟩) (by assumption) ?_
        rotate_left
        · (intro w hSw; (try dsimp only at hSw); go_simp); (try with_reducible rfl)
        simp only [List.getElem_toArray, List.getElem_cons_zero, List.getElem_cons_succ, Act.put, List.setIfInBounds_toArray, List.set_cons_zero, List.set_cons_succ]
        refine wpAnyH_take (i := 5) (v := ?_) rfl (by as_aux_lemma => kernel_rfl) (by as_aux_lemma => kernel_rfl) (by as_aux_lemma => kernel_rfl) (fun _ _ _ h => h) (Or.inl ⟨by rfl, ?_⟩) (by assumption) ?_
        rotate_left
        · (intro w hSw; (try dsimp only at hSw); go_simp); (try with_reducible rfl)
        simp only [List.getElem_toArray, List.getElem_cons_zero, List.getElem_cons_succ, Act.put, List.setIfInBounds_toArray, List.set_cons_zero, List.set_cons_succ]
        refine wpAnyH_ready (rs := [7]) (by as_aux_lemma => kernel_rfl) (by simp) ?_
        refine AllReadyH.cons rfl (fun K hK => ?_) AllReadyH.nil
        go_simp
        refine (HH.out _).mono ?_
        rintro _ V4 ⟨v7, rfl, mL, eH⟩
        have F4 : Ext W1 V4 := F3.trans eH
        replace X := X.ext eH
        replace Y := Y.ext eH
        refine hK.out _ _ (b2 (Bt.ext F4)) (fun hHeld => ?_)
        clear hK K eH F3
        refine wpAnyH_ready (rs := [8]) (by as_aux_lemma => kernel_rfl) (by simp) ?_
        refine AllReadyH.cons rfl (fun K hK => ?_) AllReadyH.nil
        go_simp
        refine (HB.out _ _ _ mL).mono ?_
        rintro _ V5 ⟨v8, v9, rfl, m1, m2, eB⟩
        have F5 : Ext W1 V5 := F4.trans eB
        replace mL := mL.ext eB
        replace X := X.ext eB
        replace Y := Y.ext eB
        refine hK.out _ _ (b2 (Bt.ext F5)) (fun hHeld => ?_)
        clear hK K eB F4
        obtain ⟨bm1, Am1, lm1, cm1, jm1, bm1', Am1', lm1', cm1', jm1', rfl⟩ := m1.form
        obtain ⟨bm2, Am2, lm2, cm2, jm2, bm2', Am2', lm2', cm2', jm2', rfl⟩ := m2.form
        clear mL
        refine wpAnyH_take (i := 9) (v := ?_) rfl (by as_aux_lemma => kernel_rfl) (by as_aux_lemma => kernel_rfl) (by as_aux_lemma => kernel_rfl) (fun _ _ _ h => h) (Or.inl ⟨by rfl, ?_⟩) (by assumption) ?_
        rotate_left
        · (intro w hSw; (try dsimp only at hSw); go_simp); (try with_reducible rfl)
        simp only [List.getElem_toArray, List.getElem_cons_zero, List.getElem_cons_succ, Act.put, List.setIfInBounds_toArray, List.set_cons_zero, List.set_cons_succ]
        refine wpAnyH_take (i := 10) (v := ?_) rfl (by as_aux_lemma => kernel_rfl) (by as_aux_lemma => kernel_rfl) (by as_aux_lemma => kernel_rfl) (fun _ _ _ h => h) (Or.inl ⟨by rfl, ?_⟩) (by assumption) ?_
        rotate_left
        · (intro w hSw; (try dsimp only at hSw); go_simp); (try with_reducible rfl)
        simp only [List.getElem_toArray, List.getElem_cons_zero, List.getElem_cons_succ, Act.put, List.setIfInBounds_toArray, List.set_cons_zero, List.set_cons_succ]
        refine wpAnyH_take (i := 11) (v := ?_) rfl (by as_aux_lemma => kernel_rfl) (by as_aux_lemma => kernel_rfl) (by as_aux_lemma => kernel_rfl) (fun _ _ _ h => h) (Or.inl ⟨by rfl, ?_⟩) (by assumption) ?_
        rotate_left
        · (intro w hSw; (try dsimp only at hSw); go_simp); (try with_reducible rfl)
        simp only [List.getElem_toArray, List.getElem_cons_zero, List.getElem_cons_succ, Act.put, List.setIfInBounds_toArray, List.set_cons_zero, List.set_cons_succ]
        have hXY : gX ≠ gY := by omega
        first | clear tYX | clear tXY
        revert hHeld
        revert m2
        revert m1
        revert lY
        revert lX
        revert hXY
        revert Y
        revert X
        revert F5
        revert bm2
        revert Am2
        revert lm2
        revert cm2
        revert jm2
        revert bm2'
        revert Am2'
        revert lm2'
        revert cm2'
        revert jm2'
        revert bm1
        revert Am1
        revert lm1
        revert cm1
        revert jm1
        revert bm1'
        revert Am1'
        revert lm1'
        revert cm1'
        revert jm1'
        revert v7
        revert gY
        revert gX
        revert V5
        exact REST.out
      ·go_simp
       have eY : Ext V0 (V0.alloc (.cells #[.bool false, .slice none 0 0, .int .i64 0, .bool false, .slice none 0 0, .int .i64 0] 33)) := (Ext.refl _).alloc _
       have F1 : Ext W1 (V0.alloc (.cells #[.bool false, .slice none 0 0, .int .i64 0, .bool false, .slice none 0 0, .int .i64 0] 33)) := F0.trans eY
       refine hK.out _ _ (b2 (Bt.ext F1)) (fun hHeld => ?_)
       clear hK K
       have Y : Zi (V0.alloc (.cells #[.bool false, .slice none 0 0, .int .i64 0, .bool false, .slice none 0 0, .int .i64 0] 33)) V0.heap.size := Zi.new _ _
       have lY : W1.heap.size ≤ V0.heap.size := F0.size
       clear eY
       generalize hgen : V0.alloc (.cells #[.bool false, .slice none 0 0, .int .i64 0, .bool false, .slice none 0 0, .int .i64 0] 33) = V1 at *
       clear hgen
       generalize hgen : V0.heap.size = gY at *
       clear hgen
       refine wpAnyH_ready (rs := [3, 12]) (by as_aux_lemma => kernel_rfl) (by simp) ?_
       refine AllReadyH.cons rfl (fun K hK => ?_) (AllReadyH.cons rfl (fun K hK => ?_) AllReadyH.nil)
       ·go_simp
        refine (HF.out _).mono ?_
        rintro _ V2 ⟨rfl, eF⟩
        have F2 : Ext W1 V2 := F1.trans eF
        replace Y := Y.ext eF
        refine hK.out _ _ (b2 (Bt.ext F2)) (fun hHeld => ?_)
        clear hK K eF F1
        refine wpAnyH_take (i := 4) (v := ?_) rfl (by as_aux_lemma => kernel_rfl) (by as_aux_lemma => kernel_rfl) (by as_aux_lemma => kernel_rfl) (fun _ _ _ h => h) (Or.inl ⟨by rfl, ?_⟩) (by assumption) ?_
        rotate_left
        · (intro w hSw; (try dsimp only at hSw); go_simp); (try with_reducible rfl)
        simp only [List.getElem_toArray, List.getElem_cons_zero, List.getElem_cons_succ, Act.put, List.setIfInBounds_toArray, List.set_cons_zero, List.set_cons_succ]
        refine wpAnyH_take (i := 5) (v := ?_) rfl (by as_aux_lemma => kernel_rfl) (by as_aux_lemma => kernel_rfl) (by as_aux_lemma => kernel_rfl) (fun _ _ _ h => h) (Or.inl ⟨by rfl, ?_⟩) (by assumption) ?_
        rotate_left
        · (intro w hSw; (try dsimp only at hSw); go_simp); (try with_reducible rfl)
        simp only [List.getElem_toArray, List.getElem_cons_zero, List.getElem_cons_succ, Act.put, List.setIfInBounds_toArray, List.set_cons_zero, List.set_cons_succ]
        refine wpAnyH_ready (rs := [7, 12]) (by as_aux_lemma => kernel_rfl) (by simp) ?_
        refine AllReadyH.cons rfl (fun K hK => ?_) (AllReadyH.cons rfl (fun K hK => ?_) AllReadyH.nil)
        ·go_simp
         refine (HH.out _).mono ?_
         rintro _ V3 ⟨v7, rfl, mL, eH⟩
         have F3 : Ext W1 V3 := F2.trans eH
         replace Y := Y.ext eH
         refine hK.out _ _ (b2 (Bt.ext F3)) (fun hHeld => ?_)
         clear hK K eH F2
         refine wpAnyH_ready (rs := [8, 12]) (by as_aux_lemma => kernel_rfl) (by simp) ?_
         refine AllReadyH.cons rfl (fun K hK => ?_) (AllReadyH.cons rfl (fun K hK => ?_) AllReadyH.nil)
         ·go_simp
          refine (HB.out _ _ _ mL).mono ?_
          rintro _ V4 ⟨v8, v9, rfl, m1, m2, eB⟩
          have F4 : Ext W1 V4 := F3.trans eB
          replace mL := mL.ext eB
          replace Y := Y.ext eB
          refine hK.out _ _ (b2 (Bt.ext F4)) (fun hHeld => ?_)
          clear hK K eB F3
          obtain ⟨bm1, Am1, lm1, cm1, jm1, bm1', Am1', lm1', cm1', jm1', rfl⟩ := m1.form
          obtain ⟨bm2, Am2, lm2, cm2, jm2, bm2', Am2', lm2', cm2', jm2', rfl⟩ := m2.form
          clear mL
          refine wpAnyH_take (i := 9) (v := ?_) rfl (by as_aux_lemma => kernel_rfl) (by as_aux_lemma => kernel_rfl) (by as_aux_lemma => kernel_rfl) (fun _ _ _ h => h) (Or.inl ⟨by rfl, ?_⟩) (by assumption) ?_
          rotate_left
          · (intro w hSw; (try dsimp only at hSw); go_simp); (try with_reducible rfl)
          simp only [List.getElem_toArray, List.getElem_cons_zero, List.getElem_cons_succ, Act.put, List.setIfInBounds_toArray, List.set_cons_zero, List.set_cons_succ]
          refine wpAnyH_take (i := 10) (v := ?_) rfl (by as_aux_lemma => kernel_rfl) (by as_aux_lemma => kernel_rfl) (by as_aux_lemma => kernel_rfl) (fun _ _ _ h => h) (Or.inl ⟨by rfl, ?_⟩) (by assumption) ?_
          rotate_left
          · (intro w hSw; (try dsimp only at hSw); go_simp); (try with_reducible rfl)
          simp only [List.getElem_toArray, List.getElem_cons_zero, List.getElem_cons_succ, Act.put, List.setIfInBounds_toArray, List.set_cons_zero, List.set_cons_succ]
          refine wpAnyH_take (i := 11) (v := ?_) rfl (by as_aux_lemma => kernel_rfl) (by as_aux_lemma => kernel_rfl) (by as_aux_lemma => kernel_rfl) (fun _ _ _ h => h) (Or.inl ⟨by rfl, ?_⟩) (by assumption) ?_
          rotate_left
          · (intro w hSw; (try dsimp only at hSw); go_simp); (try with_reducible rfl)
          simp only [List.getElem_toArray, List.getElem_cons_zero, List.getElem_cons_succ, Act.put, List.setIfInBounds_toArray, List.set_cons_zero, List.set_cons_succ]
          refine wpAnyH_ready (rs := [12]) (by as_aux_lemma => kernel_rfl) (by simp) ?_
          refine AllReadyH.cons rfl (fun K hK => ?_) AllReadyH.nil
          go_simp
          have eX : Ext V4 (V4.alloc (.cells #[.bool false, .slice none 0 0, .int .i64 0, .bool false, .slice none 0 0, .int .i64 0] 33)) := (Ext.refl _).alloc _
          have F5 : Ext W1 (V4.alloc (.cells #[.bool false, .slice none 0 0, .int .i64 0, .bool false, .slice none 0 0, .int .i64 0] 33)) := F4.trans eX
          refine hK.out _ _ (b2 (Bt.ext F5)) (fun hHeld => ?_)
          clear hK K
          have tXY := World.block_lt_of_cell? _ _ Y.c0
          simp only at tXY
          replace m1 := m1.ext eX
          replace m2 := m2.ext eX
          replace Y := Y.ext eX
          have X : Zi (V4.alloc (.cells #[.bool false, .slice none 0 0, .int .i64 0, .bool false, .slice none 0 0, .int .i64 0] 33)) V4.heap.size := Zi.new _ _
          have lX : W1.heap.size ≤ V4.heap.size := F4.size
          clear eX F4
          generalize hgen : V4.alloc (.cells #[.bool false, .slice none 0 0, .int .i64 0, .bool false, .slice none 0 0, .int .i64 0] 33) = V5 at *
          clear hgen
          generalize hgen : V4.heap.size = gX at *
          clear hgen
          have hXY : gX ≠ gY := by omega
          first | clear tYX | clear tXY
          revert hHeld
          revert m2
          revert m1
          revert lY
          revert lX
          revert hXY
          revert Y
          revert X
          revert F5
          revert bm2
          revert Am2
          revert lm2
          revert cm2
          revert jm2
          revert bm2'
          revert Am2'
          revert lm2'
          revert cm2'
          revert jm2'
          revert bm1
          revert Am1
          revert lm1
          revert cm1
          revert jm1
          revert bm1'
          revert Am1'
          revert lm1'
          revert cm1'
          revert jm1'
          revert v7
          revert gY
          revert gX
          revert V5
          exact REST.out
         ·go_simp
          have eX : Ext V3 (V3.alloc (.cells #[.bool false, .slice none 0 0, .int .i64 0, .bool false, .slice none 0 0, .int .i64 0] 33)) := (Ext.refl _).alloc _
          have F4 : Ext W1 (V3.alloc (.cells #[.bool false, .slice none 0 0, .int .i64 0, .bool false, .slice none 0 0, .int .i64 0] 33)) := F3.trans eX
          refine hK.out _ _ (b2 (Bt.ext F4)) (fun hHeld => ?_)
          clear hK K
          have tXY := World.block_lt_of_cell? _ _ Y.c0
          simp only at tXY
          replace mL := mL.ext eX
          replace Y := Y.ext eX
          have X : Zi (V3.alloc (.cells #[.bool false, .slice none 0 0, .int .i64 0, .bool false, .slice none 0 0, .int .i64 0] 33)) V3.heap.size := Zi.new _ _
          have lX : W1.heap.size ≤ V3.heap.size := F3.size
          clear eX F3
          generalize hgen : V3.alloc (.cells #[.bool false, .slice none 0 0, .int .i64 0, .bool false, .slice none 0 0, .int .i64 0] 33) = V4 at *
          clear hgen
          generalize hgen : V3.heap.size = gX at *
          clear hgen
          refine wpAnyH_ready (rs := [8]) (by as_aux_lemma => kernel_rfl) (by simp) ?_
          refine AllReadyH.cons rfl (fun K hK => ?_) AllReadyH.nil
          go_simp
          refine (HB.out _ _ _ mL).mono ?_
          rintro _ V5 ⟨v8, v9, rfl, m1, m2, eB⟩
          have F5 : Ext W1 V5 := F4.trans eB
          replace mL := mL.ext eB
          replace Y := Y.ext eB
          replace X := X.ext eB
          refine hK.out _ _ (b2 (Bt.ext F5)) (fun hHeld => ?_)
          clear hK K eB F4
          obtain ⟨bm1, Am1, lm1, cm1, jm1, bm1', Am1', lm1', cm1', jm1', rfl⟩ := m1.form
          obtain ⟨bm2, Am2, lm2, cm2, jm2, bm2', Am2', lm2', cm2', jm2', rfl⟩ := m2.form
          clear mL
          refine wpAnyH_take (i := 9) (v := ?_) rfl (by as_aux_lemma => kernel_rfl) (by as_aux_lemma => kernel_rfl) (by as_aux_lemma => kernel_rfl) (fun _ _ _ h => h) (Or.inl ⟨by rfl, ?_⟩) (by assumption) ?_
          rotate_left
          · (intro w hSw; (try dsimp only at hSw); go_simp); (try with_reducible rfl)
          simp only [List.getElem_toArray, List.getElem_cons_zero, List.getElem_cons_succ, Act.put, List.setIfInBounds_toArray, List.set_cons_zero, List.set_cons_succ]
          refine wpAnyH_take (i := 10) (v := ?_) rfl (by as_aux_lemma => kernel_rfl) (by as_aux_lemma => kernel_rfl) (by as_aux_lemma => kernel_rfl) (fun _ _ _ h => h) (Or.inl ⟨by rfl, ?_⟩) (by assumption) ?_
          rotate_left
          · (intro w hSw; (try dsimp only at hSw); go_simp); (try with_reducible rfl)
          simp only [List.getElem_toArray, List.getElem_cons_zero, List.getElem_cons_succ, Act.put, List.setIfInBounds_toArray, List.set_cons_zero, List.set_cons_succ]
          refine wpAnyH_take (i := 11) (v := ?_) rfl (by as_aux_lemma => kernel_rfl) (by as_aux_lemma => kernel_rfl) (by as_aux_lemma => kernel_rfl) (fun _ _ _ h => h) (Or.inl ⟨by rfl, ?_⟩) (by assumption) ?_
          rotate_left
          · (intro w hSw; (try dsimp only at hSw); go_simp); (try with_reducible rfl)
          simp only [List.getElem_toArray, List.getElem_cons_zero, List.getElem_cons_succ, Act.put, List.setIfInBounds_toArray, List.set_cons_zero, List.set_cons_succ]
          have hXY : gX ≠ gY := by omega
          first | clear tYX | clear tXY
          revert hHeld
          revert m2
          revert m1
          revert lY
          revert lX
          revert hXY
          revert Y
          revert X
          revert F5
          revert bm2
          revert Am2
          revert lm2
          revert cm2
          revert jm2
          revert bm2'
          revert Am2'
          revert lm2'
          revert cm2'
          revert jm2'
          revert bm1
          revert Am1
          revert lm1
          revert cm1
          revert jm1
          revert bm1'
          revert Am1'
          revert lm1'
          revert cm1'
          revert jm1'
          revert v7
          revert gY
          revert gX
          revert V5
          exact REST.out
        ·go_simp
         have eX : Ext V2 (V2.alloc (.cells #[.bool false, .slice none 0 0, .int .i64 0, .bool false, .slice none 0 0, .int .i64 0] 33)) := (Ext.refl _).alloc _
         have F3 : Ext W1 (V2.alloc (.cells #[.bool false, .slice none 0 0, .int .i64 0, .bool false, .slice none 0 0, .int .i64 0] 33)) := F2.trans eX
         refine hK.out _ _ (b2 (Bt.ext F3)) (fun hHeld => ?_)
         clear hK K
         have tXY := World.block_lt_of_cell? _ _ Y.c0
         simp only at tXY
         replace Y := Y.ext eX
         have X : Zi (V2.alloc (.cells #[.bool false, .slice none 0 0, .int .i64 0, .bool false, .slice none 0 0, .int .i64 0] 33)) V2.heap.size := Zi.new _ _
         have lX : W1.heap.size ≤ V2.heap.size := F2.size
         clear eX F2
         generalize hgen : V2.alloc (.cells #[.bool false, .slice none 0 0, .int .i64 0, .bool false, .slice none 0 0, .int .i64 0] 33) = V3 at *
         clear hgen
         generalize hgen : V2.heap.size = gX at *
         clear hgen
         refine wpAnyH_ready (rs := [7]) (by as_aux_lemma => kernel_rfl) (by simp) ?_
         refine AllReadyH.cons rfl (fun K hK => ?_) AllReadyH.nil
         go_simp
         refine (HH.out _).mono ?_
         rintro _ V4 ⟨v7, rfl, mL, eH⟩
         have F4 : Ext W1 V4 := F3.trans eH
         replace Y := Y.ext eH
         replace X := X.ext eH
         refine hK.out _ _ (b2 (Bt.ext F4)) (fun hHeld => ?_)
         clear hK K eH F3
         refine wpAnyH_ready (rs := [8]) (by as_aux_lemma => kernel_rfl) (by simp) ?_
         refine AllReadyH.cons rfl (fun K hK => ?_) AllReadyH.nil
         go_simp
         refine (HB.out _ _ _ mL).mono ?_
         rintro _ V5 ⟨v8, v9, rfl, m1, m2, eB⟩
         have F5 : Ext W1 V5 := F4.trans eB
         replace mL := mL.ext eB
         replace Y := Y.ext eB
         replace X := X.ext eB
         refine hK.out _ _ (b2 (Bt.ext F5)) (fun hHeld => ?_)
         clear hK K eB F4
         obtain ⟨bm1, Am1, lm1, cm1, jm1, bm1', Am1', lm1', cm1', jm1', rfl⟩ := m1.form
         obtain ⟨bm2, Am2, lm2, cm2, jm2, bm2', Am2', lm2', cm2', jm2', rfl⟩ := m2.form
         clear mL
         refine wpAnyH_take (i := 9) (v := ?_) rfl (by as_aux_lemma => kernel_rfl) (by as_aux_lemma => kernel_rfl) (by as_aux_lemma => kernel_rfl) (fun _ _ _ h => h) (Or.inl ⟨by rfl, ?_⟩) (by assumption) ?_
         rotate_left
         · (intro w hSw; (try dsimp only at hSw); go_simp); (try with_reducible rfl)
         simp only [List.getElem_toArray, List.getElem_cons_zero, List.getElem_cons_succ, Act.put, List.setIfInBounds_toArray, List.set_cons_zero, List.set_cons_succ]
         refine wpAnyH_take (i := 10) (v := ?_) rfl (by as_aux_lemma => kernel_rfl) (by as_aux_lemma => kernel_rfl) (by as_aux_lemma => kernel_rfl) (fun _ _ _ h => h) (Or.inl ⟨by rfl, ?_⟩) (by assumption) ?_
         rotate_left
         · (intro w hSw; (try dsimp only at hSw); go_simp); (try with_reducible rfl)
         simp only [List.getElem_toArray, List.getElem_cons_zero, List.getElem_cons_succ, Act.put, List.setIfInBounds_toArray, List.set_cons_zero, List.set_cons_succ]
         refine wpAnyH_take (i := 11) (v := ?_) rfl (by as_aux_lemma => kernel_rfl) (by as_aux_lemma => kernel_rfl) (by as_aux_lemma => kernel_rfl) (fun _ _ _ h => h) (Or.inl ⟨by rfl, ?_⟩) (by assumption) ?_
         rotate_left
         · (intro w hSw; (try dsimp only at hSw); go_simp); (try with_reducible rfl)
         simp only [List.getElem_toArray, List.getElem_cons_zero, List.getElem_cons_succ, Act.put, List.setIfInBounds_toArray, List.set_cons_zero, List.set_cons_succ]
         have hXY : gX ≠ gY := by omega
         first | clear tYX | clear tXY
         revert hHeld
         revert m2
         revert m1
         revert lY
         revert lX
         revert hXY
         revert Y
         revert X
         revert F5
         revert bm2
         revert Am2
         revert lm2
         revert cm2
         revert jm2
         revert bm2'
         revert Am2'
         revert lm2'
         revert cm2'
         revert jm2'
         revert bm1
         revert Am1
         revert lm1
         revert cm1
         revert jm1
         revert bm1'
         revert Am1'
         revert lm1'
         revert cm1'
         revert jm1'
         revert v7
         revert gY
         revert gX
         revert V5
         exact REST.out
       ·go_simp
        have eX : Ext V1 (V1.alloc (.cells #[.bool false, .slice none 0 0, .int .i64 0, .bool false, .slice none 0 0, .int .i64 0] 33)) := (Ext.refl _).alloc _
        have F2 : Ext W1 (V1.alloc (.cells #[.bool false, .slice none 0 0, .int .i64 0, .bool false, .slice none 0 0, .int .i64 0] 33)) := F1.trans eX
        refine hK.out _ _ (b2 (Bt.ext F2)) (fun hHeld => ?_)
        clear hK K
        have tXY := World.block_lt_of_cell? _ _ Y.c0
        simp only at tXY
        replace Y := Y.ext eX
        have X : Zi (V1.alloc (.cells #[.bool false, .slice none 0 0, .int .i64 0, .bool false, .slice none 0 0, .int .i64 0] 33)) V1.heap.size := Zi.new _ _
        have lX : W1.heap.size ≤ V1.heap.size := F1.size
        clear eX F1
        generalize hgen : V1.alloc (.cells #[.bool false, .slice none 0 0, .int .i64 0, .bool false, .slice none 0 0, .int .i64 0] 33) = V2 at *
        clear hgen
        generalize hgen : V1.heap.size = gX at *
        clear hgen
        refine wpAnyH_ready (rs := [3]) (by as_aux_lemma => kernel_rfl) (by simp) ?_
        refine AllReadyH.cons rfl (fun K hK => ?_) AllReadyH.nil
        go_simp
        refine (HF.out _).mono ?_
        rintro _ V3 ⟨rfl, eF⟩
        have F3 : Ext W1 V3 := F2.trans eF
        replace Y := Y.ext eF
        replace X := X.ext eF
        refine hK.out _ _ (b2 (Bt.ext F3)) (fun hHeld => ?_)
        clear hK K eF F2
        refine wpAnyH_take (i := 4) (v := ?_) rfl (by as_aux_lemma => kernel_rfl) (by as_aux_lemma => kernel_rfl) (by as_aux_lemma => kernel_rfl) (fun _ _ _ h => h) (Or.inl ⟨by rfl, ?_⟩) (by assumption) ?_
        rotate_left
        · (intro w hSw; (try dsimp only at hSw); go_simp); (try with_reducible rfl)
        simp only [List.getElem_toArray, List.getElem_cons_zero, List.getElem_cons_succ, Act.put, List.setIfInBounds_toArray, List.set_cons_zero, List.set_cons_succ]
        refine wpAnyH_take (i := 5) (v := ?_) rfl (by as_aux_lemma => kernel_rfl) (by as_aux_lemma => kernel_rfl) (by as_aux_lemma => kernel_rfl) (fun _ _ _ h => h) (Or.inl ⟨by rfl, ?_⟩) (by assumption) ?_
        rotate_left
        · (intro w hSw; (try dsimp only at hSw); go_simp); (try with_reducible rfl)
        simp only [List.getElem_toArray, List.getElem_cons_zero, List.getElem_cons_succ, Act.put, List.setIfInBounds_toArray, List.set_cons_zero, List.set_cons_succ]
        refine wpAnyH_ready (rs := [7]) (by as_aux_lemma => kernel_rfl) (by simp) ?_
        refine AllReadyH.cons rfl (fun K hK => ?_) AllReadyH.nil
        go_simp
        refine (HH.out _).mono ?_
        rintro _ V4 ⟨v7, rfl, mL, eH⟩
        have F4 : Ext W1 V4 := F3.trans eH
        replace Y := Y.ext eH
        replace X := X.ext eH
        refine hK.out _ _ (b2 (Bt.ext F4)) (fun hHeld => ?_)
        clear hK K eH F3
        refine wpAnyH_ready (rs := [8]) (by as_aux_lemma => kernel_rfl) (by simp) ?_
        refine AllReadyH.cons rfl (fun K hK => ?_) AllReadyH.nil
        go_simp
        refine (HB.out _ _ _ mL).mono ?_
        rintro _ V5 ⟨v8, v9, rfl, m1, m2, eB⟩
        have F5 : Ext W1 V5 := F4.trans eB
        replace mL := mL.ext eB
        replace Y := Y.ext eB
        replace X := X.ext eB
        refine hK.out _ _ (b2 (Bt.ext F5)) (fun hHeld => ?_)
        clear hK K eB F4
        obtain ⟨bm1, Am1, lm1, cm1, jm1, bm1', Am1', lm1', cm1', jm1', rfl⟩ := m1.form
        obtain ⟨bm2, Am2, lm2, cm2, jm2, bm2', Am2', lm2', cm2', jm2', rfl⟩ := m2.form
        clear mL
        refine wpAnyH_take (i := 9) (v := ?_) rfl (by as_aux_lemma => kernel_rfl) (by as_aux_lemma => kernel_rfl) (by as_aux_lemma => kernel_rfl) (fun _ _ _ h => h) (Or.inl ⟨by rfl, ?_⟩) (by assumption) ?_
        rotate_left
        · (intro w hSw; (try dsimp only at hSw); go_simp); (try with_reducible rfl)
        simp only [List.getElem_toArray, List.getElem_cons_zero, List.getElem_cons_succ, Act.put, List.setIfInBounds_toArray, List.set_cons_zero, List.set_cons_succ]
        refine wpAnyH_take (i := 10) (v := ?_) rfl (by as_aux_lemma => kernel_rfl) (by as_aux_lemma => kernel_rfl) (by as_aux_lemma => kernel_rfl) (fun _ _ _ h => h) (Or.inl ⟨by rfl, ?_⟩) (by assumption) ?_
        rotate_left
        · (intro w hSw; (try dsimp only at hSw); go_simp); (try with_reducible rfl)
        simp only [List.getElem_toArray, List.getElem_cons_zero, List.getElem_cons_succ, Act.put, List.setIfInBounds_toArray, List.set_cons_zero, List.set_cons_succ]
        refine wpAnyH_take (i := 11) (v := ?_) rfl (by as_aux_lemma => kernel_rfl) (by as_aux_lemma => kernel_rfl) (by as_aux_lemma => kernel_rfl) (fun _ _ _ h => h) (Or.inl ⟨by rfl, ?_⟩) (by assumption) ?_
        rotate_left
        · (intro w hSw; (try dsimp only at hSw); go_simp); (try with_reducible rfl)
        simp only [List.getElem_toArray, List.getElem_cons_zero, List.getElem_cons_succ, Act.put, List.setIfInBounds_toArray, List.set_cons_zero, List.set_cons_succ]
        have hXY : gX ≠ gY := by omega
        first | clear tYX | clear tXY
        revert hHeld
        revert m2
        revert m1
        revert lY
        revert lX
        revert hXY
        revert Y
        revert X
        revert F5
        revert bm2
        revert Am2
        revert lm2
        revert cm2
        revert jm2
        revert bm2'
        revert Am2'
        revert lm2'
        revert cm2'
        revert jm2'
        revert bm1
        revert Am1
        revert lm1
        revert cm1
        revert jm1
        revert bm1'
        revert Am1'
        revert lm1'
        revert cm1'
        revert jm1'
        revert v7
        revert gY
        revert gX
        revert V5
        exact REST.out
    · intro VZ gX gY v7 jm1' cm1' lm1' Am1' bm1' jm1 cm1 lm1 Am1 bm1 jm2' cm2' lm2' Am2' bm2' jm2 cm2 lm2 Am2 bm2 FZ X Y hXY lX lY m1 m2 hHeld
      refine wpAnyH_ready (rs := [14]) (by as_aux_lemma => kernel_rfl) (by simp) ?_
      refine AllReadyH.cons rfl (fun K hK => ?_) AllReadyH.nil
      have q0 := X.c0; have q1 := X.c1; have q2 := X.c2; have q3 := X.c3; have q4 := X.c4; have q5 := X.c5; have h0 := X.f 0; have h1 := X.f 1; have h2 := X.f 2; have h3 := X.f 3; have h4 := X.f 4; have h5 := X.f 5
      go_simp
      have F91 : Ext W1 (set6 VZ gX (.bool bm1) (.slice Am1 lm1 cm1) (.int .i64 jm1) (.bool bm1') (.slice Am1' lm1' cm1') (.int .i64 jm1')) := FZ.set6 lX
      refine hK.out _ _ (b2 (Bt.ext F91)) (fun hHeld => ?_)
      clear hK K q0 q1 q2 q3 q4 q5 h0 h1 h2 h3 h4 h5
      replace m1 := X.off m1 (.bool bm1) (.slice Am1 lm1 cm1) (.int .i64 jm1) (.bool bm1') (.slice Am1' lm1' cm1') (.int .i64 jm1')
      replace m2 := X.off m2 (.bool bm1) (.slice Am1 lm1 cm1) (.int .i64 jm1) (.bool bm1') (.slice Am1' lm1' cm1') (.int .i64 jm1')
      replace Y := Y.other (a := (.bool bm1)) (b := (.slice Am1 lm1 cm1)) (c := (.int .i64 jm1)) (a' := (.bool bm1')) (b' := (.slice Am1' lm1' cm1')) (c' := (.int .i64 jm1')) (g' := gX) (by omega)
      have BX := X.put (.bool bm1) (.slice Am1 lm1 cm1) (.int .i64 jm1) (.bool bm1') (.slice Am1' lm1' cm1') (.int .i64 jm1')
      clear X
      obtain ⟨V91, hgen⟩ : ∃ V, (set6 VZ gX (.bool bm1) (.slice Am1 lm1 cm1) (.int .i64 jm1) (.bool bm1') (.slice Am1' lm1' cm1') (.int .i64 jm1')) = V := ⟨_, rfl⟩
      rw [hgen] at F91 m1 m2 Y BX
      have hgen2 : ((((((VZ.setCell ⟨gX, 0, none⟩ (.bool bm1)).setCell ⟨gX, 1, none⟩ (.slice Am1 lm1 cm1)).setCell ⟨gX, 2, none⟩ (.int .i64 jm1)).setCell ⟨gX, 3, none⟩ (.bool bm1')).setCell ⟨gX, 4, none⟩ (.slice Am1' lm1' cm1')).setCell ⟨gX, 5, none⟩ (.int .i64 jm1')) = V91 := hgen
      rw [hgen2] at hHeld ⊢
      clear hgen hgen2
      refine wpAnyH_ready (rs := [15]) (by as_aux_lemma => kernel_rfl) (by simp) ?_
      refine AllReadyH.cons rfl (fun K hK => ?_) AllReadyH.nil
      have q0 := Y.c0; have q1 := Y.c1; have q2 := Y.c2; have q3 := Y.c3; have q4 := Y.c4; have q5 := Y.c5; have h0 := Y.f 0; have h1 := Y.f 1; have h2 := Y.f 2; have h3 := Y.f 3; have h4 := Y.f 4; have h5 := Y.f 5
      go_simp
      have F92 : Ext W1 (set6 V91 gY (.bool bm2) (.slice Am2 lm2 cm2) (.int .i64 jm2) (.bool bm2') (.slice Am2' lm2' cm2') (.int .i64 jm2')) := F91.set6 lY
      refine hK.out _ _ (b2 (Bt.ext F92)) (fun hHeld => ?_)
      clear hK K q0 q1 q2 q3 q4 q5 h0 h1 h2 h3 h4 h5
      replace m1 := Y.off m1 (.bool bm2) (.slice Am2 lm2 cm2) (.int .i64 jm2) (.bool bm2') (.slice Am2' lm2' cm2') (.int .i64 jm2')
      replace m2 := Y.off m2 (.bool bm2) (.slice Am2 lm2 cm2) (.int .i64 jm2) (.bool bm2') (.slice Am2' lm2' cm2') (.int .i64 jm2')
      replace BX := BX.other (a := (.bool bm2)) (b := (.slice Am2 lm2 cm2)) (c := (.int .i64 jm2)) (a' := (.bool bm2')) (b' := (.slice Am2' lm2' cm2')) (c' := (.int .i64 jm2')) (g' := gY) (by omega)
      have BY := Y.put (.bool bm2) (.slice Am2 lm2 cm2) (.int .i64 jm2) (.bool bm2') (.slice Am2' lm2' cm2') (.int .i64 jm2')
      clear Y
      obtain ⟨V92, hgen⟩ : ∃ V, (set6 V91 gY (.bool bm2) (.slice Am2 lm2 cm2) (.int .i64 jm2) (.bool bm2') (.slice Am2' lm2' cm2') (.int .i64 jm2')) = V := ⟨_, rfl⟩
      rw [hgen] at F92 m1 m2 BX BY
      have hgen2 : ((((((V91.setCell ⟨gY, 0, none⟩ (.bool bm2)).setCell ⟨gY, 1, none⟩ (.slice Am2 lm2 cm2)).setCell ⟨gY, 2, none⟩ (.int .i64 jm2)).setCell ⟨gY, 3, none⟩ (.bool bm2')).setCell ⟨gY, 4, none⟩ (.slice Am2' lm2' cm2')).setCell ⟨gY, 5, none⟩ (.int .i64 jm2')) = V92 := hgen
      rw [hgen2] at hHeld ⊢
      clear hgen hgen2
      refine wpAnyH_done (by as_aux_lemma => kernel_rfl) ?_ _
      go_wp2_with fail
      go_meet
      case rel => exact ⟨_, _, _, _, _, _, _, _, _, _, _, _, _, _, _, _, _, _, _, _, _, _, rfl, rfl, BX, BY, m1, m2, F92, lX, lY⟩
  case rest =>
    obtain ⟨gc, gs, bx, Ax, nx, cx, ex, bx', Ax', nx', cx', ex', bf, Af, nf, cf, ef, bf', Af', nf', cf', ef', rfl, rfl, Bc, Bs, ix, iy, eC, g1, g2⟩ := hcut
    clear t0 t1 Bt
    replace Z1 := Z1.ext eC
    replace Z2 := Z2.ext eC
    have Ee := e1.trans eC
    clear eC e1 EW1
    go_upto_region 2 with fail
    have m1 : gc ≠ w.heap.size + 1 := by omega
    have m2 : gc ≠ w.heap.size + 1 + 1 := by omega
    have m3 : gs ≠ w.heap.size + 1 := by omega
    have m4 : gs ≠ w.heap.size + 1 + 1 := by omega
    have m5 : w.heap.size + 1 + 1 ≠ w.heap.size + 1 := by omega
    have m6 : w.heap.size + 1 ≠ w.heap.size + 1 + 1 := by omega
    have F0 : Ext wc (World.drew wc) := (Ext.refl _).drew
    refine wp_region_held_drew (S := (fun w' => (w'.cell? ⟨gc, 0, none⟩ = some (.bool bx) ∧ w'.cell? ⟨gc, 1, none⟩ = some (.slice Ax nx cx) ∧ w'.cell? ⟨gc, 2, none⟩ = some (.int .i64 ex) ∧ w'.cell? ⟨gc, 3, none⟩ = some (.bool bx') ∧ w'.cell? ⟨gc, 4, none⟩ = some (.slice Ax' nx' cx') ∧ w'.cell? ⟨gc, 5, none⟩ = some (.int .i64 ex')) ∧ (w'.cell? ⟨gs, 0, none⟩ = some (.bool bf) ∧ w'.cell? ⟨gs, 1, none⟩ = some (.slice Af nf cf) ∧ w'.cell? ⟨gs, 2, none⟩ = some (.int .i64 ef) ∧ w'.cell? ⟨gs, 3, none⟩ = some (.bool bf') ∧ w'.cell? ⟨gs, 4, none⟩ = some (.slice Af' nf' cf') ∧ w'.cell? ⟨gs, 5, none⟩ = some (.int .i64 ef')))) (by as_aux_lemma => kernel_rfl) ⟨bx6 (Bc.ext F0), bx6 (Bs.ext F0)⟩ (fun hHeld => ?_)
    replace Bc := Bc.ext F0
    replace Bs := Bs.ext F0
    replace Z1 := Z1.ext F0
    replace Z2 := Z2.ext F0
    replace ix := ix.ext F0
    replace iy := iy.ext F0
    have E0 := Ee.trans F0
    clear F0
    generalize hgen : World.drew wc = V0 at *
    clear hgen
    refine wpAnyH_take (i := 0) (v := ?_) rfl (by as_aux_lemma => kernel_rfl) (by as_aux_lemma => kernel_rfl) (by as_aux_lemma => kernel_rfl) (fun _ _ _ h => h) (Or.inl ⟨by rfl, ?_⟩) (by assumption) ?_
    rotate_left
    · (intro w hSw; (try dsimp only at hSw); go_simp); (try with_reducible rfl)
    simp only [List.getElem_toArray, List.getElem_cons_zero, Act.put, List.setIfInBounds_toArray, List.set_cons_zero, List.set_cons_succ]
    refine wpAnyH_take (i := 1) (v := ?_) rfl (by as_aux_lemma => kernel_rfl) (by as_aux_lemma => kernel_rfl) (by as_aux_lemma => kernel_rfl) (fun _ _ _ h => h) (Or.inl ⟨by rfl, ?_⟩) (by assumption) ?_
    rotate_left
    · (intro w hSw; (try dsimp only at hSw); go_simp); (try with_reducible rfl)
    simp only [List.getElem_toArray, List.getElem_cons_zero, List.getElem_cons_succ, Act.put, List.setIfInBounds_toArray, List.set_cons_zero, List.set_cons_succ]
    refine wpAnyH_ready (rs := [2]) (by as_aux_lemma => kernel_rfl) (by simp) ?_
    refine AllReadyH.cons rfl (fun K hK => ?_) AllReadyH.nil
    have q0 := Z1.c0; have h0 := Z1.f 0
    have q1 := Z1.c1; have h1 := Z1.f 1
    have q2 := Z1.c2; have h2 := Z1.f 2
    have q3 := Z1.c3; have h3 := Z1.f 3
    have q4 := Z1.c4; have h4 := Z1.f 4
    have q5 := Z1.c5; have h5 := Z1.f 5
    go_simp
    have gvx := Bc.other (a := (.bool bx)) (b := (.slice Ax nx cx)) (c := (.int .i64 ex)) (a' := (.bool bx')) (b' := (.slice Ax' nx' cx')) (c' := (.int .i64 ex')) m1
    have gvy := Bs.other (a := (.bool bx)) (b := (.slice Ax nx cx)) (c := (.int .i64 ex)) (a' := (.bool bx')) (b' := (.slice Ax' nx' cx')) (c' := (.int .i64 ex')) m3
    refine hK.out _ _ ⟨bx6 gvx, bx6 gvy⟩ (fun hHeld => ?_)
    clear hK K q0 h0 q1 h1 q2 h2 q3 h3 q4 h4 q5 h5
    replace ix := Z1.off ix (.bool bx) (.slice Ax nx cx) (.int .i64 ex) (.bool bx') (.slice Ax' nx' cx') (.int .i64 ex')
    replace iy := Z1.off iy (.bool bx) (.slice Ax nx cx) (.int .i64 ex) (.bool bx') (.slice Ax' nx' cx') (.int .i64 ex')
    have E1 : Ext w (set6 V0 (w.heap.size + 1) (.bool bx) (.slice Ax nx cx) (.int .i64 ex) (.bool bx') (.slice Ax' nx' cx') (.int .i64 ex')) := E0.set6 (by omega)
    have RR2 := Z1.put (.bool bx) (.slice Ax nx cx) (.int .i64 ex) (.bool bx') (.slice Ax' nx' cx') (.int .i64 ex')
    replace Z2 := Z2.other (a := (.bool bx)) (b := (.slice Ax nx cx)) (c := (.int .i64 ex)) (a' := (.bool bx')) (b' := (.slice Ax' nx' cx')) (c' := (.int .i64 ex')) m5
    replace Bc := gvx
    replace Bs := gvy
    clear Z1 E0
    obtain ⟨V1, hgen⟩ : ∃ V, (set6 V0 (w.heap.size + 1) (.bool bx) (.slice Ax nx cx) (.int .i64 ex) (.bool bx') (.slice Ax' nx' cx') (.int .i64 ex')) = V := ⟨_, rfl⟩
    rw [hgen] at E1 RR2 ix iy Bc Bs Z2
    have hgen2 : ((((((V0.setCell ⟨w.heap.size + 1, 0, none⟩ (.bool bx)).setCell ⟨w.heap.size + 1, 1, none⟩ (.slice Ax nx cx)).setCell ⟨w.heap.size + 1, 2, none⟩ (.int .i64 ex)).setCell ⟨w.heap.size + 1, 3, none⟩ (.bool bx')).setCell ⟨w.heap.size + 1, 4, none⟩ (.slice Ax' nx' cx')).setCell ⟨w.heap.size + 1, 5, none⟩ (.int .i64 ex')) = V1 := hgen
    rw [hgen2] at hHeld ⊢
    clear hgen hgen2
    refine wpAnyH_ready (rs := [3]) (by as_aux_lemma => kernel_rfl) (by simp) ?_
    refine AllReadyH.cons rfl (fun K hK => ?_) AllReadyH.nil
    have q0 := Z2.c0; have h0 := Z2.f 0
    have q1 := Z2.c1; have h1 := Z2.f 1
    have q2 := Z2.c2; have h2 := Z2.f 2
    have q3 := Z2.c3; have h3 := Z2.f 3
    have q4 := Z2.c4; have h4 := Z2.f 4
    have q5 := Z2.c5; have h5 := Z2.f 5
    go_simp
    have gvx := Bc.other (a := (.bool bf)) (b := (.slice Af nf cf)) (c := (.int .i64 ef)) (a' := (.bool bf')) (b' := (.slice Af' nf' cf')) (c' := (.int .i64 ef')) m2
    have gvy := Bs.other (a := (.bool bf)) (b := (.slice Af nf cf)) (c := (.int .i64 ef)) (a' := (.bool bf')) (b' := (.slice Af' nf' cf')) (c' := (.int .i64 ef')) m4
    refine hK.out _ _ ⟨bx6 gvx, bx6 gvy⟩ (fun hHeld => ?_)
    clear hK K q0 h0 q1 h1 q2 h2 q3 h3 q4 h4 q5 h5
    replace ix := Z2.off ix (.bool bf) (.slice Af nf cf) (.int .i64 ef) (.bool bf') (.slice Af' nf' cf') (.int .i64 ef')
    replace iy := Z2.off iy (.bool bf) (.slice Af nf cf) (.int .i64 ef) (.bool bf') (.slice Af' nf' cf') (.int .i64 ef')
    have E2 : Ext w (set6 V1 (w.heap.size + 1 + 1) (.bool bf) (.slice Af nf cf) (.int .i64 ef) (.bool bf') (.slice Af' nf' cf') (.int .i64 ef')) := E1.set6 (by omega)
    have RR3 := Z2.put (.bool bf) (.slice Af nf cf) (.int .i64 ef) (.bool bf') (.slice Af' nf' cf') (.int .i64 ef')
    replace RR2 := RR2.other (a := (.bool bf)) (b := (.slice Af nf cf)) (c := (.int .i64 ef)) (a' := (.bool bf')) (b' := (.slice Af' nf' cf')) (c' := (.int .i64 ef')) m6
    replace Bc := gvx
    replace Bs := gvy
    clear Z2 E1
    obtain ⟨V2, hgen⟩ : ∃ V, (set6 V1 (w.heap.size + 1 + 1) (.bool bf) (.slice Af nf cf) (.int .i64 ef) (.bool bf') (.slice Af' nf' cf') (.int .i64 ef')) = V := ⟨_, rfl⟩
    rw [hgen] at E2 RR3 ix iy Bc Bs RR2
    have hgen2 : ((((((V1.setCell ⟨w.heap.size + 1 + 1, 0, none⟩ (.bool bf)).setCell ⟨w.heap.size + 1 + 1, 1, none⟩ (.slice Af nf cf)).setCell ⟨w.heap.size + 1 + 1, 2, none⟩ (.int .i64 ef)).setCell ⟨w.heap.size + 1 + 1, 3, none⟩ (.bool bf')).setCell ⟨w.heap.size + 1 + 1, 4, none⟩ (.slice Af' nf' cf')).setCell ⟨w.heap.size + 1 + 1, 5, none⟩ (.int .i64 ef')) = V2 := hgen
    rw [hgen2] at hHeld ⊢
    clear hgen hgen2
    refine wpAnyH_done (by as_aux_lemma => kernel_rfl) ?_ _
    have k0 := RR2.c0; have k1 := RR2.c1; have k2 := RR2.c2; have k3 := RR2.c3; have k4 := RR2.c4; have k5 := RR2.c5
    have p0 := RR3.c0; have p1 := RR3.c1; have p2 := RR3.c2; have p3 := RR3.c3; have p4 := RR3.c4; have p5 := RR3.c5
    go_wp2
    exact bodyPost_ret (by simp [results, Tryz.results50, go_sem, k0, k1, k2, k3, k4, k5, p0, p1, p2, p3, p4, p5]) rfl ⟨_, _, rfl, ix, iy, E2⟩
end Go.Proofs.YtomdbmjfehoodaaGreatDoor
