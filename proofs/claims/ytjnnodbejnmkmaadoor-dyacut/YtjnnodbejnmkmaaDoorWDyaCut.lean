/- The walk of DyaCut. -/
import Derived.Test.YtjnnodbejnmkmaaDoorG4
namespace Go.Proofs.YtjnnodbejnmkmaaDoor
open Go.RowKit
set_option linter.unusedVariables false

/-- A number that is written out behind a new block. -/
theorem lit_next (w : World) (o : Obj) (x e z : Int) (neg : Bool) (t : TypeId) (h0 : 0 < x) (h1 : x < 16777216) (h2 : x % 2 = 1) (hz : z = sg neg x.toNat) : Dn (((w.alloc o).alloc (.cells #[.int .i64 x] t)).drew) (.agg #[.bool neg, .slice (some ⟨w.heap.size + 1, 0, none⟩) 1 1, .int .i64 e]) (dy z e) := by
  have h := lit_dn (w.alloc o) x e z neg t h0 h1 h2 hz
  rw [World.size_alloc] at h
  exact h.ext (Ext.refl _).drew

set_option maxRecDepth 100000 in
set_option maxHeartbeats 8000000 in
theorem cut_long (w : World) (T : Tb w) (nba : Bool) (Ma : Value) (xa : List Int) (ia : Int) (rowa : Row w Ma xa) (bda : -9223372036854775808 ≤ ia ∧ ia ≤ 9223372036854775807) (n : Int) (k : Nat) (hkk : n % 40 + 1 = (k : Int)) (hk1 : 1 ≤ k) (hk2 : k ≤ 40) (hn : 0 ≤ n ∧ n ≤ 255) (hg : goodAll 1 (pk nba nba nba) (pk xa xa xa) (pk ia ia ia) = true) (za : Int) (na : Dn w (.agg #[.bool nba, Ma, .int .i64 ia]) (dy za ia)) (ca : Canon za ia) (la : za.natAbs < 2 ^ 192) (ja1 : -200 ≤ ia) (ja2 : ia ≤ 200) (ra : Rg 200 392 (dy za ia)) (hb : k < bl za.natAbs) :
    Calls Tryd.prog 6 #[.agg #[.bool nba, Ma, .int .i64 ia], .int .u8 n] w (RetE w (.bool true)) := by
  have S := cut_sides ca hb hk1 la ja1 ja2
  obtain ⟨lo, hlo⟩ : ∃ lo, cutD za ia k false = lo := ⟨_, rfl⟩
  obtain ⟨hi, hhi⟩ : ∃ hi, cutD za ia k true = hi := ⟨_, rfl⟩
  rw [hlo, hhi] at S
  have HS := Lib.hid S
  have hgap := S.gap
  clear S
  have lz : Lt 400 za.natAbs := Lt.of_bits (Nat.le_trans (bl_of_lt la) (by omega))
  obtain ⟨B, hB⟩ : ∃ B, bl za.natAbs = B := ⟨_, rfl⟩
  have HL : Hid (∀ (w' : World) (v : Value), N w' v za.natAbs → Calls Tryd.prog 32 #[v] w' fun e w'' => e = .returned (.int .i64 (B : Int)) ∧ w' = w'') := Lib.hid (fun w' v h => by rw [← hB]; exact rlen_any w' v _ h lz)
  have hB2 := bl_of_lt la
  rw [hB] at hB2 hb
  go_enter Tryd.func6, Tryd.ntmps6
  go_wp2_with fail
  refine (headD_any _ (T.ext ((Ext.refl w).alloc _))).mono ?_
  rintro _ w1 ⟨rfl, e1⟩
  have E0 : Ext w w1 := ((Ext.refl w).alloc _).trans e1
  have Ba : Box w1 (w.heap.size) (.bool nba) Ma (.int .i64 ia) := Box.at ((Ext.refl _).trans e1) (by simp)
  replace T := T.ext E0
  replace rowa := rowa.ext E0
  clear e1
  replace na := na.ext E0
  obtain ⟨a0, a1, a2⟩ := id Ba
  have HG := Lib.hid (good_any _ _ 1 1 _ _ _ _ (by omega) (many1 w1 24 nba Ma xa ia rowa bda))
  rw [hg] at HG
  clear hg
  go_wp2_with fail
  refine HG.out.mono ?_
  rintro _ w2 ⟨rfl, f2⟩
  have e2 : Ext w1 w2 := ((Ext.refl _).alloc _).trans f2
  clear HG f2 rowa a0 a1 a2 bda
  replace T := T.ext e2
  replace na := na.ext e2
  replace Ba := Ba.ext e2
  replace E0 := E0.trans e2
  clear e2
  obtain ⟨a0, a1, a2⟩ := id Ba
  rw [hB] at hgap
  obtain ⟨j, hj⟩ : ∃ j, B - k = j := ⟨_, rfl⟩
  rw [hj] at hgap
  have hj2 : (B : Int) - (k : Int) = (j : Int) := by omega
  obtain ⟨G, hG⟩ : ∃ G, dy 1 (ia + (j : Nat)) = G := ⟨_, rfl⟩
  rw [hG] at hgap
  have HGP := Lib.hid hgap
  have HGG := Lib.hid hG
  have HLO := Lib.hid hlo
  have HHI := Lib.hid hhi
  clear hgap hG hlo hhi hj hB
  have rlo := HS.out.rlo
  have rhi := HS.out.rhi
  go_wp2_with fail
  refine (cut_lit _ _ za ia _ k 200 392 false (dy za ia) lo (by first | rfl | omega) rfl HLO.out na ca ra (by omega) (by omega) T).mono ?_
  rintro _ w3 ⟨v3, rfl, nl, e3⟩
  obtain ⟨b3, A3, l3, c3, i3, rfl⟩ := nl.form
  have f3 : Ext w3 (w3.alloc (.cells #[.bool b3, .slice A3 l3 c3, .int .i64 i3] 24)) := (Ext.refl _).alloc _
  have Bl : Box (w3.alloc (.cells #[.bool b3, .slice A3 l3 c3, .int .i64 i3] 24)) w3.heap.size (.bool b3) (.slice A3 l3 c3) (.int .i64 i3) := Box.at (Ext.refl _) rfl
  clear a0 a1 a2
  replace nl := nl.ext f3
  have g3 := e3.trans f3
  replace T := T.ext g3
  replace na := na.ext g3
  replace Ba := Ba.ext g3
  replace E0 := E0.trans g3
  clear e3 f3 g3
  obtain ⟨a0, a1, a2⟩ := id Ba
  obtain ⟨l0, l1, l2⟩ := id Bl
  go_wp2_with fail
  refine (cut_lit _ _ za ia _ k 200 392 true (dy za ia) hi (by first | rfl | omega) rfl HHI.out na ca ra (by omega) (by omega) T).mono ?_
  rintro _ w4 ⟨v4, rfl, nh, e4⟩
  obtain ⟨b4, A4, l4, c4, i4, rfl⟩ := nh.form
  have f4 : Ext w4 (w4.alloc (.cells #[.bool b4, .slice A4 l4 c4, .int .i64 i4] 24)) := (Ext.refl _).alloc _
  have Bh : Box (w4.alloc (.cells #[.bool b4, .slice A4 l4 c4, .int .i64 i4] 24)) w4.heap.size (.bool b4) (.slice A4 l4 c4) (.int .i64 i4) := Box.at (Ext.refl _) rfl
  clear a0 a1 a2 l0 l1 l2
  replace nh := nh.ext f4
  have g4 := e4.trans f4
  replace T := T.ext g4
  replace na := na.ext g4
  replace nl := nl.ext g4
  replace Ba := Ba.ext g4
  replace Bl := Bl.ext g4
  replace E0 := E0.trans g4
  clear e4 f4 g4
  obtain ⟨a0, a1, a2⟩ := id Ba
  obtain ⟨l0, l1, l2⟩ := id Bl
  obtain ⟨h0, h1, h2⟩ := id Bh
  go_wp2_with fail
  refine (rrightDn_any _ _ lo 200 393 nl rlo (by omega)).mono ?_
  rintro _ w5 ⟨rfl, e5⟩
  clear a0 a1 a2 l0 l1 l2 h0 h1 h2
  replace T := T.ext e5
  replace na := na.ext e5
  replace nl := nl.ext e5
  replace nh := nh.ext e5
  replace Ba := Ba.ext e5
  replace Bl := Bl.ext e5
  replace Bh := Bh.ext e5
  replace E0 := E0.trans e5
  clear e5
  obtain ⟨a0, a1, a2⟩ := id Ba
  obtain ⟨l0, l1, l2⟩ := id Bl
  obtain ⟨h0, h1, h2⟩ := id Bh
  go_wp2_with fail
  refine (rrightDn_any _ _ hi 200 393 nh rhi (by omega)).mono ?_
  rintro _ w6 ⟨rfl, e6⟩
  clear a0 a1 a2 l0 l1 l2 h0 h1 h2
  replace T := T.ext e6
  replace na := na.ext e6
  replace nl := nl.ext e6
  replace nh := nh.ext e6
  replace Ba := Ba.ext e6
  replace Bl := Bl.ext e6
  replace Bh := Bh.ext e6
  replace E0 := E0.trans e6
  clear e6
  obtain ⟨a0, a1, a2⟩ := id Ba
  obtain ⟨l0, l1, l2⟩ := id Bl
  obtain ⟨h0, h1, h2⟩ := id Bh
  go_wp2_with fail
  refine (lenFew_any _ _ _ _ lo k 200 393 nl HS.out.flo rlo (by omega) hk1).mono ?_
  rintro _ _ ⟨t1, rfl, rfl, t1a, t1b⟩
  have t1c : ¬ ((k : Int) < (t1 : Int)) := by omega
  go_wp2_with fail
  refine (lenFew_any _ _ _ _ hi k 200 393 nh HS.out.fhi rhi (by omega) hk1).mono ?_
  rintro _ _ ⟨t2, rfl, rfl, t2a, t2b⟩
  have t2c : ¬ ((k : Int) < (t2 : Int)) := by omega
  go_wp2_with fail
  refine (cmp_lit _ _ _ lo (dy za ia) 200 393 200 392 (-1) HS.out.below nl na rlo ra (by omega) (by omega)).mono ?_
  rintro _ w7 ⟨rfl, e7⟩
  clear a0 a1 a2 l0 l1 l2 h0 h1 h2
  replace T := T.ext e7
  replace na := na.ext e7
  replace nl := nl.ext e7
  replace nh := nh.ext e7
  replace Ba := Ba.ext e7
  replace Bl := Bl.ext e7
  replace Bh := Bh.ext e7
  replace E0 := E0.trans e7
  clear e7
  obtain ⟨a0, a1, a2⟩ := id Ba
  obtain ⟨l0, l1, l2⟩ := id Bl
  obtain ⟨h0, h1, h2⟩ := id Bh
  go_wp2_with fail
  refine (cmp_lit _ _ _ hi (dy za ia) 200 393 200 392 1 HS.out.above nh na rhi ra (by omega) (by omega)).mono ?_
  rintro _ w8 ⟨rfl, e8⟩
  clear a0 a1 a2 l0 l1 l2 h0 h1 h2
  replace T := T.ext e8
  replace na := na.ext e8
  replace nl := nl.ext e8
  replace nh := nh.ext e8
  replace Ba := Ba.ext e8
  replace Bl := Bl.ext e8
  replace Bh := Bh.ext e8
  replace E0 := E0.trans e8
  clear e8
  obtain ⟨a0, a1, a2⟩ := id Ba
  obtain ⟨l0, l1, l2⟩ := id Bl
  obtain ⟨h0, h1, h2⟩ := id Bh
  go_wp2_with fail
  refine (HL.out _ _ (na.nat ca)).mono ?_
  rintro _ _ ⟨rfl, rfl⟩
  have hbk : ¬ ((B : Int) ≤ (k : Int)) := by omega
  go_upto_region 11 with fail
  go_cut [9] from 11 (fun px wx => ∃ (gx : Nat) (x y z : Value), px = .pointer (some ⟨gx, 0, none⟩) ∧ Box wx gx x y z ∧ Dn wx (.agg #[x, y, z]) G ∧ Ext w8 wx)
  case first =>
    have hlBh := World.block_lt_of_cell? w8 _ Bh.c0
    simp only at hlBh
    have hn0Bh : w4.heap.size ≠ w8.heap.size := by omega
    have hlBl := World.block_lt_of_cell? w8 _ Bl.c0
    simp only at hlBl
    have hn0Bl : w3.heap.size ≠ w8.heap.size := by omega
    go_region_held3 (fun w' => (w'.cell? ⟨w4.heap.size, 0, none⟩ = some (.bool b4) ∧ w'.cell? ⟨w4.heap.size, 1, none⟩ = some (.slice A4 l4 c4) ∧ w'.cell? ⟨w4.heap.size, 2, none⟩ = some (.int .i64 i4)) ∧ (w'.cell? ⟨w3.heap.size, 0, none⟩ = some (.bool b3) ∧ w'.cell? ⟨w3.heap.size, 1, none⟩ = some (.slice A3 l3 c3) ∧ w'.cell? ⟨w3.heap.size, 2, none⟩ = some (.int .i64 i3))) (first | (with_reducible exact ⟨box3 (Bh.ext F2), box3 (Bl.ext F2)⟩) | (with_reducible exact ⟨box3 (Bh.ext (F2.alloc _)), box3 (Bl.ext (F2.alloc _))⟩) | (with_reducible exact ⟨box3_set (Bh.ext F2) hn0Bh, box3_set (Bl.ext F2) hn0Bl⟩) | (with_reducible exact ⟨box3_set (Bh.ext F2) hn3Bh, box3_set (Bl.ext F2) hn3Bl⟩) | (with_reducible exact ⟨box3 (Bh.ext F1), box3 (Bl.ext F1)⟩) | (with_reducible exact ⟨box3 (Bh.ext (F1.alloc _)), box3 (Bl.ext (F1.alloc _))⟩) | go_keep) (first | ((have hF := F1); (go_at_call 14); (refine (add_lit _ _ _ hi (-lo) G 200 393 HGP.out (nh.ext (by first | exact F1 | exact F1.alloc _)) (m1.ext (by first | exact Ext.refl _ | exact (Ext.refl _).alloc _)) rhi rlo.neg (by omega) (T.ext (by first | exact F1 | exact F1.alloc _))).mono ?_); (rintro _ u4 ⟨v4, rfl, m4, e4⟩); (obtain ⟨p4, P4, q4, s4, t4, rfl⟩ := m4.form); (have F2 : Ext w8 u4 := (by first | exact F1.trans e4 | exact (F1.alloc _).trans e4)); (try (have Zm := Zn.ext e4)); (try (have Zm := Zd.at e4 rfl)); (try (obtain ⟨z0, z1, z2, z3, zf⟩ := id Zm; have f0 := zf 0; have f1 := zf 1; have f2 := zf 2; clear z3 zf))) | ((go_at_call 22); (refine (flipD_any _ _ lo 200 393 (nl.ext (by first | exact (Ext.refl _).drew | exact ((Ext.refl _).alloc _).drew | exact (Ext.refl _).drew.alloc _)) rlo (by omega) (T.ext (by first | exact (Ext.refl _).drew | exact ((Ext.refl _).alloc _).drew | exact (Ext.refl _).drew.alloc _))).mono ?_); (rintro _ u3 ⟨v3, rfl, m1, e3⟩); (have F1 : Ext w8 u3 := (by first | exact (Ext.refl _).drew.trans e3 | exact (((Ext.refl _).alloc _).drew).trans e3 | exact ((Ext.refl _).drew.alloc _).trans e3)); (have hn3Bh : w4.heap.size ≠ u3.heap.size := (by have := F1.size; omega)); (have hn3Bl : w3.heap.size ≠ u3.heap.size := (by have := F1.size; omega)); (try (have Zn := Zd.at (w := w8) ((Ext.refl _).drew.trans e3) rfl))))
    all_goals (
      go_wp2_with fail
      go_meet
      case rel =>
        first
        | exact ⟨_, _, _, _, rfl, Box.at (Ext.refl _) rfl, m4.ext ((Ext.refl _).alloc _), F2.alloc _⟩
        | (obtain ⟨k0, k1, k2, hD⟩ := Zm.done m4 F2 (by have := F1.size; omega)
           obtain ⟨_, hv, hD, hE⟩ := hD
           injection hv with hv
           subst hv
           exact ⟨_, _, _, _, rfl, ⟨k0, k1, k2⟩, hD, hE⟩))
  case rest =>
    obtain ⟨gg, g0, g1, g2, rfl, Bg, ng, F0⟩ := hcut
    clear a0 a1 a2 l0 l1 l2 h0 h1 h2
    replace T := T.ext F0
    replace na := na.ext F0
    replace nl := nl.ext F0
    replace nh := nh.ext F0
    replace Ba := Ba.ext F0
    replace Bl := Bl.ext F0
    replace Bh := Bh.ext F0
    replace E0 := E0.trans F0
    clear F0
    have hlt_a := World.block_lt_of_cell? wc _ Ba.c0
    simp only at hlt_a
    go_upto_region 12 with fail
    go_cut [10] from 11 (fun px wx => ∃ (gx : Nat) (x y z : Value), px = .pointer (some ⟨gx, 0, none⟩) ∧ Box wx gx x y z ∧ Dn wx (.agg #[x, y, z]) G ∧ Ext wc wx)
    case first =>
      obtain ⟨a0, a1, a2⟩ := id Ba
      have hna : w.heap.size ≠ wc.heap.size := by omega
      have hna1 : w.heap.size ≠ wc.heap.size + 1 := by omega
      have nM := na.nat ca
      have hw1 : IntKind.i64.wrap (ia + (B : Int)) = ia + (B : Int) := IntWalk.i64_in _ (by omega)
      have hw2 : IntKind.i64.wrap (ia + (B : Int) - (k : Int)) = ia + (j : Int) := by rw [IntWalk.i64_in _ (by omega)]; omega
      clear hj2
      go_region_held3 (fun w' => w'.cell? ⟨w.heap.size, 0, none⟩ = some (.bool nba) ∧ w'.cell? ⟨w.heap.size, 1, none⟩ = some Ma ∧ w'.cell? ⟨w.heap.size, 2, none⟩ = some (.int .i64 ia)) (first | (with_reducible exact box3 (Ba.ext (Ext.refl _).drew)) | (with_reducible exact box3 (Ba.ext ((Ext.refl _).alloc _).drew)) | (with_reducible exact box3 (Ba.ext (((Ext.refl _).alloc _).alloc _).drew)) | go_keep) (first | ((go_at_call 32); (refine (HL.out _ _ (nM.ext (by first | exact (Ext.refl _).drew | exact ((Ext.refl _).alloc _).drew | exact (((Ext.refl _).alloc _).alloc _).drew | exact (Ext.refl _).drew.alloc _))).mono ?_); (rintro _ _ ⟨rfl, rfl⟩)))
      all_goals (
        go_wp2_with fail
        go_meet
        case rel =>
          rw [← HGG.out]
          first
          | exact ⟨_, _, _, _, rfl, Box.at (Ext.refl _).drew (by simp), (lit_dn wc 1 _ 1 false _ (by omega) (by omega) (by omega) (by decide)).ext ((Ext.refl _).alloc _).drew, (((Ext.refl _).alloc _).alloc _).drew⟩
          | exact ⟨_, _, _, _, rfl, Box.at ((Ext.refl _).alloc _).drew (by simp), lit_next wc _ 1 _ 1 false _ (by omega) (by omega) (by omega) (by decide), (((Ext.refl _).alloc _).alloc _).drew⟩)
    case rest =>
      obtain ⟨go, o0, o1, o2, rfl, Bo, no, F0⟩ := hcut
      replace T := T.ext F0
      replace na := na.ext F0
      replace nl := nl.ext F0
      replace nh := nh.ext F0
      replace ng := ng.ext F0
      replace Ba := Ba.ext F0
      replace Bl := Bl.ext F0
      replace Bh := Bh.ext F0
      replace Bg := Bg.ext F0
      replace E0 := E0.trans F0
      clear F0
      obtain ⟨ay0, ay1, ay2⟩ := id Ba
      obtain ⟨ly0, ly1, ly2⟩ := id Bl
      obtain ⟨hy0, hy1, hy2⟩ := id Bh
      obtain ⟨gy0, gy1, gy2⟩ := id Bg
      obtain ⟨oy0, oy1, oy2⟩ := id Bo
      go_wp2_with fail
      refine (rsameD_eq _ _ _ G ng no).mono ?_
      rintro _ w19 ⟨rfl, e19⟩
      clear ay0 ay1 ay2 ly0 ly1 ly2 hy0 hy1 hy2 gy0 gy1 gy2 oy0 oy1 oy2
      replace T := T.ext e19
      replace na := na.ext e19
      replace nl := nl.ext e19
      replace nh := nh.ext e19
      replace ng := ng.ext e19
      replace no := no.ext e19
      replace Ba := Ba.ext e19
      replace Bl := Bl.ext e19
      replace Bh := Bh.ext e19
      replace Bg := Bg.ext e19
      replace Bo := Bo.ext e19
      replace E0 := E0.trans e19
      clear e19
      obtain ⟨ay0, ay1, ay2⟩ := id Ba
      obtain ⟨ly0, ly1, ly2⟩ := id Bl
      obtain ⟨hy0, hy1, hy2⟩ := id Bh
      obtain ⟨gy0, gy1, gy2⟩ := id Bg
      obtain ⟨oy0, oy1, oy2⟩ := id Bo
      go_wp2_with fail
      refine (cmp_lit _ _ _ lo (dy za ia) 200 393 200 392 (-1) HS.out.below nl na rlo ra (by omega) (by omega)).mono ?_
      rintro _ w20 ⟨rfl, e20⟩
      clear ay0 ay1 ay2 ly0 ly1 ly2 hy0 hy1 hy2 gy0 gy1 gy2 oy0 oy1 oy2
      replace T := T.ext e20
      replace na := na.ext e20
      replace nl := nl.ext e20
      replace nh := nh.ext e20
      replace ng := ng.ext e20
      replace no := no.ext e20
      replace Ba := Ba.ext e20
      replace Bl := Bl.ext e20
      replace Bh := Bh.ext e20
      replace Bg := Bg.ext e20
      replace Bo := Bo.ext e20
      replace E0 := E0.trans e20
      clear e20
      obtain ⟨ay0, ay1, ay2⟩ := id Ba
      obtain ⟨ly0, ly1, ly2⟩ := id Bl
      obtain ⟨hy0, hy1, hy2⟩ := id Bh
      obtain ⟨gy0, gy1, gy2⟩ := id Bg
      obtain ⟨oy0, oy1, oy2⟩ := id Bo
      go_wp2_with fail
      refine (cmp_lit _ _ _ hi (dy za ia) 200 393 200 392 1 HS.out.above nh na rhi ra (by omega) (by omega)).mono ?_
      rintro _ w21 ⟨rfl, e21⟩
      clear ay0 ay1 ay2 ly0 ly1 ly2 hy0 hy1 hy2 gy0 gy1 gy2 oy0 oy1 oy2
      replace T := T.ext e21
      replace na := na.ext e21
      replace nl := nl.ext e21
      replace nh := nh.ext e21
      replace ng := ng.ext e21
      replace no := no.ext e21
      replace Ba := Ba.ext e21
      replace Bl := Bl.ext e21
      replace Bh := Bh.ext e21
      replace Bg := Bg.ext e21
      replace Bo := Bo.ext e21
      replace E0 := E0.trans e21
      clear e21
      go_wp2
      go_ret
      exact ⟨rfl, E0⟩

set_option maxRecDepth 100000 in
set_option maxHeartbeats 8000000 in
theorem cut_short (w : World) (T : Tb w) (nba : Bool) (Ma : Value) (xa : List Int) (ia : Int) (rowa : Row w Ma xa) (bda : -9223372036854775808 ≤ ia ∧ ia ≤ 9223372036854775807) (n : Int) (k : Nat) (hkk : n % 40 + 1 = (k : Int)) (hk1 : 1 ≤ k) (hk2 : k ≤ 40) (hn : 0 ≤ n ∧ n ≤ 255) (hg : goodAll 1 (pk nba nba nba) (pk xa xa xa) (pk ia ia ia) = true) (za : Int) (na : Dn w (.agg #[.bool nba, Ma, .int .i64 ia]) (dy za ia)) (ca : Canon za ia) (la : za.natAbs < 2 ^ 192) (ja1 : -200 ≤ ia) (ja2 : ia ≤ 200) (ra : Rg 200 392 (dy za ia)) (hb : bl za.natAbs ≤ k) :
    Calls Tryd.prog 6 #[.agg #[.bool nba, Ma, .int .i64 ia], .int .u8 n] w (RetE w (.bool true)) := by
  have q1 : cutD za ia k false = dy za ia := cut_same hb
  have q2 : cutD za ia k true = dy za ia := cut_same hb
  have few : Few k (dy za ia) := ⟨za, ia, rfl, Nat.le_of_lt (Nat.lt_of_lt_of_le (bl_lt _) (Nat.pow_le_pow_right (by omega) hb))⟩
  have q3 : cmpD (dy za ia) (dy za ia) = 0 := by rw [cmpD_eq]
  have HQ := Lib.hid (And.intro q1 (And.intro q2 q3))
  clear q1 q2 q3
  have lz : Lt 400 za.natAbs := Lt.of_bits (Nat.le_trans (bl_of_lt la) (by omega))
  obtain ⟨B, hB⟩ : ∃ B, bl za.natAbs = B := ⟨_, rfl⟩
  have HL : Hid (∀ (w' : World) (v : Value), N w' v za.natAbs → Calls Tryd.prog 32 #[v] w' fun e w'' => e = .returned (.int .i64 (B : Int)) ∧ w' = w'') := Lib.hid (fun w' v h => by rw [← hB]; exact rlen_any w' v _ h lz)
  have hB2 := bl_of_lt la
  rw [hB] at hB2 hb
  go_enter Tryd.func6, Tryd.ntmps6
  go_wp2_with fail
  refine (headD_any _ (T.ext ((Ext.refl w).alloc _))).mono ?_
  rintro _ w1 ⟨rfl, e1⟩
  have E0 : Ext w w1 := ((Ext.refl w).alloc _).trans e1
  have Ba : Box w1 (w.heap.size) (.bool nba) Ma (.int .i64 ia) := Box.at ((Ext.refl _).trans e1) (by simp)
  replace T := T.ext E0
  replace rowa := rowa.ext E0
  clear e1
  replace na := na.ext E0
  obtain ⟨a0, a1, a2⟩ := id Ba
  have HG := Lib.hid (good_any _ _ 1 1 _ _ _ _ (by omega) (many1 w1 24 nba Ma xa ia rowa bda))
  rw [hg] at HG
  clear hg
  go_wp2_with fail
  refine HG.out.mono ?_
  rintro _ w2 ⟨rfl, f2⟩
  have e2 : Ext w1 w2 := ((Ext.refl _).alloc _).trans f2
  clear HG f2 rowa a0 a1 a2 bda
  replace T := T.ext e2
  replace na := na.ext e2
  replace Ba := Ba.ext e2
  replace E0 := E0.trans e2
  clear e2
  obtain ⟨a0, a1, a2⟩ := id Ba
  clear hB
  go_wp2_with fail
  refine (cut_lit _ _ za ia _ k 200 392 false (dy za ia) (dy za ia) (by first | rfl | omega) rfl HQ.out.1 na ca ra (by omega) (by omega) T).mono ?_
  rintro _ w3 ⟨v3, rfl, nl, e3⟩
  obtain ⟨b3, A3, l3, c3, i3, rfl⟩ := nl.form
  have f3 : Ext w3 (w3.alloc (.cells #[.bool b3, .slice A3 l3 c3, .int .i64 i3] 24)) := (Ext.refl _).alloc _
  have Bl : Box (w3.alloc (.cells #[.bool b3, .slice A3 l3 c3, .int .i64 i3] 24)) w3.heap.size (.bool b3) (.slice A3 l3 c3) (.int .i64 i3) := Box.at (Ext.refl _) rfl
  clear a0 a1 a2
  replace nl := nl.ext f3
  have g3 := e3.trans f3
  replace T := T.ext g3
  replace na := na.ext g3
  replace Ba := Ba.ext g3
  replace E0 := E0.trans g3
  clear e3 f3 g3
  obtain ⟨a0, a1, a2⟩ := id Ba
  obtain ⟨l0, l1, l2⟩ := id Bl
  go_wp2_with fail
  refine (cut_lit _ _ za ia _ k 200 392 true (dy za ia) (dy za ia) (by first | rfl | omega) rfl HQ.out.2.1 na ca ra (by omega) (by omega) T).mono ?_
  rintro _ w4 ⟨v4, rfl, nh, e4⟩
  obtain ⟨b4, A4, l4, c4, i4, rfl⟩ := nh.form
  have f4 : Ext w4 (w4.alloc (.cells #[.bool b4, .slice A4 l4 c4, .int .i64 i4] 24)) := (Ext.refl _).alloc _
  have Bh : Box (w4.alloc (.cells #[.bool b4, .slice A4 l4 c4, .int .i64 i4] 24)) w4.heap.size (.bool b4) (.slice A4 l4 c4) (.int .i64 i4) := Box.at (Ext.refl _) rfl
  clear a0 a1 a2 l0 l1 l2
  replace nh := nh.ext f4
  have g4 := e4.trans f4
  replace T := T.ext g4
  replace na := na.ext g4
  replace nl := nl.ext g4
  replace Ba := Ba.ext g4
  replace Bl := Bl.ext g4
  replace E0 := E0.trans g4
  clear e4 f4 g4
  obtain ⟨a0, a1, a2⟩ := id Ba
  obtain ⟨l0, l1, l2⟩ := id Bl
  obtain ⟨h0, h1, h2⟩ := id Bh
  go_wp2_with fail
  refine (rrightDn_any _ _ (dy za ia) 200 392 nl ra (by omega)).mono ?_
  rintro _ w5 ⟨rfl, e5⟩
  clear a0 a1 a2 l0 l1 l2 h0 h1 h2
  replace T := T.ext e5
  replace na := na.ext e5
  replace nl := nl.ext e5
  replace nh := nh.ext e5
  replace Ba := Ba.ext e5
  replace Bl := Bl.ext e5
  replace Bh := Bh.ext e5
  replace E0 := E0.trans e5
  clear e5
  obtain ⟨a0, a1, a2⟩ := id Ba
  obtain ⟨l0, l1, l2⟩ := id Bl
  obtain ⟨h0, h1, h2⟩ := id Bh
  go_wp2_with fail
  refine (rrightDn_any _ _ (dy za ia) 200 392 nh ra (by omega)).mono ?_
  rintro _ w6 ⟨rfl, e6⟩
  clear a0 a1 a2 l0 l1 l2 h0 h1 h2
  replace T := T.ext e6
  replace na := na.ext e6
  replace nl := nl.ext e6
  replace nh := nh.ext e6
  replace Ba := Ba.ext e6
  replace Bl := Bl.ext e6
  replace Bh := Bh.ext e6
  replace E0 := E0.trans e6
  clear e6
  obtain ⟨a0, a1, a2⟩ := id Ba
  obtain ⟨l0, l1, l2⟩ := id Bl
  obtain ⟨h0, h1, h2⟩ := id Bh
  go_wp2_with fail
  refine (lenFew_any _ _ _ _ (dy za ia) k 200 392 nl few ra (by omega) hk1).mono ?_
  rintro _ _ ⟨t1, rfl, rfl, t1a, t1b⟩
  have t1c : ¬ ((k : Int) < (t1 : Int)) := by omega
  go_wp2_with fail
  refine (lenFew_any _ _ _ _ (dy za ia) k 200 392 nh few ra (by omega) hk1).mono ?_
  rintro _ _ ⟨t2, rfl, rfl, t2a, t2b⟩
  have t2c : ¬ ((k : Int) < (t2 : Int)) := by omega
  go_wp2_with fail
  refine (cmp_lit _ _ _ (dy za ia) (dy za ia) 200 392 200 392 0 HQ.out.2.2 nl na ra ra (by omega) (by omega)).mono ?_
  rintro _ w7 ⟨rfl, e7⟩
  clear a0 a1 a2 l0 l1 l2 h0 h1 h2
  replace T := T.ext e7
  replace na := na.ext e7
  replace nl := nl.ext e7
  replace nh := nh.ext e7
  replace Ba := Ba.ext e7
  replace Bl := Bl.ext e7
  replace Bh := Bh.ext e7
  replace E0 := E0.trans e7
  clear e7
  obtain ⟨a0, a1, a2⟩ := id Ba
  obtain ⟨l0, l1, l2⟩ := id Bl
  obtain ⟨h0, h1, h2⟩ := id Bh
  go_wp2_with fail
  refine (cmp_lit _ _ _ (dy za ia) (dy za ia) 200 392 200 392 0 HQ.out.2.2 nh na ra ra (by omega) (by omega)).mono ?_
  rintro _ w8 ⟨rfl, e8⟩
  clear a0 a1 a2 l0 l1 l2 h0 h1 h2
  replace T := T.ext e8
  replace na := na.ext e8
  replace nl := nl.ext e8
  replace nh := nh.ext e8
  replace Ba := Ba.ext e8
  replace Bl := Bl.ext e8
  replace Bh := Bh.ext e8
  replace E0 := E0.trans e8
  clear e8
  obtain ⟨a0, a1, a2⟩ := id Ba
  obtain ⟨l0, l1, l2⟩ := id Bl
  obtain ⟨h0, h1, h2⟩ := id Bh
  go_wp2_with fail
  refine (HL.out _ _ (na.nat ca)).mono ?_
  rintro _ _ ⟨rfl, rfl⟩
  have hbk : ((B : Int) ≤ (k : Int)) := by omega
  go_wp2_with fail
  refine (rsameD_eq _ _ _ (dy za ia) nl na).mono ?_
  rintro _ w9 ⟨rfl, e9⟩
  clear a0 a1 a2 l0 l1 l2 h0 h1 h2
  replace T := T.ext e9
  replace na := na.ext e9
  replace nl := nl.ext e9
  replace nh := nh.ext e9
  replace Ba := Ba.ext e9
  replace Bl := Bl.ext e9
  replace Bh := Bh.ext e9
  replace E0 := E0.trans e9
  clear e9
  obtain ⟨a0, a1, a2⟩ := id Ba
  obtain ⟨l0, l1, l2⟩ := id Bl
  obtain ⟨h0, h1, h2⟩ := id Bh
  go_wp2_with fail
  refine (rsameD_eq _ _ _ (dy za ia) nh na).mono ?_
  rintro _ w10 ⟨rfl, e10⟩
  clear a0 a1 a2 l0 l1 l2 h0 h1 h2
  replace T := T.ext e10
  replace na := na.ext e10
  replace nl := nl.ext e10
  replace nh := nh.ext e10
  replace Ba := Ba.ext e10
  replace Bl := Bl.ext e10
  replace Bh := Bh.ext e10
  replace E0 := E0.trans e10
  clear e10
  obtain ⟨a0, a1, a2⟩ := id Ba
  obtain ⟨l0, l1, l2⟩ := id Bl
  obtain ⟨h0, h1, h2⟩ := id Bh
  go_wp2
  go_ret
  exact ⟨rfl, E0⟩

set_option maxRecDepth 100000 in
theorem cut_bad (w : World) (T : Tb w) (nba : Bool) (Ma : Value) (xa : List Int) (ia : Int) (rowa : Row w Ma xa) (bda : -9223372036854775808 ≤ ia ∧ ia ≤ 9223372036854775807) (n : Int)  (hg : goodAll 1 (pk nba nba nba) (pk xa xa xa) (pk ia ia ia) = false) :
    Calls Tryd.prog 6 #[.agg #[.bool nba, Ma, .int .i64 ia], .int .u8 n] w (RetE w (.bool true)) := by
  go_enter Tryd.func6, Tryd.ntmps6
  go_wp2_with fail
  refine (headD_any _ (T.ext ((Ext.refl w).alloc _))).mono ?_
  rintro _ w1 ⟨rfl, e1⟩
  have E0 : Ext w w1 := ((Ext.refl w).alloc _).trans e1
  have Ba : Box w1 (w.heap.size) (.bool nba) Ma (.int .i64 ia) := Box.at ((Ext.refl _).trans e1) (by simp)
  replace T := T.ext E0
  replace rowa := rowa.ext E0
  clear e1
  obtain ⟨a0, a1, a2⟩ := id Ba
  have HG := Lib.hid (good_any _ _ 1 1 _ _ _ _ (by omega) (many1 w1 24 nba Ma xa ia rowa bda))
  rw [hg] at HG
  clear hg
  go_wp2_with fail
  refine HG.out.mono ?_
  rintro _ w2 ⟨rfl, f2⟩
  have e2 : Ext w1 w2 := ((Ext.refl _).alloc _).trans f2
  go_wp2
  go_ret
  exact ⟨rfl, E0.trans e2⟩

theorem walk_DyaCut (w : World) (T : Tb w) (nba : Bool) (Ma : Value) (xa : List Int) (ia : Int) (rowa : Row w Ma xa) (bda : -9223372036854775808 ≤ ia ∧ ia ≤ 9223372036854775807) (n : Int) (hn : 0 ≤ n ∧ n ≤ 255) :
    Calls Tryd.prog 6 #[.agg #[.bool nba, Ma, .int .i64 ia], .int .u8 n] w (RetE w (.bool true)) := by
  cases hg : goodAll 1 (pk nba nba nba) (pk xa xa xa) (pk ia ia ia)
  · exact cut_bad w T nba Ma xa ia rowa bda n hg
  · obtain ⟨za, na, ca, la, ja1, ja2, ra⟩ := good_num rowa ((pk_all (goodAll_true hg)).1 (by omega))
    obtain ⟨k, hk⟩ : ∃ k : Nat, n % 40 + 1 = (k : Int) := ⟨(n % 40 + 1).toNat, by omega⟩
    rcases Nat.lt_or_ge k (bl za.natAbs) with hb | hb
    · exact cut_long w T nba Ma xa ia rowa bda n k hk (by omega) (by omega) hn hg za na ca la ja1 ja2 ra hb
    · exact cut_short w T nba Ma xa ia rowa bda n k hk (by omega) (by omega) hn hg za na ca la ja1 ja2 ra hb

end Go.Proofs.YtjnnodbejnmkmaaDoor
