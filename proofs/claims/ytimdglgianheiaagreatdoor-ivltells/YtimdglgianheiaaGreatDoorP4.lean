/- Walks of package ivl: Has, Inside, Right, Cut. -/
import Derived.Test.YtimdglgianheiaaGreatDoorP3
namespace Go.Proofs.YtimdglgianheiaaGreatDoor
open Go.RowKit
theorem cmp_le (x y : Dyadic) : cmpD x y ≤ 0 ↔ x ≤ y := by
  unfold cmpD
  split
  · rename_i h; exact ⟨fun _ => by grind, fun _ => by omega⟩
  · split
    · rename_i h; exact ⟨fun _ => by grind, fun _ => by omega⟩
    · exact ⟨fun h => by omega, fun h => by grind⟩
theorem cmp_lt (x y : Dyadic) : cmpD x y < 0 ↔ x < y := by
  unfold cmpD
  split
  · rename_i h; exact ⟨fun _ => h, fun _ => by omega⟩
  · split
    · rename_i h; exact ⟨fun _ => by omega, fun _ => by grind⟩
    · exact ⟨fun h => by omega, fun h => by grind⟩
def hasB (l h x : Dyadic) : Bool := decide (l ≤ x) && decide (x ≤ h)
open Classical in
/-- The greatest number of at most k bits that is at most x, and its like. -/
noncomputable def clo (k : Nat) (x : Dyadic) : Dyadic := if h : ∃ c, Clo k x c then h.choose else 0
open Classical in
noncomputable def chi (k : Nat) (x : Dyadic) : Dyadic := if h : ∃ c, Chi k x c then h.choose else 0
open Classical in
noncomputable def rlo (k : Nat) (x : Dyadic) : Dyadic := if h : ∃ c, Rlo k x c then h.choose else 0
open Classical in
noncomputable def rhi (k : Nat) (x : Dyadic) : Dyadic := if h : ∃ c, Rhi k x c then h.choose else 0
theorem Clo.is {k : Nat} {x c : Dyadic} (h : Clo k x c) : clo k x = c := by
  have hx : ∃ c, Clo k x c := ⟨c, h⟩
  unfold clo; rw [dif_pos hx]
  have g := hx.choose_spec
  have := h.mono g (Std.le_refl x); have := g.mono h (Std.le_refl x); grind
theorem Chi.is {k : Nat} {x c : Dyadic} (h : Chi k x c) : chi k x = c := by
  have hx : ∃ c, Chi k x c := ⟨c, h⟩
  unfold chi; rw [dif_pos hx]
  have g := hx.choose_spec
  have := h.mono g (Std.le_refl x); have := g.mono h (Std.le_refl x); grind
theorem Rlo.is {k : Nat} {x c : Dyadic} (h : Rlo k x c) : rlo k x = c := by
  have hx : ∃ c, Rlo k x c := ⟨c, h⟩
  unfold rlo; rw [dif_pos hx]; exact (h.uniq hx.choose_spec).symm
theorem Rhi.is {k : Nat} {x c : Dyadic} (h : Rhi k x c) : rhi k x = c := by
  have hx : ∃ c, Rhi k x c := ⟨c, h⟩
  unfold rhi; rw [dif_pos hx]; exact (h.uniq hx.choose_spec).symm
theorem dn_canon {w : World} {v : Value} {d : Dyadic} (h : Dn w v d) : ∃ z e, d = dy z e ∧ Canon z e := by
  obtain ⟨M, z, e, _, _, hc, hd⟩ := h
  exact ⟨z, e, hd, hc⟩
theorem clo_is {k : Nat} {z e : Int} (hc : Canon z e) (hk : 1 ≤ k) : clo k (dy z e) = cutD z e k false := (cut_spec' hc hk).1.is
theorem chi_is {k : Nat} {z e : Int} (hc : Canon z e) (hk : 1 ≤ k) : chi k (dy z e) = cutD z e k true := (cut_spec' hc hk).2.is
theorem canon_of (x : Dyadic) : ∃ z e, x = dy z e ∧ Canon z e := by
  cases x with
  | zero => exact ⟨0, 0, (dy_zero 0).symm, ⟨.inl ⟨rfl, rfl⟩⟩⟩
  | ofOdd n k hn => exact ⟨n, -k, by rw [dy_odd hn, Int.neg_neg], ⟨.inr hn⟩⟩
theorem clo_spec {k : Nat} (x : Dyadic) (hk : 1 ≤ k) : Clo k x (clo k x) := by
  obtain ⟨z, e, rfl, hc⟩ := canon_of x
  rw [clo_is hc hk]; exact (cut_spec' hc hk).1
theorem chi_spec {k : Nat} (x : Dyadic) (hk : 1 ≤ k) : Chi k x (chi k x) := by
  obtain ⟨z, e, rfl, hc⟩ := canon_of x
  rw [chi_is hc hk]; exact (cut_spec' hc hk).2
theorem cut_rg {P Q k : Nat} {z e : Int} {up : Bool} (hc : Canon z e) (r : Rg P Q (dy z e)) (hk : 1 ≤ k) : Rg P (Q + 1) (cutD z e k up) := by
  by_cases hb : bl z.natAbs ≤ k
  · rw [cut_same hb]; exact r.mono (by omega) (by omega)
  · obtain ⟨h1, h2, h3⟩ := r.canon hc
    obtain ⟨X, hX, hX1, hX2⟩ := r.out
    rw [dy_down z e P (by omega)] at hX
    have hX3 := dy_inj hX
    obtain ⟨s, hs⟩ : ∃ s, (e + P).toNat = s := ⟨_, rfl⟩
    rw [hs] at hX3
    unfold cutD
    rw [if_neg hb]
    obtain ⟨j, hj⟩ : ∃ j, bl z.natAbs - k = j := ⟨_, rfl⟩
    rw [hj]
    obtain ⟨u, hu⟩ : ∃ u : Nat, (if up = decide (z < 0) then 0 else 1) = u := ⟨_, rfl⟩
    have hu1 : u ≤ 1 := by rw [← hu]; split <;> omega
    rw [hu]
    have hz0 : z.natAbs ≠ 0 := by intro h0; apply hb; rw [h0, bl_zero]; omega
    have hp : 2 ^ j ≤ z.natAbs := Nat.le_trans (Nat.pow_le_pow_right (by omega) (show j ≤ bl z.natAbs - 1 by omega)) (bl_le hz0)
    have hq : (z.natAbs / 2 ^ j + u) * 2 ^ j ≤ 2 * z.natAbs := by
      have := Nat.div_mul_le_self z.natAbs (2 ^ j)
      have h4 : u * 2 ^ j ≤ 1 * 2 ^ j := Nat.mul_le_mul_right _ hu1
      rw [Nat.add_mul]; omega
    generalize z.natAbs / 2 ^ j + u = q at hq
    refine ⟨sg (decide (z < 0)) q * 2 ^ (j + s), ?_, ?_⟩
    · rw [dy_down _ _ P (by omega)]
      congr 2
      congr 1
      omega
    · have h5 : (q * 2 ^ (j + s) : Nat) ≤ 2 * (z.natAbs * 2 ^ s) := by
        rw [Nat.pow_add, ← Nat.mul_assoc, ← Nat.mul_assoc]
        exact Nat.mul_le_mul_right _ hq
      have h6 : (z.natAbs * 2 ^ s : Nat) = X.natAbs := by rw [← hX3, Int.natAbs_mul, Int.natAbs_pow]; rfl
      have e1 : (2 : Int) ^ (P + (Q + 1)) = 2 * 2 ^ (P + Q) := by rw [← Nat.add_assoc, Int.pow_succ, Int.mul_comm]
      have e2 : ((q * 2 ^ (j + s) : Nat) : Int) = (q : Int) * 2 ^ (j + s) := by rw [Int.natCast_mul, Int.natCast_pow]; rfl
      rw [h6] at h5
      rw [e1]
      unfold sg
      split
      · rw [Int.neg_mul, ← e2]; omega
      · rw [← e2]; omega
theorem clo_rg {P Q k : Nat} {x : Dyadic} (r : Rg P Q x) (hk : 1 ≤ k) : Rg P (Q + 1) (clo k x) := by
  obtain ⟨z, e, rfl, hc⟩ := canon_of x
  rw [clo_is hc hk]; exact cut_rg hc r hk
theorem chi_rg {P Q k : Nat} {x : Dyadic} (r : Rg P Q x) (hk : 1 ≤ k) : Rg P (Q + 1) (chi k x) := by
  obtain ⟨z, e, rfl, hc⟩ := canon_of x
  rw [chi_is hc hk]; exact cut_rg hc r hk
theorem cutl_any (w : World) (v : Value) (x : Dyadic) (n : Int) (k P Q : Nat) (hn : n = (k : Int)) (h : Dn w v x) (r : Rg P Q x) (hb : P + Q ≤ 4800) (hk : 1 ≤ k) (hk2 : k ≤ 100000) (T : Tb w) : Calls Tryz.prog 50 #[v, .int .i64 n, .bool false] w (RetD w (clo k x)) := by
  obtain ⟨z, e, rfl, hc⟩ := canon_of x
  subst hn
  rw [clo_is hc hk]; exact cutD_any w v z e k P Q false h hc r hb hk2 T
theorem cuth_any (w : World) (v : Value) (x : Dyadic) (n : Int) (k P Q : Nat) (hn : n = (k : Int)) (h : Dn w v x) (r : Rg P Q x) (hb : P + Q ≤ 4800) (hk : 1 ≤ k) (hk2 : k ≤ 100000) (T : Tb w) : Calls Tryz.prog 50 #[v, .int .i64 n, .bool true] w (RetD w (chi k x)) := by
  obtain ⟨z, e, rfl, hc⟩ := canon_of x
  subst hn
  rw [chi_is hc hk]; exact cutD_any w v z e k P Q true h hc r hb hk2 T
set_option maxRecDepth 4000 in
set_option maxHeartbeats 1000000 in
theorem icut_any (w : World) (va : Value) (l h : Dyadic) (j : Int) (k P Q : Nat) (hj : j = (k : Int)) (ha : In w va l h) (r1 : Rg P Q l) (r2 : Rg P Q h) (hp : P + Q ≤ 4800) (hk : 1 ≤ k) (hk2 : k ≤ 100000) (T : Tb w) :
    Calls Tryz.prog 29 #[va, .int .i64 j] w (RetI w (clo k l) (chi k h)) := by
  subst hj
  obtain ⟨ba, Aa, na, ca, ea, ba', Aa', na', ca', ea', rfl, a1, a2⟩ := ha
  go_enter Tryz.func29, Tryz.ntmps29
  go_wp2
  generalize hW0 : ((w.alloc (.cells #[.bool ba, .slice Aa na ca, .int .i64 ea, .bool ba', .slice Aa' na' ca', .int .i64 ea'] 26)).alloc (.cells #[.bool false, .slice none 0 0, .int .i64 0, .bool false, .slice none 0 0, .int .i64 0] 26)) = W0
  have Ba : Bx W0 (w.heap.size) (.bool ba) (.slice Aa na ca) (.int .i64 ea) (.bool ba') (.slice Aa' na' ca') (.int .i64 ea') := by rw [← hW0]; exact Bx.at ((Ext.refl _).alloc _) (by simp)
  have Z0 : Zi W0 (w.heap.size + 1) := by rw [← hW0]; exact Zi.at (Ext.refl _) (by simp)
  have E0 : Ext w W0 := by rw [← hW0]; exact (((Ext.refl w).alloc _).alloc _)
  obtain ⟨Ba_0, Ba_1, Ba_2, Ba_3, Ba_4, Ba_5⟩ := id Ba
  have NBa : (w.heap.size : Nat) ≠ w.heap.size + 1 := by omega
  replace a1 := a1.ext E0
  replace a2 := a2.ext E0
  replace T := T.ext E0
  clear hW0
  go_region_held3 (fun w' => (w'.cell? ⟨w.heap.size, 0, none⟩ = some (.bool ba) ∧ w'.cell? ⟨w.heap.size, 1, none⟩ = some (.slice Aa na ca) ∧ w'.cell? ⟨w.heap.size, 2, none⟩ = some (.int .i64 ea) ∧ w'.cell? ⟨w.heap.size, 3, none⟩ = some (.bool ba') ∧ w'.cell? ⟨w.heap.size, 4, none⟩ = some (.slice Aa' na' ca') ∧ w'.cell? ⟨w.heap.size, 5, none⟩ = some (.int .i64 ea'))) (first | (with_reducible exact bx6 (Ba.ext F2)) | (with_reducible exact bx6 (Ba.ext F1)) | (with_reducible exact bx6 (Zi.keep (Ba.ext F2) NBa)) | go_keep) (first | ((have hF2 := F1); (go_at_call 50); (refine (cuth_any _ _ h _ k P Q rfl (a2.ext F1) r2 hp hk hk2 (T.ext F1)).mono ?_); (rintro _ u2 ⟨v2, rfl, m2, e2⟩); (have F2 : Ext W0 u2 := F1.trans e2); (replace m1 := m1.ext e2); (obtain ⟨y1, Y1, p1, q1, x1, rfl⟩ := m1.form); (obtain ⟨y2, Y2, p2, q2, x2, rfl⟩ := m2.form); (have Z1 := Z0.ext F2); (have g0 := Z1.c0); (have f0 := Z1.f 0); (have g1 := Z1.c1); (have f1 := Z1.f 1); (have g2 := Z1.c2); (have f2 := Z1.f 2); (have g3 := Z1.c3); (have f3 := Z1.f 3); (have g4 := Z1.c4); (have f4 := Z1.f 4); (have g5 := Z1.c5); (have f5 := Z1.f 5)) | ((go_at_call 50); (refine (cutl_any _ _ l _ k P Q rfl (a1.ext (Ext.refl W0).drew) r1 hp hk hk2 (T.ext (Ext.refl W0).drew)).mono ?_); (rintro _ u1 ⟨v1, rfl, m1, e1⟩); (have F1 : Ext W0 u1 := (Ext.refl W0).drew.trans e1)))
  go_wp2
  obtain ⟨k0, k1, k2, k3, k4, k5, hD⟩ := Z1.done m1 m2 (E0.trans F2) (by omega)
  exact bodyPost_ret (by simp [results, Tryz.results29, go_sem, k0, k1, k2, k3, k4, k5]) rfl hD
set_option maxRecDepth 4000 in
set_option maxHeartbeats 1000000 in
theorem has_any (w : World) (va vb : Value) (l h x : Dyadic) (P Q P' Q' : Nat) (ha : In w va l h) (hb : Dn w vb x) (r1 : Rg P Q l) (r2 : Rg P Q h) (r3 : Rg P' Q' x) (hp : P + Q ≤ 4800) (hp' : P' + Q' ≤ 4800) :
    Calls Tryz.prog 14 #[va, vb] w (RetE w (.bool (hasB l h x))) := by
  obtain ⟨ba, Aa, na, ca, ea, ba', Aa', na', ca', ea', rfl, a1, a2⟩ := ha
  obtain ⟨bb, Ab, nb, cb, eb, rfl⟩ := hb.form
  obtain ⟨t, ht⟩ : ∃ t, cmpD l x = t := ⟨_, rfl⟩
  obtain ⟨s, hs⟩ : ∃ s, cmpD x h = s := ⟨_, rfl⟩
  have k1 := cmp_le l x
  have k2 := cmp_le x h
  rw [ht] at k1
  rw [hs] at k2
  have HC1 := Lib.hid (fun (w' : World) (E : Ext w w') => ht ▸ cmpD_any w' _ _ l x P Q P' Q' (a1.ext E) (hb.ext E) r1 r3 hp hp')
  have HC2 := Lib.hid (fun (w' : World) (E : Ext w w') => hs ▸ cmpD_any w' _ _ x h P' Q' P Q (hb.ext E) (a2.ext E) r3 r2 hp' hp)
  clear ht hs
  by_cases q0 : l ≤ x
  · have j0 := k1.2 q0
    by_cases q1 : x ≤ h
    · have j1 := k2.2 q1
      go_enter Tryz.func14, Tryz.ntmps14
      go_wp2_with fail
      refine (HC1.out _ (((Ext.refl w).alloc _).alloc _)).mono ?_
      rintro _ w1 ⟨rfl, e1⟩
      have E1 : Ext w w1 := (((Ext.refl w).alloc _).alloc _).trans e1
      have Ba : Bx w1 (w.heap.size) (.bool ba) (.slice Aa na ca) (.int .i64 ea) (.bool ba') (.slice Aa' na' ca') (.int .i64 ea') := Bx.at (((Ext.refl _).alloc _).trans e1) (by simp)
      have Bb : Box w1 (w.heap.size + 1) (.bool bb) (.slice Ab nb cb) (.int .i64 eb) := Box.at ((Ext.refl _).trans e1) (by simp)
      obtain ⟨d0a0, d0a1, d0a2, d0a3, d0a4, d0a5⟩ := id Ba
      obtain ⟨d0b0, d0b1, d0b2⟩ := id Bb
      go_wp2_with fail
      refine (HC2.out _ E1).mono ?_
      rintro _ w2 ⟨rfl, e2⟩
      have E2 : Ext w w2 := E1.trans e2
      replace Ba := Ba.ext e2
      replace Bb := Bb.ext e2
      go_wp2
      go_ret
      exact ⟨by simp [hasB, q0, q1], E2⟩
    · have j1 : ¬ s ≤ 0 := fun h0 => q1 (k2.1 h0)
      go_enter Tryz.func14, Tryz.ntmps14
      go_wp2_with fail
      refine (HC1.out _ (((Ext.refl w).alloc _).alloc _)).mono ?_
      rintro _ w1 ⟨rfl, e1⟩
      have E1 : Ext w w1 := (((Ext.refl w).alloc _).alloc _).trans e1
      have Ba : Bx w1 (w.heap.size) (.bool ba) (.slice Aa na ca) (.int .i64 ea) (.bool ba') (.slice Aa' na' ca') (.int .i64 ea') := Bx.at (((Ext.refl _).alloc _).trans e1) (by simp)
      have Bb : Box w1 (w.heap.size + 1) (.bool bb) (.slice Ab nb cb) (.int .i64 eb) := Box.at ((Ext.refl _).trans e1) (by simp)
      obtain ⟨d0a0, d0a1, d0a2, d0a3, d0a4, d0a5⟩ := id Ba
      obtain ⟨d0b0, d0b1, d0b2⟩ := id Bb
      go_wp2_with fail
      refine (HC2.out _ E1).mono ?_
      rintro _ w2 ⟨rfl, e2⟩
      have E2 : Ext w w2 := E1.trans e2
      replace Ba := Ba.ext e2
      replace Bb := Bb.ext e2
      go_wp2
      go_ret
      exact ⟨by simp [hasB, q0, q1], E2⟩
  · have j0 : ¬ t ≤ 0 := fun h0 => q0 (k1.1 h0)
    go_enter Tryz.func14, Tryz.ntmps14
    go_wp2_with fail
    refine (HC1.out _ (((Ext.refl w).alloc _).alloc _)).mono ?_
    rintro _ w1 ⟨rfl, e1⟩
    have E1 : Ext w w1 := (((Ext.refl w).alloc _).alloc _).trans e1
    have Ba : Bx w1 (w.heap.size) (.bool ba) (.slice Aa na ca) (.int .i64 ea) (.bool ba') (.slice Aa' na' ca') (.int .i64 ea') := Bx.at (((Ext.refl _).alloc _).trans e1) (by simp)
    have Bb : Box w1 (w.heap.size + 1) (.bool bb) (.slice Ab nb cb) (.int .i64 eb) := Box.at ((Ext.refl _).trans e1) (by simp)
    go_wp2
    go_ret
    exact ⟨by simp [hasB, q0], E1⟩
set_option maxRecDepth 4000 in
set_option maxHeartbeats 1000000 in
theorem inside_any (w : World) (va vb : Value) (l h l' h' : Dyadic) (P Q P' Q' : Nat) (ha : In w va l h) (hb : In w vb l' h') (r1 : Rg P Q l) (r2 : Rg P Q h) (r3 : Rg P' Q' l') (r4 : Rg P' Q' h') (hp : P + Q ≤ 4800) (hp' : P' + Q' ≤ 4800) :
    Calls Tryz.prog 16 #[va, vb] w (RetE w (.bool (hasB l' h' l && hasB l' h' h))) := by
  obtain ⟨ba, Aa, na, ca, ea, ba', Aa', na', ca', ea', rfl, a1, a2⟩ := ha
  obtain ⟨bb, Ab, nb, cb, eb, bb', Ab', nb', cb', eb', rfl, b1, b2⟩ := hb
  have HC1 := Lib.hid (fun (w' : World) (E : Ext w w') => has_any w' _ _ l' h' l P' Q' P Q ((In.mk b1 b2).ext E) (a1.ext E) r3 r4 r1 hp' hp)
  have HC2 := Lib.hid (fun (w' : World) (E : Ext w w') => has_any w' _ _ l' h' h P' Q' P Q ((In.mk b1 b2).ext E) (a2.ext E) r3 r4 r2 hp' hp)
  by_cases q0 : hasB l' h' l = true
  · rw [q0] at HC1
    by_cases q1 : hasB l' h' h = true
    · rw [q1] at HC2
      go_enter Tryz.func16, Tryz.ntmps16
      go_wp2_with fail
      refine (HC1.out _ (((Ext.refl w).alloc _).alloc _)).mono ?_
      rintro _ w1 ⟨rfl, e1⟩
      have E1 : Ext w w1 := (((Ext.refl w).alloc _).alloc _).trans e1
      have Ba : Bx w1 (w.heap.size) (.bool ba) (.slice Aa na ca) (.int .i64 ea) (.bool ba') (.slice Aa' na' ca') (.int .i64 ea') := Bx.at (((Ext.refl _).alloc _).trans e1) (by simp)
      have Bb : Bx w1 (w.heap.size + 1) (.bool bb) (.slice Ab nb cb) (.int .i64 eb) (.bool bb') (.slice Ab' nb' cb') (.int .i64 eb') := Bx.at ((Ext.refl _).trans e1) (by simp)
      obtain ⟨d0a0, d0a1, d0a2, d0a3, d0a4, d0a5⟩ := id Ba
      obtain ⟨d0b0, d0b1, d0b2, d0b3, d0b4, d0b5⟩ := id Bb
      go_wp2_with fail
      refine (HC2.out _ E1).mono ?_
      rintro _ w2 ⟨rfl, e2⟩
      have E2 : Ext w w2 := E1.trans e2
      replace Ba := Ba.ext e2
      replace Bb := Bb.ext e2
      go_wp2
      go_ret
      exact ⟨by simp [q0, q1], E2⟩
    · have q1 : hasB l' h' h = false := by simpa using q1
      go_enter Tryz.func16, Tryz.ntmps16
      go_wp2_with fail
      refine (HC1.out _ (((Ext.refl w).alloc _).alloc _)).mono ?_
      rintro _ w1 ⟨rfl, e1⟩
      have E1 : Ext w w1 := (((Ext.refl w).alloc _).alloc _).trans e1
      have Ba : Bx w1 (w.heap.size) (.bool ba) (.slice Aa na ca) (.int .i64 ea) (.bool ba') (.slice Aa' na' ca') (.int .i64 ea') := Bx.at (((Ext.refl _).alloc _).trans e1) (by simp)
      have Bb : Bx w1 (w.heap.size + 1) (.bool bb) (.slice Ab nb cb) (.int .i64 eb) (.bool bb') (.slice Ab' nb' cb') (.int .i64 eb') := Bx.at ((Ext.refl _).trans e1) (by simp)
      obtain ⟨d0a0, d0a1, d0a2, d0a3, d0a4, d0a5⟩ := id Ba
      obtain ⟨d0b0, d0b1, d0b2, d0b3, d0b4, d0b5⟩ := id Bb
      go_wp2_with fail
      refine (HC2.out _ E1).mono ?_
      rintro _ w2 ⟨rfl, e2⟩
      have E2 : Ext w w2 := E1.trans e2
      replace Ba := Ba.ext e2
      replace Bb := Bb.ext e2
      go_wp2
      go_ret
      exact ⟨by simp [q0, q1], E2⟩
  · have q0 : hasB l' h' l = false := by simpa using q0
    go_enter Tryz.func16, Tryz.ntmps16
    go_wp2_with fail
    refine (HC1.out _ (((Ext.refl w).alloc _).alloc _)).mono ?_
    rintro _ w1 ⟨rfl, e1⟩
    have E1 : Ext w w1 := (((Ext.refl w).alloc _).alloc _).trans e1
    have Ba : Bx w1 (w.heap.size) (.bool ba) (.slice Aa na ca) (.int .i64 ea) (.bool ba') (.slice Aa' na' ca') (.int .i64 ea') := Bx.at (((Ext.refl _).alloc _).trans e1) (by simp)
    have Bb : Bx w1 (w.heap.size + 1) (.bool bb) (.slice Ab nb cb) (.int .i64 eb) (.bool bb') (.slice Ab' nb' cb') (.int .i64 eb') := Bx.at ((Ext.refl _).trans e1) (by simp)
    go_wp2
    go_ret
    exact ⟨by simp [q0], E1⟩

end Go.Proofs.YtimdglgianheiaaGreatDoor
