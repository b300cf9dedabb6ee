/- Enclosures: roots. -/
import Derived.Test.YtomdbmjfehoodaaGreatDoorMP
set_option maxRecDepth 8000
/- Walks of package ivl: over, root. -/
namespace Go.Proofs.YtomdbmjfehoodaaGreatDoor
open Go.RowKit
def RetO (w : World) (s : Nat) (wh : Bool) (e : Ending) (w' : World) : Prop := ∃ v, e = .returned (.tuple #[v, .bool wh]) ∧ N w' v s ∧ Ext w w'
set_option maxHeartbeats 1000000 in
theorem over_down (w : World) (b : Bool) (A : Option Addr) (n c m K : Nat) (E f : Int) (hN : N w (.slice A n c) m) (lm : Lt 400 m) (hE : -100000 ≤ E ∧ E ≤ 100000) (hf : -100000 ≤ f ∧ f ≤ 100000) (hK : f - E = (K : Int)) (h : E < f) :
    Calls Tryz.prog 116 #[.agg #[.bool b, .slice A n c, .int .i64 E], .int .i64 f] w (RetO w (m / 2 ^ K) false) := by
  have HS := Lib.hid (fun (w' : World) (E' : Ext w w') => shr_nat w' _ m K (by omega) (hN.ext E') lm)
  clear hN
  go_enter Tryz.func116, Tryz.ntmps116
  go_wp2_with fail
  refine (HS.out _ ((Ext.refl w).alloc _)).mono ?_
  rintro _ w1 ⟨v1, rfl, m1, e1⟩
  go_wp2
  refine bodyPost_ret (v := .tuple #[v1, .bool false]) (by simp [results, Tryz.results116, go_sem]) rfl ?_
  exact ⟨v1, rfl, m1, ((Ext.refl w).alloc _).trans e1⟩
set_option maxHeartbeats 1000000 in
theorem over_up (w : World) (b : Bool) (A : Option Addr) (n c m K : Nat) (E f : Int) (hN : N w (.slice A n c) m) (lm : Lt 400 m) (hE : -10000 ≤ E ∧ E ≤ 10000) (hf : -10000 ≤ f ∧ f ≤ 10000) (hK : E - f = (K : Int)) (h : ¬ E < f) :
    Calls Tryz.prog 116 #[.agg #[.bool b, .slice A n c, .int .i64 E], .int .i64 f] w (RetO w (m * 2 ^ K) true) := by
  have HS := Lib.hid (fun (w' : World) (E' : Ext w w') => shl_nat w' _ m K (by omega) (hN.ext E') lm)
  clear hN
  go_enter Tryz.func116, Tryz.ntmps116
  go_wp2_with fail
  refine (HS.out _ ((Ext.refl w).alloc _)).mono ?_
  rintro _ w1 ⟨v1, rfl, m1, e1⟩
  go_wp2
  refine bodyPost_ret (v := .tuple #[v1, .bool true]) (by simp [results, Tryz.results116, go_sem]) rfl ?_
  exact ⟨v1, rfl, m1, ((Ext.refl w).alloc _).trans e1⟩
theorem cmp_nats (w : World) (va vb : Value) (m n : Nat) (ha : N w va m) (hb : N w vb n) : Calls Tryz.prog 104 #[va, vb] w (RetQ w (.int .i64 (cmpI m n))) := by
  obtain ⟨xs, r1, n1, e1⟩ := ha
  obtain ⟨ys, r2, n2, e2⟩ := hb
  rw [← e1, ← e2]
  exact cmp_rows w va vb xs ys r1 r2 n1 n2
/-- The natural that root makes. -/
def rootN (up wh : Bool) (s r : Nat) : Nat := if up && !(wh && decide (r * r = s)) then r + 1 else r
set_option maxRecDepth 4000 in
set_option maxHeartbeats 2000000 in
theorem root_main (w : World) (b : Bool) (A : Option Addr) (n c m k s : Nat) (E H G F : Int) (L : Nat) (wh up : Bool) (hN : N w (.slice A n c) m) (lm : Lt 100 m) (hL : bl m = L) (hE : -5000 ≤ E ∧ E ≤ 5000) (hk : k ≤ 1000) (hH : ((L : Int) + E + 1) / 2 = H) (hG : H - (k : Int) = G) (hF : 2 * G = F)
    (HO : Hid (∀ w', Ext w w' → Calls Tryz.prog 116 #[.agg #[.bool b, .slice A n c, .int .i64 E], .int .i64 F] w' (RetO w' s wh))) (ls : Lt 300 s) (T : Tb w) :
    Calls Tryz.prog 96 #[.agg #[.bool b, .slice A n c, .int .i64 E], .int .i64 k, .bool up] w (fun e w' => ∃ r, Sq s r ∧ RetD w (dy (rootN up wh s r) G) e w') := by
  have hL2 : L ≤ 2400 := by rw [← hL]; exact lm.bits
  have HL := Lib.hid (fun (w' : World) (E' : Ext w w') => hL ▸ len_any w' _ m (hN.ext E') (lm.mono (by omega)))
  have hw1 : IntKind.i64.wrap ((L : Int) + E) = (L : Int) + E := IntWalk.i64_in _ (by omega)
  have hw2 : IntKind.i64.wrap ((L : Int) + E + 1) = (L : Int) + E + 1 := IntWalk.i64_in _ (by omega)
  have hw4 : IntKind.i64.wrap (H - (k : Int)) = G := by rw [hG]; exact IntWalk.i64_in _ (by omega)
  have hw5 : IntKind.i64.wrap (2 * G) = F := by rw [hF]; exact IntWalk.i64_in _ (by omega)
  have hG2 : -1000000 ≤ G ∧ G ≤ 1000000 := by omega
  clear hL hF hG hE hL2 lm hN
  go_enter Tryz.func96, Tryz.ntmps96
  go_wp2
  generalize hW0 : ((w.alloc (.cells #[.bool b, .slice A n c, .int .i64 E] 26)).alloc (.cells #[.bool false, .slice none 0 0, .int .i64 0] 26)) = W0
  have B1 : Box W0 w.heap.size (.bool b) (.slice A n c) (.int .i64 E) := by rw [← hW0]; exact Box.at ((Ext.refl _).alloc _) rfl
  have Z0 : Zd W0 (w.heap.size + 1) := by rw [← hW0]; exact Zd.at (Ext.refl _) (by simp)
  have E0 : Ext w W0 := by rw [← hW0]; exact ((Ext.refl w).alloc _).alloc _
  clear hW0
  obtain ⟨p0, p1, p2⟩ := id B1
  replace T := T.ext E0
  go_region_held3 (fun w' => w'.cell? ⟨w.heap.size, 2, none⟩ = some (.int .i64 E) ∧ w'.cell? ⟨w.heap.size, 1, none⟩ = some (.slice A n c)) (first | go_keep) (first | ((go_at_call 115); (refine (HL.out _ E0.drew).mono ?_); (rintro _ w1 ⟨rfl, rfl⟩)))
  replace E0 := E0.drew
  replace B1 := B1.ext (Ext.refl W0).drew
  replace Z0 := Z0.ext (Ext.refl W0).drew
  replace T := T.ext (Ext.refl W0).drew
  generalize W0.drew = W1 at *
  obtain ⟨s0, s1, s2⟩ := id B1
  clear p0 p1 p2 HL
  go_wp2_with fail
  refine (HO.out _ E0).mono ?_
  rintro _ w2 ⟨v2, rfl, m2, e2⟩
  replace E0 := E0.trans e2
  replace Z0 := Z0.ext e2
  replace T := T.ext e2
  clear e2 B1 s0 s1 s2 HO
  go_wp2_with fail
  refine (root_any _ _ s m2 ls).mono ?_
  rintro _ w3 ⟨r, hr, v3, rfl, m3, e3⟩
  replace E0 := E0.trans e3
  replace Z0 := Z0.ext e3
  replace T := T.ext e3
  replace m2 := m2.ext e3
  clear e3
  have lr : Lt 300 r := ls.of_le (by have := hr.1; exact Nat.le_trans (Nat.le_mul_self r) this)
  have HR := Lib.hid hr
  clear hr
  have HM := Lib.hid (fun (w' : World) (v : Value) (q : Nat) (hq : Lt 400 q) (hv : N w' v q) (t : Tb w') => make_any w' false v q G hv hq hG2 t)
  cases up with
  | false =>
    have HX : Hid (rootN false wh s r = r) := Lib.hid (by simp [rootN])
    go_wp2_with (go_at_call 57; refine (HM.out _ _ r (lr.mono (by omega)) m3 T).mono ?_; rintro e w4 ⟨v4, rfl, n4, e4⟩; obtain ⟨b2, A2, l2, c2, ee2, rfl⟩ := n4.form; have Z2 := Z0.ext e4; have g0 := Z2.c0; have g1 := Z2.c1; have g2 := Z2.c2; have f0 := Z2.f 0; have f1 := Z2.f 1; have f2 := Z2.f 2)
    obtain ⟨k0, k1, k2, hD⟩ := Z2.done n4 (E0.trans e4) (by omega)
    refine bodyPost_ret (v := .agg #[.bool b2, .slice A2 l2 c2, .int .i64 ee2]) (by simp [results, Tryz.results96, go_sem, k0, k1, k2]) rfl ⟨r, HR.out, ?_⟩
    rw [HX.out]; exact hD
  | true =>
    cases wh with
    | false =>
      have HX : Hid (rootN true false s r = r + 1) := Lib.hid (by simp [rootN])
      go_wp2_with fail
      refine (of_any _ 1 (by omega)).mono ?_
      rintro _ w4 ⟨v4, rfl, m4, e4⟩
      go_wp2_with fail
      refine (add_any _ _ _ r _ (m3.ext e4) m4 (lr.mono (by omega)) (Lt.of_bits (by decide))).mono ?_
      rintro _ w5 ⟨v5, rfl, m5, e5⟩
      replace e5 := e4.trans e5
      replace E0 := E0.trans e5
      replace Z0 := Z0.ext e5
      replace T := T.ext e5
      clear e4 e5
      go_wp2_with (go_at_call 57; refine (HM.out _ _ (r + 1) ((lr.add (Lt.of_bits (k := 300) (m := 1) (by decide))).mono (by omega)) m5 T).mono ?_; rintro e w4 ⟨v4, rfl, n4, e4⟩; obtain ⟨b2, A2, l2, c2, ee2, rfl⟩ := n4.form; have Z2 := Z0.ext e4; have g0 := Z2.c0; have g1 := Z2.c1; have g2 := Z2.c2; have f0 := Z2.f 0; have f1 := Z2.f 1; have f2 := Z2.f 2)
      obtain ⟨k0, k1, k2, hD⟩ := Z2.done n4 (E0.trans e4) (by omega)
      refine bodyPost_ret (v := .agg #[.bool b2, .slice A2 l2 c2, .int .i64 ee2]) (by simp [results, Tryz.results96, go_sem, k0, k1, k2]) rfl ⟨r, HR.out, ?_⟩
      rw [HX.out]; exact hD
    | true =>
      go_wp2_with fail
      refine (mul_any _ _ _ r r m3 m3 (lr.mono (by omega)) (lr.mono (by omega))).mono ?_
      rintro _ w4 ⟨v4, rfl, m4, e4⟩
      replace E0 := E0.trans e4
      replace Z0 := Z0.ext e4
      replace T := T.ext e4
      replace m2 := m2.ext e4
      replace m3 := m3.ext e4
      clear e4
      by_cases hs : r * r = s
      · have HX : Hid (rootN true true s r = r) := Lib.hid (by simp [rootN, hs])
        have HC := Lib.hid (cmp_nats w4 _ _ (r * r) s m4 m2)
        rw [cmpI_eq (show ((r * r : Nat) : Int) = (s : Int) by rw [hs])] at HC
        clear hs
        go_wp2_with fail
        refine HC.out.mono ?_
        rintro _ w5 ⟨rfl, q5⟩
        replace E0 := E0.trans q5.ext
        replace Z0 := Z0.ext q5.ext
        replace T := T.ext q5.ext
        replace m3 := m3.ext q5.ext
        clear q5 HC
        go_wp2_with (go_at_call 57; refine (HM.out _ _ r (lr.mono (by omega)) m3 T).mono ?_; rintro e w4 ⟨v4, rfl, n4, e4⟩; obtain ⟨b2, A2, l2, c2, ee2, rfl⟩ := n4.form; have Z2 := Z0.ext e4; have g0 := Z2.c0; have g1 := Z2.c1; have g2 := Z2.c2; have f0 := Z2.f 0; have f1 := Z2.f 1; have f2 := Z2.f 2)
        obtain ⟨k0, k1, k2, hD⟩ := Z2.done n4 (E0.trans e4) (by omega)
        refine bodyPost_ret (v := .agg #[.bool b2, .slice A2 l2 c2, .int .i64 ee2]) (by simp [results, Tryz.results96, go_sem, k0, k1, k2]) rfl ⟨r, HR.out, ?_⟩
        rw [HX.out]; exact hD
      · have HX : Hid (rootN true true s r = r + 1) := Lib.hid (by simp [rootN, hs])
        obtain ⟨t, ht⟩ : ∃ t, cmpI ((r * r : Nat) : Int) (s : Int) = t := ⟨_, rfl⟩
        have ht0 : (t == 0) = false := by
          rw [← ht]; unfold cmpI
          split
          · rfl
          · split
            · omega
            · rfl
        have HC := Lib.hid (cmp_nats w4 _ _ (r * r) s m4 m2)
        rw [ht] at HC
        clear hs ht
        go_wp2_with fail
        refine HC.out.mono ?_
        rintro _ w5 ⟨rfl, q5⟩
        replace E0 := E0.trans q5.ext
        replace Z0 := Z0.ext q5.ext
        replace T := T.ext q5.ext
        replace m3 := m3.ext q5.ext
        clear q5 HC
        go_wp2_with fail
        refine (of_any _ 1 (by omega)).mono ?_
        rintro _ w6 ⟨v6, rfl, m6, e4⟩
        go_wp2_with fail
        refine (add_any _ _ _ r _ (m3.ext e4) m6 (lr.mono (by omega)) (Lt.of_bits (by decide))).mono ?_
        rintro _ w7 ⟨v5, rfl, m5, e5⟩
        replace e5 := e4.trans e5
        replace E0 := E0.trans e5
        replace Z0 := Z0.ext e5
        replace T := T.ext e5
        clear e4 e5
        go_wp2_with (go_at_call 57; refine (HM.out _ _ (r + 1) ((lr.add (Lt.of_bits (k := 300) (m := 1) (by decide))).mono (by omega)) m5 T).mono ?_; rintro e w4 ⟨v4, rfl, n4, e4⟩; obtain ⟨b2, A2, l2, c2, ee2, rfl⟩ := n4.form; have Z2 := Z0.ext e4; have g0 := Z2.c0; have g1 := Z2.c1; have g2 := Z2.c2; have f0 := Z2.f 0; have f1 := Z2.f 1; have f2 := Z2.f 2)
        obtain ⟨k0, k1, k2, hD⟩ := Z2.done n4 (E0.trans e4) (by omega)
        refine bodyPost_ret (v := .agg #[.bool b2, .slice A2 l2 c2, .int .i64 ee2]) (by simp [results, Tryz.results96, go_sem, k0, k1, k2]) rfl ⟨r, HR.out, ?_⟩
        rw [HX.out]; exact hD

/-- What root makes of a natural m times two to the E: s is that over two to the F, downwards; wh: nothing is left. -/
structure Rt (m k s : Nat) (E F : Int) (wh : Bool) : Prop where
  hi : dy m E < dy ((s : Int) + 1) F
  ex : wh = true → dy s F = dy m E
  ne : wh = false → dy s F < dy m E
  b1 : 2 ^ (2 * k - 2) ≤ s
  b2 : s < 2 ^ (2 * k)
theorem rt_down {m k L K : Nat} {E F : Int} (h1 : 2 ^ (L - 1) ≤ m) (h2 : m < 2 ^ L) (hL : 1 ≤ L) (hK : F - E = (K : Int)) (hK0 : 0 < K) (ho : m % 2 = 1) (h3 : (L : Int) + E ≤ F + 2 * k) (h4 : F + 2 * k ≤ (L : Int) + E + 1) (hk : 1 ≤ k) : Rt m k (m / 2 ^ K) E F false := by
  have hp := Nat.two_pow_pos K
  obtain ⟨s, hs⟩ : ∃ s, m / 2 ^ K = s := ⟨_, rfl⟩
  have hdm := Nat.div_add_mod m (2 ^ K)
  have hr := Nat.mod_lt m hp
  rw [hs] at hdm ⊢
  have hm : m % 2 ^ K ≠ 0 := by
    intro h0
    obtain ⟨i, rfl⟩ : ∃ i, K = i + 1 := ⟨K - 1, by omega⟩
    rw [Nat.pow_succ] at hdm h0
    rw [h0, Nat.add_zero, show 2 ^ i * 2 * s = 2 * (2 ^ i * s) by rw [Nat.mul_comm (2 ^ i) 2, Nat.mul_assoc]] at hdm
    omega
  have hF : F = E + (K : Nat) := by omega
  have e2 : ((s : Nat) : Int) * 2 ^ K = ((2 ^ K * s : Nat) : Int) := by rw [Int.natCast_mul, Int.natCast_pow, Int.mul_comm]; rfl
  have e3 : ((s : Int) + 1) * 2 ^ K = ((2 ^ K * s + 2 ^ K : Nat) : Int) := by rw [Int.add_mul, Int.natCast_add, Int.natCast_mul, Int.natCast_pow, Int.mul_comm]; simp
  refine ⟨?_, fun h => absurd h (by decide), fun _ => ?_, ?_, ?_⟩
  · rw [hF, ← dy_up, dy_lt, e3]; omega
  · rw [hF, ← dy_up, dy_lt, e2]; omega
  · rw [← hs, Nat.le_div_iff_mul_le hp, ← Nat.pow_add]
    exact Nat.le_trans (Nat.pow_le_pow_right (by omega) (by omega)) h1
  · rw [← hs]
    apply Nat.div_lt_of_lt_mul
    rw [← Nat.pow_add]
    exact Nat.lt_of_lt_of_le h2 (Nat.pow_le_pow_right (by omega) (by omega))
theorem rt_up {m k L K : Nat} {E F : Int} (h1 : 2 ^ (L - 1) ≤ m) (h2 : m < 2 ^ L) (hL : 1 ≤ L) (hK : E - F = (K : Int)) (h3 : (L : Int) + E ≤ F + 2 * k) (h4 : F + 2 * k ≤ (L : Int) + E + 1) (hk : 1 ≤ k) : Rt m k (m * 2 ^ K) E F true := by
  have hp := Nat.two_pow_pos K
  have hE : E = F + (K : Nat) := by omega
  have e2 : dy ((m * 2 ^ K : Nat) : Int) F = dy m E := by rw [hE, ← dy_up, Int.natCast_mul, Int.natCast_pow]; rfl
  refine ⟨?_, fun _ => e2, fun h => absurd h (by decide), ?_, ?_⟩
  · rw [← e2, dy_lt]; omega
  · have h5 : 2 ^ (L - 1) * 2 ^ K ≤ m * 2 ^ K := Nat.mul_le_mul_right _ h1
    rw [← Nat.pow_add] at h5
    exact Nat.le_trans (Nat.pow_le_pow_right (by omega) (by omega)) h5
  · have h5 : m * 2 ^ K < 2 ^ L * 2 ^ K := Nat.mul_lt_mul_of_pos_right h2 hp
    rw [← Nat.pow_add] at h5
    exact Nat.lt_of_lt_of_le h5 (Nat.pow_le_pow_right (by omega) (by omega))
theorem Rt.done {m k s r : Nat} {E F G : Int} {wh : Bool} (h : Rt m k s E F wh) (q : Sq s r) (hF : 2 * G = F) (hk : 1 ≤ k) :
    Rlo k (dy m E) (dy (rootN false wh s r) G) ∧ Rhi k (dy m E) (dy (rootN true wh s r) G) := by
  obtain ⟨q1, q2⟩ := q
  have hb1 := h.b1
  have hb2 := h.b2
  have hpk : (2 : Nat) ^ k = 2 * 2 ^ (k - 1) := by
    conv => lhs; rw [show k = k - 1 + 1 by omega, Nat.pow_succ]
    omega
  have e1 : (2 : Nat) ^ (2 * k) = 2 ^ k * 2 ^ k := by rw [← Nat.pow_add]; congr 1; omega
  have e2 : (2 : Nat) ^ (2 * k - 2) = 2 ^ (k - 1) * 2 ^ (k - 1) := by rw [← Nat.pow_add]; congr 1; omega
  rw [e1] at hb2
  rw [e2] at hb1
  have hr2 : r < 2 ^ k := by
    rcases Nat.lt_or_ge r (2 ^ k) with t | t
    · exact t
    · have := Nat.mul_le_mul t t; omega
  have hr1 : 2 ^ (k - 1) ≤ r := by
    rcases Nat.lt_or_ge r (2 ^ (k - 1)) with t | t
    · have := Nat.mul_le_mul (show r + 1 ≤ 2 ^ (k - 1) from t) (show r + 1 ≤ 2 ^ (k - 1) from t); omega
    · exact t
  have c1 : dy ((r * r : Nat) : Int) F ≤ dy s F := by rw [dy_le]; omega
  have c2 : dy ((s : Int) + 1) F ≤ dy (((r + 1) * (r + 1) : Nat) : Int) F := by rw [dy_le]; omega
  have c3 := h.hi
  have c4 : dy s F ≤ dy m E := by
    cases wh with
    | false => have := h.ne rfl; grind
    | true => have := h.ex rfl; grind
  constructor
  · rw [show rootN false wh s r = r by simp [rootN]]
    exact root_lo (by omega) hr2 (by rw [hF]; grind) (by rw [hF]; grind)
  · cases wh with
    | false =>
      rw [show rootN true false s r = r + 1 by simp [rootN]]
      have := h.ne rfl
      exact root_hi1 (by omega) hr2 (by rw [hF]; grind) (by rw [hF]; grind)
    | true =>
      have hx := h.ex rfl
      by_cases hs : r * r = s
      · rw [show rootN true true s r = r by simp [rootN, hs]]
        exact root_hi0 hr2 (by rw [hF, hs]; exact hx)
      · rw [show rootN true true s r = r + 1 by simp [rootN, hs]]
        have c5 : dy ((r * r : Nat) : Int) F < dy s F := by rw [dy_lt]; omega
        exact root_hi1 (by omega) hr2 (by rw [hF]; grind) (by rw [hF]; grind)
/-- The walk of root: the range of what comes out with it. -/
theorem rootx_any (w : World) (v : Value) (x : Dyadic) (n : Int) (k P Q : Nat) (up : Bool) (hn : n = (k : Int)) (h : Dn w v x) (h0 : 0 ≤ x) (r : Rg P Q x) (hb : P + Q ≤ 2000) (hk : 1 ≤ k) (hk2 : k ≤ 1000) (T : Tb w) :
    Calls Tryz.prog 96 #[v, .int .i64 n, .bool up] w (RetD w (if up then rhi k x else rlo k x)) := by
  subst hn
  obtain ⟨A, l, c, z, E, rfl, hN, hc, rfl, hl, _⟩ := h.parts
  obtain ⟨b1, b2, b3⟩ := r.canon hc
  have lm : Lt 100 z.natAbs := Lt.of_bits (Nat.le_trans (bl_of_lt b3) (by omega))
  have hz : 0 ≤ z := by rw [← dy_zero E, dy_le] at h0; exact h0
  rw [decide_eq_false (by omega)]
  obtain ⟨m, hm⟩ : ∃ m : Nat, z.natAbs = m := ⟨_, rfl⟩
  obtain rfl : z = (m : Int) := by omega
  rw [Int.natAbs_natCast] at hN b3 lm
  by_cases hm0 : m = 0
  · subst hm0
    obtain rfl : E = 0 := by
      rcases hc.out with ⟨_, h2⟩ | h2
      · exact h2
      · omega
    have ev : (if up then rhi k (dy ((0 : Nat) : Int) 0) else rlo k (dy ((0 : Nat) : Int) 0)) = 0 := by
      rw [show dy ((0 : Nat) : Int) 0 = 0 from dy_zero 0, (Rlo.zero k).is, (Rhi.zero k).is]; split <;> rfl
    rw [ev]
    refine (root_main w false A l c 0 k 0 0 0 (-k) (-(2 * k)) 0 true up hN lm bl_zero (by omega) hk2 (by decide) (by omega) (by omega)
      (Lib.hid (fun w' E' => by have := over_up w' false A l c 0 (2 * k) 0 (-(2 * k)) (hN.ext E') (lm.mono (by omega)) (by omega) (by omega) (by omega) (by omega); rw [Nat.zero_mul] at this; exact this)) (Lt.of_bits (by rw [bl_zero]; omega)) T).mono ?_
    rintro e w' ⟨rr, hsq, hD⟩
    obtain rfl : rr = 0 := by
      have := hsq.1
      rcases Nat.eq_zero_or_pos rr with t | t
      · exact t
      · have := Nat.mul_le_mul t t; omega
    rw [show rootN up true 0 0 = 0 by cases up <;> rfl, show dy ((0 : Nat) : Int) (-(k : Int)) = 0 from dy_zero _] at hD
    exact hD
  · obtain ⟨L, hL⟩ : ∃ L, bl m = L := ⟨_, rfl⟩
    have hL1 : 1 ≤ L := by rw [← hL]; exact bl_pos hm0
    have hL2 : L ≤ 2400 := by rw [← hL]; exact Nat.le_trans (bl_of_lt b3) (by omega)
    have u1 := bl_le hm0
    have u2 := bl_lt m
    rw [hL] at u1 u2
    have ho : m % 2 = 1 := by
      rcases hc.out with ⟨h2, _⟩ | h2
      · omega
      · omega
    obtain ⟨H, hH⟩ : ∃ H, ((L : Int) + E + 1) / 2 = H := ⟨_, rfl⟩
    obtain ⟨G, hG⟩ : ∃ G, H - (k : Int) = G := ⟨_, rfl⟩
    obtain ⟨F, hF⟩ : ∃ F, 2 * G = F := ⟨_, rfl⟩
    have fin : ∀ (s : Nat) (wh : Bool), Rt m k s E F wh → (∀ w', Ext w w' → Calls Tryz.prog 116 #[.agg #[.bool false, .slice A l c, .int .i64 E], .int .i64 F] w' (RetO w' s wh)) →
        Calls Tryz.prog 96 #[.agg #[.bool false, .slice A l c, .int .i64 E], .int .i64 (k : Int), .bool up] w (RetD w (if up then rhi k (dy (m : Int) E) else rlo k (dy (m : Int) E))) := fun s wh hrt hov => by
      refine (root_main w false A l c m k s E H G F L wh up hN lm hL (by omega) hk2 hH hG hF (Lib.hid hov) (Lt.of_bits (Nat.le_trans (bl_of_lt hrt.b2) (by omega))) T).mono ?_
      rintro e w' ⟨rr, hsq, hD⟩
      obtain ⟨d1, d2⟩ := hrt.done hsq hF hk
      cases up with
      | false => rw [if_neg (by decide), d1.is]; exact hD
      | true => rw [if_pos rfl, d2.is]; exact hD
    by_cases hlt : E < F
    · obtain ⟨K, hK⟩ : ∃ K : Nat, F - E = (K : Int) := ⟨(F - E).toNat, by omega⟩
      exact fin _ _ (rt_down u1 u2 hL1 hK (by omega) ho (by omega) (by omega) hk) (fun w' E' => over_down w' false A l c m K E F (hN.ext E') (lm.mono (by omega)) (by omega) (by omega) hK hlt)
    · obtain ⟨K, hK⟩ : ∃ K : Nat, E - F = (K : Int) := ⟨(E - F).toNat, by omega⟩
      exact fin _ _ (rt_up u1 u2 hL1 hK (by omega) (by omega) hk) (fun w' E' => over_up w' false A l c m K E F (hN.ext E') (lm.mono (by omega)) (by omega) (by omega) hK hlt)
theorem rootl_any (w : World) (v : Value) (x : Dyadic) (n : Int) (k P Q : Nat) (hn : n = (k : Int)) (h : Dn w v x) (h0 : 0 ≤ x) (r : Rg P Q x) (hb : P + Q ≤ 2000) (hk : 1 ≤ k) (hk2 : k ≤ 1000) (T : Tb w) :
    Calls Tryz.prog 96 #[v, .int .i64 n, .bool false] w (RetD w (rlo k x)) := rootx_any w v x n k P Q false hn h h0 r hb hk hk2 T
theorem rooth_any (w : World) (v : Value) (x : Dyadic) (n : Int) (k P Q : Nat) (hn : n = (k : Int)) (h : Dn w v x) (h0 : 0 ≤ x) (r : Rg P Q x) (hb : P + Q ≤ 2000) (hk : 1 ≤ k) (hk2 : k ≤ 1000) (T : Tb w) :
    Calls Tryz.prog 96 #[v, .int .i64 n, .bool true] w (RetD w (rhi k x)) := rootx_any w v x n k P Q true hn h h0 r hb hk hk2 T
theorem sq_there (n : Nat) : ∃ r, Sq n r := by
  induction n with
  | zero => exact ⟨0, by decide, by decide⟩
  | succ n ih =>
    obtain ⟨r, h1, h2⟩ := ih
    rcases Nat.lt_or_ge (n + 1) ((r + 1) * (r + 1)) with h | h
    · exact ⟨r, by omega, h⟩
    · refine ⟨r + 1, h, ?_⟩
      have : (r + 1 + 1) * (r + 1 + 1) = (r + 1) * (r + 1) + 2 * (r + 1) + 1 := by rw [Nat.add_mul, Nat.mul_add]; omega
      omega
/-- Roots are there, and in range. -/
theorem root_there (x : Dyadic) (k P Q : Nat) (h0 : 0 ≤ x) (r : Rg P Q x) (hk : 1 ≤ k) : Rlo k x (rlo k x) ∧ Rhi k x (rhi k x) ∧ Rg (P + k) (P + 2 * Q + k + 2) (rlo k x) ∧ Rg (P + k) (P + 2 * Q + k + 2) (rhi k x) := by
  obtain ⟨z, E, rfl, hc⟩ := canon_of x
  obtain ⟨b1, b2, b3⟩ := r.canon hc
  have hz : 0 ≤ z := by rw [← dy_zero E, dy_le] at h0; exact h0
  obtain ⟨m, hm⟩ : ∃ m : Nat, z.natAbs = m := ⟨_, rfl⟩
  obtain rfl : z = (m : Int) := by omega
  rw [Int.natAbs_natCast] at b3
  by_cases hm0 : m = 0
  · subst hm0
    rw [show dy ((0 : Nat) : Int) E = 0 from dy_zero E, (Rlo.zero k).is, (Rhi.zero k).is]
    have hz0 : Rg (P + k) (P + 2 * Q + k + 2) 0 := ⟨0, (dy_zero _).symm, by have := pow2_pos (P + k + (P + 2 * Q + k + 2)); omega, pow2_pos _⟩
    exact ⟨Rlo.zero k, Rhi.zero k, hz0, hz0⟩
  · obtain ⟨L, hL⟩ : ∃ L, bl m = L := ⟨_, rfl⟩
    have hL1 : 1 ≤ L := by rw [← hL]; exact bl_pos hm0
    have hL2 : L ≤ P + Q := by rw [← hL]; exact bl_of_lt b3
    have u1 := bl_le hm0
    have u2 := bl_lt m
    rw [hL] at u1 u2
    have ho : m % 2 = 1 := by
      rcases hc.out with ⟨h2, _⟩ | h2
      · omega
      · omega
    obtain ⟨H, hH⟩ : ∃ H, ((L : Int) + E + 1) / 2 = H := ⟨_, rfl⟩
    obtain ⟨G, hG⟩ : ∃ G, H - (k : Int) = G := ⟨_, rfl⟩
    obtain ⟨F, hF⟩ : ∃ F, 2 * G = F := ⟨_, rfl⟩
    have fin : ∀ (s : Nat) (wh : Bool), Rt m k s E F wh → Rlo k (dy (m : Int) E) (rlo k (dy (m : Int) E)) ∧ Rhi k (dy (m : Int) E) (rhi k (dy (m : Int) E)) ∧ Rg (P + k) (P + 2 * Q + k + 2) (rlo k (dy (m : Int) E)) ∧ Rg (P + k) (P + 2 * Q + k + 2) (rhi k (dy (m : Int) E)) := fun s wh hrt => by
      obtain ⟨rr, hsq⟩ : ∃ rr, Sq s rr := sq_there s
      obtain ⟨d1, d2⟩ := hrt.done hsq hF hk
      have hb : ∀ up, (rootN up wh s rr) ≤ 2 ^ k := fun up => by
        have h1 := hsq.1
        have h2 := hrt.b2
        have e1 : (2 : Nat) ^ (2 * k) = 2 ^ k * 2 ^ k := by rw [← Nat.pow_add]; congr 1; omega
        have hr2 : rr < 2 ^ k := by
          rcases Nat.lt_or_ge rr (2 ^ k) with t | t
          · exact t
          · have := Nat.mul_le_mul t t; omega
        unfold rootN
        split <;> omega
      have hrg : ∀ q : Nat, q ≤ 2 ^ k → Rg (P + k) (P + 2 * Q + k + 2) (dy (q : Int) G) := fun q hq => by
        refine ⟨(q : Int) * 2 ^ (G + (P + k : Nat)).toNat, dy_down _ _ _ (by omega), ?_⟩
        have h3 : (q : Int) ≤ 2 ^ k := by
          have e1 : ((2 ^ k : Nat) : Int) = 2 ^ k := by rw [Int.natCast_pow]; rfl
          omega
        have h4 := pow2_pos (G + (P + k : Nat)).toNat
        have h5 : (q : Int) * 2 ^ (G + (P + k : Nat)).toNat ≤ 2 ^ k * 2 ^ (G + (P + k : Nat)).toNat := Int.mul_le_mul_of_nonneg_right h3 (by omega)
        rw [← Int.pow_add] at h5
        have h6 : (0 : Int) ≤ (q : Int) * 2 ^ (G + (P + k : Nat)).toNat := Int.mul_nonneg (by omega) (by omega)
        have h7 := pow2_mono (show k + (G + (P + k : Nat)).toNat ≤ P + k + (P + 2 * Q + k + 1) by omega)
        have h8 : (2 : Int) ^ (P + k + (P + 2 * Q + k + 2)) = 2 * 2 ^ (P + k + (P + 2 * Q + k + 1)) := by rw [show P + k + (P + 2 * Q + k + 2) = P + k + (P + 2 * Q + k + 1) + 1 by omega, Int.pow_succ, Int.mul_comm]
        have h9 := pow2_pos (P + k + (P + 2 * Q + k + 1))
        omega
      rw [d1.is, d2.is]
      exact ⟨d1, d2, hrg _ (hb _), hrg _ (hb _)⟩
    by_cases hlt : E < F
    · obtain ⟨K, hK⟩ : ∃ K : Nat, F - E = (K : Int) := ⟨(F - E).toNat, by omega⟩
      exact fin _ _ (rt_down u1 u2 hL1 hK (by omega) ho (by omega) (by omega) hk)
    · obtain ⟨K, hK⟩ : ∃ K : Nat, E - F = (K : Int) := ⟨(E - F).toNat, by omega⟩
      exact fin _ _ (rt_up u1 u2 hL1 hK (by omega) (by omega) hk)
end Go.Proofs.YtomdbmjfehoodaaGreatDoor

/- Walks of package ivl: Root. -/
namespace Go.Proofs.YtomdbmjfehoodaaGreatDoor
open Go.RowKit
def RetIB (w : World) (l h : Dyadic) (ok : Bool) (e : Ending) (w' : World) : Prop := ∃ v, e = .returned (.tuple #[v, .bool ok]) ∧ In w' v l h ∧ Ext w w'
theorem RetIB.of {w w' : World} {l h : Dyadic} {v : Value} {ok : Bool} (k : RetI w l h (.returned v) w') : RetIB w l h ok (.returned (.tuple #[v, .bool ok])) w' := by
  obtain ⟨v', hv, h1, h2⟩ := k
  injection hv with hv
  subst hv
  exact ⟨_, rfl, h1, h2⟩
theorem cmpD_ng {x : Dyadic} (h : 0 ≤ x) : ¬ cmpD x 0 < 0 := fun k => by have := (cmp_lt x 0).1 k; grind
set_option maxRecDepth 4000 in
set_option maxHeartbeats 1000000 in
theorem iroot_no (w : World) (va : Value) (l h : Dyadic) (j : Int) (k : Nat) (hj : j = (k : Int)) (ha : In w va l h) (h0 : l < 0) :
    Calls Tryz.prog 71 #[va, .int .i64 j] w (RetIB w 0 0 false) := by
  obtain ⟨ba, Aa, na, ca, ea, ba', Aa', na', ca', ea', rfl, a1, a2⟩ := ha
  subst hj
  obtain ⟨t, ht⟩ : ∃ t, cmpD l 0 = t := ⟨_, rfl⟩
  have ht0 : t < 0 := by rw [← ht]; exact (cmp_lt l 0).2 h0
  have HC := Lib.hid (fun (w' : World) (E : Ext w w') => ht ▸ signD_any w' _ l (a1.ext E))
  clear ht
  go_enter Tryz.func71, Tryz.ntmps71
  go_wp2_with fail
  refine (HC.out _ (((Ext.refl w).alloc _).alloc _)).mono ?_
  rintro _ W0 ⟨rfl, e0⟩
  have E0 : Ext w W0 := (((Ext.refl w).alloc _).alloc _).trans e0
  have Ba : Bx W0 (w.heap.size) (.bool ba) (.slice Aa na ca) (.int .i64 ea) (.bool ba') (.slice Aa' na' ca') (.int .i64 ea') := Bx.at (((Ext.refl _).alloc _).trans e0) rfl
  have Z0 : Zi W0 (w.heap.size + 1) := Zi.at e0 (by simp)
  have NBa : (w.heap.size : Nat) ≠ w.heap.size + 1 := by omega
  clear e0 HC
  have g0 := Z0.c0
  have g1 := Z0.c1
  have g2 := Z0.c2
  have g3 := Z0.c3
  have g4 := Z0.c4
  have g5 := Z0.c5
  have f0 := Z0.f 0
  have f1 := Z0.f 1
  have f2 := Z0.f 2
  have f3 := Z0.f 3
  have f4 := Z0.f 4
  have f5 := Z0.f 5
  go_wp2
  obtain ⟨k0, k1, k2, k3, k4, k5, hD⟩ := Z0.done (Dn.zero W0) (Dn.zero W0) E0 (by omega)
  exact bodyPost_ret (by simp [results, Tryz.results71, go_sem, k0, k1, k2, k3, k4, k5]) rfl (RetIB.of hD)
set_option maxRecDepth 4000 in
set_option maxHeartbeats 1000000 in
theorem iroot_yes (w : World) (va : Value) (l h : Dyadic) (j : Int) (k P Q : Nat) (hj : j = (k : Int)) (ha : In w va l h) (h0 : 0 ≤ l) (h1 : 0 ≤ h) (r1 : Rg P Q l) (r2 : Rg P Q h) (hb : P + Q ≤ 2000) (hk : 1 ≤ k) (hk2 : k ≤ 1000) (T : Tb w) :
    Calls Tryz.prog 71 #[va, .int .i64 j] w (RetIB w (rlo k l) (rhi k h) true) := by
  obtain ⟨ba, Aa, na, ca, ea, ba', Aa', na', ca', ea', rfl, a1, a2⟩ := ha
  subst hj
  obtain ⟨t, ht⟩ : ∃ t, cmpD l 0 = t := ⟨_, rfl⟩
  have ht0 : ¬ t < 0 := by rw [← ht]; exact cmpD_ng h0
  have HC := Lib.hid (fun (w' : World) (E : Ext w w') => ht ▸ signD_any w' _ l (a1.ext E))
  clear ht
  go_enter Tryz.func71, Tryz.ntmps71
  go_wp2_with fail
  refine (HC.out _ (((Ext.refl w).alloc _).alloc _)).mono ?_
  rintro _ W0 ⟨rfl, e0⟩
  have E0 : Ext w W0 := (((Ext.refl w).alloc _).alloc _).trans e0
  have Ba : Bx W0 (w.heap.size) (.bool ba) (.slice Aa na ca) (.int .i64 ea) (.bool ba') (.slice Aa' na' ca') (.int .i64 ea') := Bx.at (((Ext.refl _).alloc _).trans e0) rfl
  have Z0 : Zi W0 (w.heap.size + 1) := Zi.at e0 (by simp)
  have NBa : (w.heap.size : Nat) ≠ w.heap.size + 1 := by omega
  clear e0 HC
  obtain ⟨Ba_0, Ba_1, Ba_2, Ba_3, Ba_4, Ba_5⟩ := id Ba
  replace a1 := a1.ext E0
  replace a2 := a2.ext E0
  replace T := T.ext E0
  go_wp2
  go_region_held3 (fun w' => (w'.cell? ⟨w.heap.size, 0, none⟩ = some (.bool ba) ∧ w'.cell? ⟨w.heap.size, 1, none⟩ = some (.slice Aa na ca) ∧ w'.cell? ⟨w.heap.size, 2, none⟩ = some (.int .i64 ea) ∧ w'.cell? ⟨w.heap.size, 3, none⟩ = some (.bool ba') ∧ w'.cell? ⟨w.heap.size, 4, none⟩ = some (.slice Aa' na' ca') ∧ w'.cell? ⟨w.heap.size, 5, none⟩ = some (.int .i64 ea'))) (first | (with_reducible exact bx6 (Ba.ext F2)) | (with_reducible exact bx6 (Ba.ext F1)) | (with_reducible exact bx6 (Zi.keep (Ba.ext F2) NBa)) | go_keep) (first | ((have hF2 := F1); (go_at_call 96); (refine (rooth_any _ _ h _ k P Q rfl (a2.ext F1) h1 r2 hb hk hk2 (T.ext F1)).mono ?_); (rintro _ u2 ⟨v2, rfl, m2, e2⟩); (have F2 : Ext W0 u2 := F1.trans e2); (replace m1 := m1.ext e2); (obtain ⟨y1, Y1, p1, q1, x1, rfl⟩ := m1.form); (obtain ⟨y2, Y2, p2, q2, x2, rfl⟩ := m2.form); (have Z1 := Z0.ext F2); (have g0 := Z1.c0); (have f0 := Z1.f 0); (have g1 := Z1.c1); (have f1 := Z1.f 1); (have g2 := Z1.c2); (have f2 := Z1.f 2); (have g3 := Z1.c3); (have f3 := Z1.f 3); (have g4 := Z1.c4); (have f4 := Z1.f 4); (have g5 := Z1.c5); (have f5 := Z1.f 5)) | ((go_at_call 96); (refine (rootl_any _ _ l _ k P Q rfl (a1.ext (Ext.refl W0).drew) h0 r1 hb hk hk2 (T.ext (Ext.refl W0).drew)).mono ?_); (rintro _ u1 ⟨v1, rfl, m1, e1⟩); (have F1 : Ext W0 u1 := (Ext.refl W0).drew.trans e1)))
  go_wp2
  obtain ⟨k0, k1, k2, k3, k4, k5, hD⟩ := Z1.done m1 m2 (E0.trans F2) (by omega)
  exact bodyPost_ret (by simp [results, Tryz.results71, go_sem, k0, k1, k2, k3, k4, k5]) rfl (RetIB.of hD)

end Go.Proofs.YtomdbmjfehoodaaGreatDoor

