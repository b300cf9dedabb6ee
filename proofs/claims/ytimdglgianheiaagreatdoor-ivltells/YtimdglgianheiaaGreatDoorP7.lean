/- Twins of contracts: the row that comes out is new. -/
import Derived.Test.YtimdglgianheiaaGreatDoorP6
namespace Go.Proofs.YtimdglgianheiaaGreatDoor
open Go.RowKit
/-- The slice's block was laid since w. -/
def Nw (w : World) (v : Value) : Prop := ∀ A l c, v = .slice A l c → 0 < l → ∃ b off, A = some ⟨b, off, none⟩ ∧ w.heap.size ≤ b
theorem Nw.low {w w' : World} {v : Value} (h : Nw w' v) (hs : w.heap.size ≤ w'.heap.size) : Nw w v := fun A l c hv hl => by
  obtain ⟨b, off, h1, h2⟩ := h A l c hv hl
  exact ⟨b, off, h1, by omega⟩
def RetNF (w : World) (m : Nat) (e : Ending) (w' : World) : Prop := ∃ v, e = .returned v ∧ N w' v m ∧ Ext w w' ∧ Nw w v
def SumNF (w : World) (bo bc m : Nat) (e : Ending) (w' : World) : Prop := ∃ v, e = .returned v ∧ N w' v m ∧ Only [bo, bc] w w' ∧ ∃ k c, v = .slice (some ⟨bo, 0, none⟩) k c
theorem sums_newF (W w1 : World) (bc L : Nat) (F : Nat) (caps : Array Value) (h : Nat → Int) (c : Int) (m : Nat)
    (hL : L ≤ 1000000) (hm : Made L W w1) (hc : W.cell? ⟨bc, 0, none⟩ = some (.int .i64 c)) (hf : W.frozen? ⟨bc, 0, none⟩ = false)
    (hb : ∀ j, j < L → -9000000000000000000 ≤ h j + carryAt h c j ∧ h j + carryAt h c j ≤ 9223372036854775807)
    (hT : c + S h L = (m : Int)) (hlt : (m : Int) < bp L)
    (hcall : ∀ (x : Array Value) (W : World), (callFunc F x).run Tryz.prog W = .ok (.enter F x) W)
    (hhow : ∀ (w' : World) (j : Nat), Only [W.heap.size, bc] w1 w' → j < L → Calls Tryz.prog F (#[.int .i64 j] ++ caps) w' fun e w'' => e = .returned (.int .i64 (h j)) ∧ ∃ q, w'' = w'.drewN q) :
    Calls Tryz.prog 93 #[.slice (some ⟨W.heap.size, 0, none⟩) L L, .func (.func F) #[] caps, .func (.func 95) #[.pointer (some ⟨bc, 0, none⟩)] #[]] w1
      (SumNF w1 W.heap.size bc m) := by
  have hbc : bc < W.heap.size := World.block_lt_of_cell? W _ hc
  have h0 : 0 ≤ c + S h L := by omega
  have hcc := (hm.ext.cell (p := ⟨bc, 0, none⟩) hbc).trans hc
  have hff := (hm.ext.frozen (p := ⟨bc, 0, none⟩) hbc).trans hf
  refine (sums_any w1 W.heap.size bc 0 L L F caps h c (Nat.le_refl _) (by unfold maxLen; omega) (by rw [hm.size]; omega) (by omega) (fun j hj => ⟨0, by simpa using hm.cell j hj⟩) hm.frozen hcc hff hb hcall hhow).mono ?_
  rintro e w' ⟨k, hk, rfl, ho, hcell, hz, hlast, _⟩
  have hS := carry_end h0 (by omega)
  have hlen : ((List.range k).map (limbAt h c)).length = k := by simp
  have hn : ∀ j, j < k → nth ((List.range k).map (limbAt h c)) j = limbAt h c j := fun j hj => by rw [nth_eq (by simpa using hj)]; simp
  refine ⟨_, rfl, ⟨(List.range k).map (limbAt h c), ⟨_, L, by rw [hlen], by omega, by unfold maxLen; omega, fun _ => ⟨W.heap.size, 0, rfl, by have := ho.size; rw [hm.size] at this; omega, fun j hj => ?_⟩⟩, ⟨fun j hj => ?_, ?_⟩, ?_⟩, ho, _, _, rfl⟩
  · rw [hlen] at hj; rw [hn j hj]; exact hcell j (by omega)
  · rw [hlen] at hj; rw [hn j hj]; exact limbAt_bounds h c j
  · rw [hlen]
    rcases hlast with e | e
    · left; subst e; rfl
    · by_cases e0 : k = 0
      · left; subst e0; rfl
      · right; rw [hn _ (by omega)]; exact e
  · rw [val_S, hlen, S_congr k hn, ← S_more (m := L) hk hz, hS, hT]
theorem box_sumsF (w W w1 : World) (x1 x2 : Value) (b1 b2 bc bo L m : Nat) (F : Nat) (caps : Array Value) (h : Nat → Int)
    (e0 : Ext w W) (c1 : W.cell? ⟨b1, 0, none⟩ = some x1) (c2 : W.cell? ⟨b2, 0, none⟩ = some x2) (cc : W.cell? ⟨bc, 0, none⟩ = some (.int .i64 0)) (fc : W.frozen? ⟨bc, 0, none⟩ = false)
    (hbc : w.heap.size ≤ bc) (n1 : b1 ≠ bc) (n2 : b2 ≠ bc) (hbo : W.heap.size = bo)
    (hmade : Made L W w1) (hL4 : L ≤ 1000000)
    (hbd : ∀ j, j < L → -1152921504606846976 ≤ h j ∧ h j ≤ 1152921504606846976) (hT : S h L = (m : Int)) (hlt : (m : Int) < bp L)
    (hcall : ∀ (x : Array Value) (W : World), (callFunc F x).run Tryz.prog W = .ok (.enter F x) W)
    (hhow : ∀ (w' : World) (j : Nat), Ext w w' → w'.cell? ⟨b1, 0, none⟩ = some x1 → w'.cell? ⟨b2, 0, none⟩ = some x2 → j < L →
      Calls Tryz.prog F (#[.int .i64 j] ++ caps) w' fun e w'' => e = .returned (.int .i64 (h j)) ∧ ∃ q, w'' = w'.drewN q) :
    Calls Tryz.prog 93 #[.slice (some ⟨bo, 0, none⟩) L L, .func (.func F) #[] caps, .func (.func 95) #[.pointer (some ⟨bc, 0, none⟩)] #[]] w1 (RetNF w m) := by
  subst hbo
  have l1 := World.block_lt_of_cell? W _ c1
  have l2 := World.block_lt_of_cell? W _ c2
  have lc := World.block_lt_of_cell? W _ cc
  simp only at l1 l2 lc
  have e1 : Ext w w1 := e0.trans hmade.ext
  have hs := e0.size
  have hs1 := hmade.ext.size
  have key := sums_newF W w1 bc L F caps h 0 m hL4 hmade cc fc
    (fun j hj => by have := hbd j hj; have := carry_bound (n := j) (M := 1152921504606846976) (h := h) (c := 0) (by omega) (by omega) (fun i _ => hbd i (by omega)) j (Nat.le_refl _); omega) (by omega) hlt hcall
    (fun w' j ho hj => by
      have k1 : w'.cell? ⟨b1, 0, none⟩ = some x1 := by
        rw [ho.cell (by show b1 < _; omega) (by simp; omega), hmade.ext.cell (by show b1 < _; omega), c1]
      have k2 : w'.cell? ⟨b2, 0, none⟩ = some x2 := by
        rw [ho.cell (by show b2 < _; omega) (by simp; omega), hmade.ext.cell (by show b2 < _; omega), c2]
      exact hhow w' j (e1.only ho (fun i hi => by simp at hi; omega)) k1 k2 hj)
  refine key.mono ?_
  rintro e w' ⟨v, rfl, hN, ho, k, c, rfl⟩
  exact ⟨_, rfl, hN, e1.only ho (fun i hi => by simp at hi; omega), fun A l c hv hl => by (simp only [Value.slice.injEq] at hv; obtain ⟨rfl, _, _⟩ := hv; exact ⟨_, _, rfl, hs⟩)⟩
theorem shr_sumsF (w w1 : World) (v : Value) (a : List Int) (m K q d L : Nat) (hq : q = min (K / 24) a.length) (hd : d = K % 24) (na : NF a) (ea : val a = m) (la : a.length ≤ 1000000)
    (hL : L = a.length - q) (rl : Row w v (a.drop q)) (hmade : Made L (three w #[v] #[.int .i64 d] #[.int .i64 0] 22 3 87) w1) :
    Calls Tryz.prog 93 #[.slice (some ⟨w.heap.size + 1 + 1 + 1, 0, none⟩) L L, .func (.func 106) #[] #[.pointer (some ⟨w.heap.size, 0, none⟩), .pointer (some ⟨w.heap.size + 1, 0, none⟩)],
      .func (.func 95) #[.pointer (some ⟨w.heap.size + 1 + 1, 0, none⟩)] #[]] w1 (RetNF w (m / 2 ^ K)) := by
  have hlen : (a.drop q).length = L := by simp; omega
  have nl : Limbs (a.drop q) := na.1.drop q
  have hd24 : d < 24 := by omega
  have hv : val (a.drop q) / 2 ^ d = ((m / 2 ^ K : Nat) : Int) := by
    have e1 : val (a.drop q) = val (a.drop (K / 24)) := by
      by_cases h : K / 24 ≤ a.length
      · rw [hq, Nat.min_eq_left h]
      · rw [hq, Nat.min_eq_right (by omega), List.drop_eq_nil_of_le (Nat.le_refl _), List.drop_eq_nil_of_le (by omega)]
    rw [e1, val_drop_div na.1, ea, bp_two]
    have e2 : K = 24 * (K / 24) + d := by omega
    have e3 : m / 2 ^ K = m / 2 ^ (24 * (K / 24)) / 2 ^ d := by
      rw [Nat.div_div_eq_div_mul, ← Nat.pow_add, ← e2]
    rw [e3]
    push_cast
    rfl
  have hS := S_shr d hd24 (a.drop q) nl
  rw [hlen] at hS
  refine box_sumsF w _ w1 _ _ w.heap.size (w.heap.size + 1) (w.heap.size + 1 + 1) _ L (m / 2 ^ K) _ _ (shrAt (a.drop q) d) (three_ext ..) (three_0 ..) (three_1 ..) (three_2 ..) (three_f2 ..) (by omega) (by omega) (by omega) (three_size ..) hmade (by omega)
    (fun j _ => by have := shr_bounds nl d j; omega) (by rw [hS, hv]) ?_ callShr
    (fun w' j he h1 h2 hj => shr1_any w' _ _ v (a.drop q) d j (by omega) hd24 h1 h2 (rl.ext he) nl)
  have h1 := val_bounds nl
  rw [hlen] at h1
  have h2 : val (a.drop q) / 2 ^ d ≤ val (a.drop q) := Int.ediv_le_self _ h1.1
  omega
set_option maxHeartbeats 1000000 in
theorem shr_natF (w : World) (v : Value) (m K : Nat) (hK : K ≤ 9223372036854775807) (h : N w v m) (hm : Lt 400 m) :
    Calls Tryz.prog 89 #[v, .int .i64 K] w (RetNF w (m / 2 ^ K)) := by
  obtain ⟨a, ra, na, ea⟩ := h
  have la : a.length ≤ 400 := N.len hm na ea
  obtain ⟨A, c, rfl, h1, h2, h3⟩ := id ra
  have hmf := mkf
  have HA := Lib.hid ea
  clear ea h3
  go_enter Tryz.func89, Tryz.ntmps89
  go_wp2_with (at_make; refine wpList_mk_ints _ rfl _ rfl _ _ rfl rfl (by omega) ?_; intro w1 hmade)
  all_goals
    refine (shr_sumsF w w1 _ a m K (min ((K : Int) / 24) (a.length : Int)).toNat (K % 24) _ (by omega) rfl na HA.out (by omega) rfl (ra.cut (by omega)) hmade).mono ?_
    rintro e w2 ⟨v, rfl, hN, hE, hnw⟩
    go_wp2
    go_ret
    exact ⟨v, rfl, hN, hE, hnw⟩
/-- A number whose natural lies in no block of w. -/
def RetDF (w : World) (d : Dyadic) (e : Ending) (w' : World) : Prop := ∃ x M y, e = .returned (.agg #[x, M, y]) ∧ Dn w' (.agg #[x, M, y]) d ∧ Ext w w' ∧ Nw w M
theorem RetDF.of {w w' : World} {d : Dyadic} {x M y : Value} (h : RetD w d (.returned (.agg #[x, M, y])) w') (n : Nw w M) : RetDF w d (.returned (.agg #[x, M, y])) w' := by
  obtain ⟨v', hv, h1, h2⟩ := h
  injection hv with hv
  subst hv
  exact ⟨_, _, _, rfl, h1, h2, n⟩
set_option maxHeartbeats 1000000 in
theorem make_anyF (w : World) (neg : Bool) (v : Value) (m : Nat) (e : Int) (h : N w v m) (hm : Lt 400 m) (he : -1000000 ≤ e ∧ e ≤ 1000000) (T : Tb w) : Calls Tryz.prog 66 #[.bool neg, v, .int .i64 e] w (RetDF w (dy (sg neg m) e)) := by
  have E0 : Ext w (w.alloc (Obj.cells #[Value.bool false, Value.slice none 0 0, Value.int IntKind.i64 0] 24)) := (Ext.refl w).alloc _
  have HL := Lib.hid (lowest_any _ v m (h.ext E0) hm (T.ext E0))
  have hN := h.ext E0
  have hbl := hm.bits
  clear T
  go_enter Tryz.func66, Tryz.ntmps66
  go_wp2_with fail
  refine HL.out.mono ?_
  rintro _ _ ⟨k, rfl, rfl, hk⟩
  by_cases h0 : m = 0
  · obtain rfl : k = 0 := hk.zero h0
    subst h0
    go_wp2_with fail
    refine (shr_natF _ _ 0 0 (by omega) hN hm).mono ?_
    rintro _ w2 ⟨v2, rfl, n2, e2, nw2⟩
    rw [Nat.zero_div] at n2
    obtain ⟨A, c, rfl, _⟩ := n2.form
    have Z2 := (Zd.new w _).ext e2
    have g0 := Z2.c0; have g1 := Z2.c1; have g2 := Z2.c2; have f0 := Z2.f 0; have f1 := Z2.f 1; have f2 := Z2.f 2
    go_wp2
    obtain ⟨k0, k1, k2, hD⟩ := Z2.done (Dn.zero w2) (E0.trans e2) (Nat.le_refl _)
    rw [sg_zero, dy_zero]
    exact bodyPost_ret (by simp [results, Tryz.results66, go_sem, k0, k1, k2]) rfl (RetDF.of hD (fun A l c hv hl => by (simp only [Value.slice.injEq] at hv; omega)))
  · obtain ⟨hq, hkb, hc, hd⟩ := hk.form (e := e) (neg := neg) h0
    have HC := Lib.hid hc
    have HD := Lib.hid hd
    clear hd hc
    go_wp2_with fail
    refine (shr_natF _ _ m k (by omega) hN hm).mono ?_
    rintro _ w2 ⟨v2, rfl, n2, e2, nw2⟩
    obtain ⟨b2, off2, len2, c2, x', rfl, hlen, _, _, _, _⟩ := n2.low hq
    have hl0 : ((len2 : Int) == 0) = false := beq_eq_false_iff_ne.2 (by omega)
    have Z2 := (Zd.new w _).ext e2
    have g0 := Z2.c0; have g1 := Z2.c1; have g2 := Z2.c2; have f0 := Z2.f 0; have f1 := Z2.f 1; have f2 := Z2.f 2
    go_wp2
    obtain ⟨k0, k1, k2, hD⟩ := Z2.done (x := .bool neg) (y := Value.slice (some { block := b2, off := off2 }) len2 c2) (z := .int .i64 (e + k)) ⟨_, sg neg (m / 2 ^ k), e + k, by rw [sg_neg hq], by rw [sg_abs]; exact n2, HC.out, rfl⟩ (E0.trans e2) (Nat.le_refl _)
    rw [← HD.out] at hD
    exact bodyPost_ret (by simp [results, Tryz.results66, go_sem, k0, k1, k2]) rfl (RetDF.of hD (nw2.low E0.size))
set_option maxHeartbeats 1000000 in
theorem mulD_anyF (w : World) (va vb : Value) (x y : Dyadic) (P Q P' Q' : Nat) (ha : Dn w va x) (hb : Dn w vb y) (hx : Rg P Q x) (hy : Rg P' Q' y) (h1 : P + Q ≤ 4800) (h2 : P' + Q' ≤ 4800) (T : Tb w) : Calls Tryz.prog 80 #[va, vb] w (RetDF w (x * y)) := by
  obtain ⟨A, l, c, z, e, rfl, hN, hc, rfl, _⟩ := ha.parts
  obtain ⟨A', l', c', z', e', rfl, hN', hc', rfl, _⟩ := hb.parts
  clear ha hb
  have lz := hx.lt hc h1
  have lz' := hy.lt hc' h2
  obtain ⟨b1, b2, b3⟩ := hx.canon hc
  obtain ⟨b1', b2', b3'⟩ := hy.canon hc'
  have HM := Lib.hid (fun (w' : World) (v : Value) (hE : Ext w w') (hv : N w' v (z.natAbs * z'.natAbs)) => make_anyF w' (decide (z < 0) != decide (z' < 0)) v (z.natAbs * z'.natAbs) (e + e') hv ((lz.mul lz').mono (by omega)) (by omega) (T.ext hE))
  rw [sg_mul, ← dy_mul] at HM
  obtain ⟨n1, hn1⟩ : ∃ n1, n1 = decide (z < 0) := ⟨_, rfl⟩
  obtain ⟨n2, hn2⟩ : ∃ n2, n2 = decide (z' < 0) := ⟨_, rfl⟩
  rw [← hn1, ← hn2] at HM ⊢
  have he : -10000 ≤ e ∧ e ≤ 10000 := by omega
  have he' : -10000 ≤ e' ∧ e' ≤ 10000 := by omega
  clear hn1 hn2 hc hc' b3 b3' T
  go_enter Tryz.func80, Tryz.ntmps80
  go_wp2
  generalize hW0 : (((w.alloc (.cells #[.bool n1, .slice A l c, .int .i64 e] 24)).alloc (.cells #[.bool n2, .slice A' l' c', .int .i64 e'] 24)).alloc (.cells #[.bool false, .slice none 0 0, .int .i64 0] 24)) = W0
  have B1 : Box W0 w.heap.size (.bool n1) (.slice A l c) (.int .i64 e) := by rw [← hW0]; exact Box.at (((Ext.refl _).alloc _).alloc _) rfl
  have B2 : Box W0 (w.heap.size + 1) (.bool n2) (.slice A' l' c') (.int .i64 e') := by rw [← hW0]; exact Box.at ((Ext.refl _).alloc _) (by simp)
  have Z0 : Zd W0 (w.heap.size + 1 + 1) := by rw [← hW0]; exact Zd.at (Ext.refl _) (by simp)
  have E0 : Ext w W0 := by rw [← hW0]; exact (((Ext.refl w).alloc _).alloc _).alloc _
  obtain ⟨p0, p1, p2⟩ := id B1
  obtain ⟨q0, q1, q2⟩ := id B2
  have M1 := hN.ext E0
  have M2 := hN'.ext E0
  clear hW0 hN hN'
  have hne1 : w.heap.size ≠ w.heap.size + 1 + 1 := by omega
  have hne2 : w.heap.size + 1 ≠ w.heap.size + 1 + 1 := by omega
  have hw1 : IntKind.i64.wrap (e + e') = e + e' := IntWalk.i64_in _ (by omega)
  go_region_held3 (fun w' => w'.cell? ⟨w.heap.size, 0, none⟩ = some (.bool n1) ∧ w'.cell? ⟨w.heap.size, 1, none⟩ = some (.slice A l c) ∧ w'.cell? ⟨w.heap.size, 2, none⟩ = some (.int .i64 e) ∧ w'.cell? ⟨w.heap.size + 1, 0, none⟩ = some (.bool n2) ∧ w'.cell? ⟨w.heap.size + 1, 1, none⟩ = some (.slice A' l' c') ∧ w'.cell? ⟨w.heap.size + 1, 2, none⟩ = some (.int .i64 e'))
    (first | (with_reducible exact six_set (B1.ext F2) (B2.ext F2) hne1 hne2) | (with_reducible exact six (B1.ext F2) (B2.ext F2)) | (with_reducible exact six (B1.ext F1) (B2.ext F1)) | go_keep)
    (first | ((go_at_call 63); (refine (mul_any _ _ _ z.natAbs z'.natAbs (M1.ext (Ext.refl W0).drew) (M2.ext (Ext.refl W0).drew) (lz.mono (by omega)) (lz'.mono (by omega))).mono ?_); (rintro _ w1 ⟨v1, rfl, m1, e1⟩); (have F1 : Ext W0 w1 := (Ext.refl W0).drew.trans e1)) | ((go_at_call 66); (refine (HM.out _ _ (E0.trans F1) m1).mono ?_); (rintro _ w2 ⟨x2, M2, y2, rfl, m2, e2, nw2⟩); (obtain ⟨bb, A2, l2, c2, ee2, hv2⟩ := m2.form); (simp only [Value.agg.injEq, Array.mk.injEq, List.cons.injEq, and_true] at hv2); (obtain ⟨rfl, rfl, rfl⟩ := hv2); (have nw3 := Nw.low nw2 (E0.trans F1).size); (clear nw2); (have F2 : Ext W0 w2 := F1.trans e2); (have Z2 := Z0.ext F2); (have g0 := Z2.c0); (have g1 := Z2.c1); (have g2 := Z2.c2); (have f0 := Z2.f 0); (have f1 := Z2.f 1); (have f2 := Z2.f 2)))
  go_wp2
  obtain ⟨k0, k1, k2, hD⟩ := Z2.done m2 (E0.trans F2) (by omega)
  exact bodyPost_ret (by simp [results, Tryz.results80, go_sem, k0, k1, k2]) rfl (RetDF.of hD nw3)

end Go.Proofs.YtimdglgianheiaaGreatDoor
