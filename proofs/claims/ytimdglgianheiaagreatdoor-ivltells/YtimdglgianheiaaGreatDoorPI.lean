/- What IvlTells wants: whether any structs are right enclosures; contracts in the form of its walk. -/
import Derived.Test.YtimdglgianheiaaGreatDoorPH
import Derived.Test.YtimdglgianheiaaGreatDoorPE
namespace Go.Proofs.YtimdglgianheiaaGreatDoor
open Go.RowKit
set_option linter.unusedVariables false
set_option linter.unusedSimpArgs false
theorem cmpW_any (w : World) (va vb : Value) (z z' e e' : Int) (ha : Dn w va (dy z e)) (hb : Dn w vb (dy z' e')) (hc : Canon z e) (hc' : Canon z' e') (lz : Lt 400 z.natAbs) (lz' : Lt 400 z'.natAbs) (he : -6000 ≤ e ∧ e ≤ 6000) (he' : -6000 ≤ e' ∧ e' ≤ 6000) : Calls Tryz.prog 33 #[va, vb] w (RetE w (.int .i64 (cmpD (dy z e) (dy z' e')))) := by
  have Sa := fun w' (hE : Ext w w') => nsign_any w' va _ (ha.ext hE)
  have Sb := fun w' (hE : Ext w w') => nsign_any w' vb _ (hb.ext hE)
  obtain ⟨A, l, c, z1, e1, rfl, hN, hc1, hd1, hl, _⟩ := ha.parts
  obtain ⟨A', l', c', z2, e2, rfl, hN', hc2, hd2, hl', _⟩ := hb.parts
  obtain ⟨rfl, rfl⟩ := hc.uniq hc1 hd1
  obtain ⟨rfl, rfl⟩ := hc'.uniq hc2 hd2
  rw [cmpD_zero] at Sa Sb
  obtain ⟨k1, k2⟩ := signs_cmp (z := z) (z' := z') (e := e) (e' := e')
  refine cmpD_main w A A' l c l' c' e e' _ _ _ _ _ (szD z e z' e') _ Sa Sb rfl k1 (fun h w' hE => sizes_any w' A A' l c l' c' z z' e e' _ _ (hN.ext hE) (hN'.ext hE) lz lz' (by omega) (by omega) hc hc' (k2 h).2) (fun h => (k2 h).1) ?_
  have := small_mul (cmpI_range z 0) (cmpD_range (dy (z.natAbs : Int) e) (dy (z'.natAbs : Int) e'))
  exact IntWalk.i64_in _ (by unfold szD; omega)
theorem rg_wide {z e : Int} {n : Nat} (h : z.natAbs < 2 ^ (24 * n)) (hn : n ≤ 60) (he : -6000 ≤ e ∧ e ≤ 6000) : Rg 6000 7440 (dy z e) := by
  obtain ⟨B, hB⟩ : ∃ B : Nat, 6000 + 7440 = B := ⟨_, rfl⟩
  refine ⟨z * 2 ^ (e + (6000 : Nat)).toNat, dy_down _ _ _ (by omega), ?_⟩
  rw [hB]
  have h1 : z.natAbs * 2 ^ (e + (6000 : Nat)).toNat < 2 ^ B := by
    have h2 : z.natAbs * 2 ^ (e + (6000 : Nat)).toNat < 2 ^ (24 * n) * 2 ^ (e + (6000 : Nat)).toNat := Nat.mul_lt_mul_of_pos_right h (Nat.two_pow_pos _)
    rw [← Nat.pow_add] at h2
    exact pow_more h2 (by omega)
  have h3 : ((z * 2 ^ (e + (6000 : Nat)).toNat).natAbs : Int) < 2 ^ B := by
    have h4 : (z * 2 ^ (e + (6000 : Nat)).toNat).natAbs = z.natAbs * 2 ^ (e + (6000 : Nat)).toNat := by rw [Int.natAbs_mul, Int.natAbs_pow]; rfl
    rw [h4]
    have h5 : ((z.natAbs * 2 ^ (e + (6000 : Nat)).toNat : Nat) : Int) < ((2 ^ B : Nat) : Int) := Int.ofNat_lt.2 h1
    rw [Int.natCast_pow] at h5
    exact h5
  generalize z * 2 ^ (e + (6000 : Nat)).toNat = X at *
  generalize (2 : Int) ^ B = Y at *
  omega
set_option maxRecDepth 4000 in
set_option maxHeartbeats 1000000 in
theorem iright_raw (w : World) (ba : Bool) (Aa : Option Addr) (na ca : Nat) (ea : Int) (ba' : Bool) (Aa' : Option Addr) (na' ca' : Nat) (ea' : Int) (p q : Bool) (t : Int)
    (H1 : Hid (∀ w', Ext w w' → Calls Tryz.prog 32 #[.agg #[.bool ba, .slice Aa na ca, .int .i64 ea]] w' (RetE w' (.bool p))))
    (H2 : Hid (∀ w', Ext w w' → Calls Tryz.prog 32 #[.agg #[.bool ba', .slice Aa' na' ca', .int .i64 ea']] w' (RetE w' (.bool q))))
    (H3 : p = true → q = true → Hid (∀ w', Ext w w' → Calls Tryz.prog 33 #[.agg #[.bool ba, .slice Aa na ca, .int .i64 ea], .agg #[.bool ba', .slice Aa' na' ca', .int .i64 ea']] w' (RetE w' (.int .i64 t)))) :
    Calls Tryz.prog 5 #[.agg #[.bool ba, .slice Aa na ca, .int .i64 ea, .bool ba', .slice Aa' na' ca', .int .i64 ea']] w (RetE w (.bool (p && (q && decide (t ≤ 0))))) := by
  cases p with
  | false =>
    go_enter Tryz.func5, Tryz.ntmps5
    go_wp2_with fail
    refine (H1.out _ ((Ext.refl w).alloc _)).mono ?_
    rintro _ w1 ⟨rfl, e1⟩
    have E1 : Ext w w1 := ((Ext.refl w).alloc _).trans e1
    have Ba : Bx w1 w.heap.size (.bool ba) (.slice Aa na ca) (.int .i64 ea) (.bool ba') (.slice Aa' na' ca') (.int .i64 ea') := Bx.at e1 rfl
    go_wp2
    go_ret
    exact ⟨by simp, E1⟩
  | true =>
    cases q with
    | false =>
      go_enter Tryz.func5, Tryz.ntmps5
      go_wp2_with fail
      refine (H1.out _ ((Ext.refl w).alloc _)).mono ?_
      rintro _ w1 ⟨rfl, e1⟩
      have E1 : Ext w w1 := ((Ext.refl w).alloc _).trans e1
      have Ba : Bx w1 w.heap.size (.bool ba) (.slice Aa na ca) (.int .i64 ea) (.bool ba') (.slice Aa' na' ca') (.int .i64 ea') := Bx.at e1 rfl
      obtain ⟨d1_0, d1_1, d1_2, d1_3, d1_4, d1_5⟩ := id Ba
      go_wp2_with fail
      refine (H2.out _ E1).mono ?_
      rintro _ w2 ⟨rfl, e2⟩
      have E2 : Ext w w2 := E1.trans e2
      replace Ba := Ba.ext e2
      go_wp2
      go_ret
      exact ⟨by simp, E2⟩
    | true =>
      replace H3 := H3 rfl rfl
      by_cases j0 : t ≤ 0
      · go_enter Tryz.func5, Tryz.ntmps5
        go_wp2_with fail
        refine (H1.out _ ((Ext.refl w).alloc _)).mono ?_
        rintro _ w1 ⟨rfl, e1⟩
        have E1 : Ext w w1 := ((Ext.refl w).alloc _).trans e1
        have Ba : Bx w1 w.heap.size (.bool ba) (.slice Aa na ca) (.int .i64 ea) (.bool ba') (.slice Aa' na' ca') (.int .i64 ea') := Bx.at e1 rfl
        obtain ⟨d1_0, d1_1, d1_2, d1_3, d1_4, d1_5⟩ := id Ba
        go_wp2_with fail
        refine (H2.out _ E1).mono ?_
        rintro _ w2 ⟨rfl, e2⟩
        have E2 : Ext w w2 := E1.trans e2
        replace Ba := Ba.ext e2
        obtain ⟨d2_0, d2_1, d2_2, d2_3, d2_4, d2_5⟩ := id Ba
        go_wp2_with fail
        refine (H3.out _ E2).mono ?_
        rintro _ w3 ⟨rfl, e3⟩
        have E3 : Ext w w3 := E2.trans e3
        replace Ba := Ba.ext e3
        go_wp2
        go_ret
        exact ⟨by simp [j0], E3⟩
      · go_enter Tryz.func5, Tryz.ntmps5
        go_wp2_with fail
        refine (H1.out _ ((Ext.refl w).alloc _)).mono ?_
        rintro _ w1 ⟨rfl, e1⟩
        have E1 : Ext w w1 := ((Ext.refl w).alloc _).trans e1
        have Ba : Bx w1 w.heap.size (.bool ba) (.slice Aa na ca) (.int .i64 ea) (.bool ba') (.slice Aa' na' ca') (.int .i64 ea') := Bx.at e1 rfl
        obtain ⟨d1_0, d1_1, d1_2, d1_3, d1_4, d1_5⟩ := id Ba
        go_wp2_with fail
        refine (H2.out _ E1).mono ?_
        rintro _ w2 ⟨rfl, e2⟩
        have E2 : Ext w w2 := E1.trans e2
        replace Ba := Ba.ext e2
        obtain ⟨d2_0, d2_1, d2_2, d2_3, d2_4, d2_5⟩ := id Ba
        go_wp2_with fail
        refine (H3.out _ E2).mono ?_
        rintro _ w3 ⟨rfl, e3⟩
        have E3 : Ext w w3 := E2.trans e3
        replace Ba := Ba.ext e3
        go_wp2
        go_ret
        exact ⟨by simp [j0], E3⟩
set_option maxRecDepth 4000 in
set_option maxHeartbeats 1000000 in
theorem riright_raw (w : World) (ba : Bool) (Aa : Option Addr) (na ca : Nat) (ea : Int) (ba' : Bool) (Aa' : Option Addr) (na' ca' : Nat) (ea' : Int) (p q : Bool) (t : Int)
    (H1 : Hid (∀ w', Ext w w' → Calls Tryz.prog 34 #[.agg #[.bool ba, .slice Aa na ca, .int .i64 ea]] w' (RetE w' (.bool p))))
    (H2 : Hid (∀ w', Ext w w' → Calls Tryz.prog 34 #[.agg #[.bool ba', .slice Aa' na' ca', .int .i64 ea']] w' (RetE w' (.bool q))))
    (H3 : p = true → q = true → Hid (∀ w', Ext w w' → Calls Tryz.prog 35 #[.agg #[.bool ba, .slice Aa na ca, .int .i64 ea], .agg #[.bool ba', .slice Aa' na' ca', .int .i64 ea']] w' (RetE w' (.int .i64 t)))) :
    Calls Tryz.prog 6 #[.agg #[.bool ba, .slice Aa na ca, .int .i64 ea, .bool ba', .slice Aa' na' ca', .int .i64 ea']] w (RetE w (.bool (p && (q && decide (t ≤ 0))))) := by
  cases p with
  | false =>
    go_enter Tryz.func6, Tryz.ntmps6
    go_wp2_with fail
    refine (H1.out _ ((Ext.refl w).alloc _)).mono ?_
    rintro _ w1 ⟨rfl, e1⟩
    have E1 : Ext w w1 := ((Ext.refl w).alloc _).trans e1
    have Ba : Bx w1 w.heap.size (.bool ba) (.slice Aa na ca) (.int .i64 ea) (.bool ba') (.slice Aa' na' ca') (.int .i64 ea') := Bx.at e1 rfl
    go_wp2
    go_ret
    exact ⟨by simp, E1⟩
  | true =>
    cases q with
    | false =>
      go_enter Tryz.func6, Tryz.ntmps6
      go_wp2_with fail
      refine (H1.out _ ((Ext.refl w).alloc _)).mono ?_
      rintro _ w1 ⟨rfl, e1⟩
      have E1 : Ext w w1 := ((Ext.refl w).alloc _).trans e1
      have Ba : Bx w1 w.heap.size (.bool ba) (.slice Aa na ca) (.int .i64 ea) (.bool ba') (.slice Aa' na' ca') (.int .i64 ea') := Bx.at e1 rfl
      obtain ⟨d1_0, d1_1, d1_2, d1_3, d1_4, d1_5⟩ := id Ba
      go_wp2_with fail
      refine (H2.out _ E1).mono ?_
      rintro _ w2 ⟨rfl, e2⟩
      have E2 : Ext w w2 := E1.trans e2
      replace Ba := Ba.ext e2
      go_wp2
      go_ret
      exact ⟨by simp, E2⟩
    | true =>
      replace H3 := H3 rfl rfl
      by_cases j0 : t ≤ 0
      · go_enter Tryz.func6, Tryz.ntmps6
        go_wp2_with fail
        refine (H1.out _ ((Ext.refl w).alloc _)).mono ?_
        rintro _ w1 ⟨rfl, e1⟩
        have E1 : Ext w w1 := ((Ext.refl w).alloc _).trans e1
        have Ba : Bx w1 w.heap.size (.bool ba) (.slice Aa na ca) (.int .i64 ea) (.bool ba') (.slice Aa' na' ca') (.int .i64 ea') := Bx.at e1 rfl
        obtain ⟨d1_0, d1_1, d1_2, d1_3, d1_4, d1_5⟩ := id Ba
        go_wp2_with fail
        refine (H2.out _ E1).mono ?_
        rintro _ w2 ⟨rfl, e2⟩
        have E2 : Ext w w2 := E1.trans e2
        replace Ba := Ba.ext e2
        obtain ⟨d2_0, d2_1, d2_2, d2_3, d2_4, d2_5⟩ := id Ba
        go_wp2_with fail
        refine (H3.out _ E2).mono ?_
        rintro _ w3 ⟨rfl, e3⟩
        have E3 : Ext w w3 := E2.trans e3
        replace Ba := Ba.ext e3
        go_wp2
        go_ret
        exact ⟨by simp [j0], E3⟩
      · go_enter Tryz.func6, Tryz.ntmps6
        go_wp2_with fail
        refine (H1.out _ ((Ext.refl w).alloc _)).mono ?_
        rintro _ w1 ⟨rfl, e1⟩
        have E1 : Ext w w1 := ((Ext.refl w).alloc _).trans e1
        have Ba : Bx w1 w.heap.size (.bool ba) (.slice Aa na ca) (.int .i64 ea) (.bool ba') (.slice Aa' na' ca') (.int .i64 ea') := Bx.at e1 rfl
        obtain ⟨d1_0, d1_1, d1_2, d1_3, d1_4, d1_5⟩ := id Ba
        go_wp2_with fail
        refine (H2.out _ E1).mono ?_
        rintro _ w2 ⟨rfl, e2⟩
        have E2 : Ext w w2 := E1.trans e2
        replace Ba := Ba.ext e2
        obtain ⟨d2_0, d2_1, d2_2, d2_3, d2_4, d2_5⟩ := id Ba
        go_wp2_with fail
        refine (H3.out _ E2).mono ?_
        rintro _ w3 ⟨rfl, e3⟩
        have E3 : Ext w w3 := E2.trans e3
        replace Ba := Ba.ext e3
        go_wp2
        go_ret
        exact ⟨by simp [j0], E3⟩
theorem rightD_len {nb : Bool} {xs : List Int} {e : Int} (h : rightD nb xs e = true) : xs.length ≤ 60 := by
  unfold rightD at h
  rw [Bool.and_eq_true, Bool.and_eq_true, decide_eq_true_eq] at h
  exact h.1.2
/-- Of any two structs of few limbs and small powers both ways of asking say the same. -/
theorem right_both (w : World) (ba : Bool) (Aa : Option Addr) (na ca : Nat) (xa : List Int) (ea : Int) (ba' : Bool) (Aa' : Option Addr) (na' ca' : Nat) (xa' : List Int) (ea' : Int) (r : Row w (.slice Aa na ca) xa) (r' : Row w (.slice Aa' na' ca') xa')
    (h : -9223372036854775808 ≤ ea ∧ ea ≤ 9223372036854775807) (h' : -9223372036854775808 ≤ ea' ∧ ea' ≤ 9223372036854775807) :
    ∃ b, (∀ w', Ext w w' → Calls Tryz.prog 5 #[.agg #[.bool ba, .slice Aa na ca, .int .i64 ea, .bool ba', .slice Aa' na' ca', .int .i64 ea']] w' (RetE w' (.bool b))) ∧ (∀ w', Ext w w' → Calls Tryz.prog 6 #[.agg #[.bool ba, .slice Aa na ca, .int .i64 ea, .bool ba', .slice Aa' na' ca', .int .i64 ea']] w' (RetE w' (.bool b))) := by
  obtain ⟨p, hp⟩ : ∃ p, rightD ba xa ea = p := ⟨_, rfl⟩
  obtain ⟨q, hq⟩ : ∃ q, rightD ba' xa' ea' = q := ⟨_, rfl⟩
  have key : ∃ t : Int, p = true → q = true → (∀ w', Ext w w' → Calls Tryz.prog 33 #[.agg #[.bool ba, .slice Aa na ca, .int .i64 ea], .agg #[.bool ba', .slice Aa' na' ca', .int .i64 ea']] w' (RetE w' (.int .i64 t))) ∧ (∀ w', Ext w w' → Calls Tryz.prog 35 #[.agg #[.bool ba, .slice Aa na ca, .int .i64 ea], .agg #[.bool ba', .slice Aa' na' ca', .int .i64 ea']] w' (RetE w' (.int .i64 t))) := by
    by_cases hb : p = true ∧ q = true
    · obtain ⟨z, n1, c1, b1, e1⟩ := rightD_form r (hp.trans hb.1)
      obtain ⟨z', n2, c2, b2, e2⟩ := rightD_form r' (hq.trans hb.2)
      have l1 : xa.length ≤ 60 := rightD_len (hp.trans hb.1)
      have l2 : xa'.length ≤ 60 := rightD_len (hq.trans hb.2)
      have t1 : Lt 400 z.natAbs := Lt.of_bits (Nat.le_trans (bl_of_lt b1) (by omega))
      have t2 : Lt 400 z'.natAbs := Lt.of_bits (Nat.le_trans (bl_of_lt b2) (by omega))
      have g1 := rg_wide b1 l1 e1
      have g2 := rg_wide b2 l2 e2
      exact ⟨cmpD (dy z ea) (dy z' ea'), fun _ _ => ⟨fun w' E => cmpW_any w' _ _ z z' ea ea' (n1.ext E) (n2.ext E) c1 c2 t1 t2 e1 e2, fun w' E => rcmpD_any w' _ _ _ _ 6000 7440 (n1.ext E) (n2.ext E) g1 g2 (by omega)⟩⟩
    · exact ⟨0, fun a b => absurd ⟨a, b⟩ hb⟩
  obtain ⟨t, ht⟩ := key
  refine ⟨p && (q && decide (t ≤ 0)), fun w' E => ?_, fun w' E => ?_⟩
  · exact iright_raw w' ba Aa na ca ea ba' Aa' na' ca' ea' p q t (Lib.hid (fun w'' E' => hp ▸ rightD_any w'' ba _ xa ea (r.ext (E.trans E')) h)) (Lib.hid (fun w'' E' => hq ▸ rightD_any w'' ba' _ xa' ea' (r'.ext (E.trans E')) h')) (fun a b => Lib.hid (fun w'' E' => (ht a b).1 w'' (E.trans E')))
  · exact riright_raw w' ba Aa na ca ea ba' Aa' na' ca' ea' p q t (Lib.hid (fun w'' E' => hp ▸ rrightD_any w'' ba _ xa ea (r.ext (E.trans E')) h)) (Lib.hid (fun w'' E' => hq ▸ rrightD_any w'' ba' _ xa' ea' (r'.ext (E.trans E')) h')) (fun a b => Lib.hid (fun w'' E' => (ht a b).2 w'' (E.trans E')))
theorem rhas_lit (w : World) (va vb : Value) (l h x : Dyadic) (P Q : Nat) (r : Bool) (hr : hasB l h x = r) (ha : In w va l h) (hb : Dn w vb x) (r1 : Rg P Q l) (r2 : Rg P Q h) (r3 : Rg P Q x) (hp : P + Q ≤ 7200) : Calls Tryz.prog 15 #[va, vb] w (RetE w (.bool r)) := by
  subst hr; exact rhas_any w va vb l h x P Q ha hb r1 r2 r3 hp
theorem rinside_lit (w : World) (va vb : Value) (l h l' h' : Dyadic) (P Q : Nat) (r : Bool) (hr : (decide (l' ≤ l) && decide (h ≤ h')) = r) (ha : In w va l h) (hb : In w vb l' h') (r1 : Rg P Q l) (r2 : Rg P Q h) (r3 : Rg P Q l') (r4 : Rg P Q h') (hp : P + Q ≤ 7200) : Calls Tryz.prog 17 #[va, vb] w (RetE w (.bool r)) := by
  subst hr; exact rinside_any w va vb l h l' h' P Q ha hb r1 r2 r3 r4 hp
end Go.Proofs.YtimdglgianheiaaGreatDoor
