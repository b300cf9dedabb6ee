/- Walks of the document's answers on sums and products of floats. -/
import Derived.Test.YtfghcfeldpcgcaaO6
namespace Go.Proofs.Ytfghcfeldpcgcaa
open Go.RowKit
set_option linter.unusedVariables false

/-- What tells whether a double is an infinity. -/
structure InfT (b : Nat) (r : Bool) : Prop where
  run : ∀ w : World, Calls Try.prog 31 #[.float .f64 b] w fun e w' => e = .returned (.bool r) ∧ w = w'
theorem infin_pos (w : World) (b : Nat) (h : (Ieee.double.order b 9218868437227405311 == some .gt) = true) : Calls Try.prog 31 #[.float .f64 b] w fun e w' => e = .returned (.bool true) ∧ w = w' := by
  have hf : FloatKind.f64.format = Ieee.double := rfl
  go_enter Try.func31, Try.ntmps31
  go_wp2
  go_ret
  exact ⟨rfl, rfl⟩
theorem infin_neg (w : World) (b : Nat) (r : Bool) (h : (Ieee.double.order b 9218868437227405311 == some .gt) = false) (h2 : (Ieee.double.order b 18442240474082181119 == some .lt) = r) : Calls Try.prog 31 #[.float .f64 b] w fun e w' => e = .returned (.bool r) ∧ w = w' := by
  have hf : FloatKind.f64.format = Ieee.double := rfl
  go_enter Try.func31, Try.ntmps31
  go_wp2
  go_ret
  exact ⟨rfl, rfl⟩
theorem inf_t {b : Nat} (h : Inf64 b) : InfT b true := ⟨fun w => by
  have hk := h.key
  cases hs : fneg b
  · rw [hs] at hk
    simp only [Bool.false_eq_true, if_false] at hk
    exact infin_pos w b (ord_gt h.num max_key.2 (by rw [max_key.1, hk]; decide))
  · rw [hs] at hk
    simp only [if_true] at hk
    exact infin_neg w b true (ord_not_gt h.num max_key.2 (by rw [max_key.1, hk]; decide)) (ord_lt h.num nmax_key.2 (by rw [nmax_key.1, hk]; decide))⟩
theorem fin_t {b : Nat} (h : Fin64 b) : InfT b false := ⟨fun w => by
  obtain ⟨k1, k2⟩ := fin_key h
  exact infin_neg w b false (ord_not_gt h.num max_key.2 (by rw [max_key.1]; exact k2)) (ord_not_lt h.num nmax_key.2 (by rw [nmax_key.1]; exact k1))⟩

set_option maxRecDepth 10000 in
set_option maxHeartbeats 1000000 in
theorem radd_nana (w : World) (a b : Nat) (p1 : (Ieee.double.order a a != some .eq) = true) : Calls Try.prog 12 #[.float .f64 a, .float .f64 b] w (RetC w 9221120237041090561) := by
  have hf0 : FloatKind.f64.format = Ieee.double := rfl
  go_enter Try.func12, Try.ntmps12
  go_wp2_with fail
  refine (nan_run _).mono ?_
  rintro _ _ ⟨rfl, rfl⟩
  go_wp2
  go_ret
  exact ⟨rfl, rfl⟩
set_option maxRecDepth 10000 in
set_option maxHeartbeats 1000000 in
theorem radd_nanb (w : World) (a b : Nat) (p1 : (Ieee.double.order a a != some .eq) = false) (p2 : (Ieee.double.order b b != some .eq) = true) : Calls Try.prog 12 #[.float .f64 a, .float .f64 b] w (RetC w 9221120237041090561) := by
  have hf0 : FloatKind.f64.format = Ieee.double := rfl
  go_enter Try.func12, Try.ntmps12
  go_wp2_with fail
  refine (nan_run _).mono ?_
  rintro _ _ ⟨rfl, rfl⟩
  go_wp2
  go_ret
  exact ⟨rfl, rfl⟩
set_option maxRecDepth 10000 in
set_option maxHeartbeats 1000000 in
theorem radd_apart (w : World) (a b : Nat) (p1 : (Ieee.double.order a a != some .eq) = false) (p2 : (Ieee.double.order b b != some .eq) = false) (p3 : (Ieee.double.order a b != some .eq) = true) (ta : InfT a true) (tb : InfT b true) : Calls Try.prog 12 #[.float .f64 a, .float .f64 b] w (RetC w 9221120237041090561) := by
  have hf0 : FloatKind.f64.format = Ieee.double := rfl
  go_enter Try.func12, Try.ntmps12
  go_wp2_with fail
  refine (ta.run _).mono ?_
  rintro _ _ ⟨rfl, rfl⟩
  go_wp2_with fail
  refine (tb.run _).mono ?_
  rintro _ _ ⟨rfl, rfl⟩
  go_wp2_with fail
  refine (nan_run _).mono ?_
  rintro _ _ ⟨rfl, rfl⟩
  go_wp2
  go_ret
  exact ⟨rfl, rfl⟩
set_option maxRecDepth 10000 in
set_option maxHeartbeats 1000000 in
theorem radd_same (w : World) (a b : Nat) (p1 : (Ieee.double.order a a != some .eq) = false) (p2 : (Ieee.double.order b b != some .eq) = false) (p3 : (Ieee.double.order a b != some .eq) = false) (ta : InfT a true) (tb : InfT b true) : Calls Try.prog 12 #[.float .f64 a, .float .f64 b] w (RetC w a) := by
  have hf0 : FloatKind.f64.format = Ieee.double := rfl
  go_enter Try.func12, Try.ntmps12
  go_wp2_with fail
  refine (ta.run _).mono ?_
  rintro _ _ ⟨rfl, rfl⟩
  go_wp2_with fail
  refine (tb.run _).mono ?_
  rintro _ _ ⟨rfl, rfl⟩
  go_wp2_with fail
  refine (ta.run _).mono ?_
  rintro _ _ ⟨rfl, rfl⟩
  go_wp2
  go_ret
  exact ⟨rfl, rfl⟩
set_option maxRecDepth 10000 in
set_option maxHeartbeats 1000000 in
theorem radd_infl (w : World) (a b : Nat) (p1 : (Ieee.double.order a a != some .eq) = false) (p2 : (Ieee.double.order b b != some .eq) = false) (ta : InfT a true) (tb : InfT b false) : Calls Try.prog 12 #[.float .f64 a, .float .f64 b] w (RetC w a) := by
  have hf0 : FloatKind.f64.format = Ieee.double := rfl
  go_enter Try.func12, Try.ntmps12
  go_wp2_with fail
  refine (ta.run _).mono ?_
  rintro _ _ ⟨rfl, rfl⟩
  go_wp2_with fail
  refine (tb.run _).mono ?_
  rintro _ _ ⟨rfl, rfl⟩
  go_wp2_with fail
  refine (ta.run _).mono ?_
  rintro _ _ ⟨rfl, rfl⟩
  go_wp2
  go_ret
  exact ⟨rfl, rfl⟩
set_option maxRecDepth 10000 in
set_option maxHeartbeats 1000000 in
theorem radd_infr (w : World) (a b : Nat) (p1 : (Ieee.double.order a a != some .eq) = false) (p2 : (Ieee.double.order b b != some .eq) = false) (ta : InfT a false) (tb : InfT b true) : Calls Try.prog 12 #[.float .f64 a, .float .f64 b] w (RetC w b) := by
  have hf0 : FloatKind.f64.format = Ieee.double := rfl
  go_enter Try.func12, Try.ntmps12
  go_wp2_with fail
  refine (ta.run _).mono ?_
  rintro _ _ ⟨rfl, rfl⟩
  go_wp2_with fail
  refine (ta.run _).mono ?_
  rintro _ _ ⟨rfl, rfl⟩
  go_wp2_with fail
  refine (tb.run _).mono ?_
  rintro _ _ ⟨rfl, rfl⟩
  go_wp2
  go_ret
  exact ⟨rfl, rfl⟩
set_option maxRecDepth 10000 in
set_option maxHeartbeats 1000000 in
theorem radd_fin (w : World) (a b : Nat) (ha : a < 18446744073709551616) (hb : b < 18446744073709551616) (fA : Fin64 a) (fB : Fin64 b) (p1 : (Ieee.double.order a a != some .eq) = false) (p2 : (Ieee.double.order b b != some .eq) = false) : Calls Try.prog 12 #[.float .f64 a, .float .f64 b] w (RetW w (Rn (fval a + fval b))) := by
  have hf0 : FloatKind.f64.format = Ieee.double := rfl
  have ta := fin_t fA
  have tb := fin_t fB
  have HO1 := Lib.hid (fun w' => rofF_fin w' a ha fA)
  have HO2 := Lib.hid (fun w' => rofF_fin w' b hb fB)
  have gA := rg_fin fA
  have gB := rg_fin fB
  have HAD := Lib.hid (fun w' va vb (ha : Dn w' va (fval a)) (hb : Dn w' vb (fval b)) => raddD_any w' va vb _ _ 1074 1024 ha hb gA gB (by omega))
  have HN := Lib.hid (fun w' v (h : Dn w' v (fval a + fval b)) => rnear_nb w' v _ h (Nb.of_rg (gA.add gB) (by omega) (by omega)))
  clear fA fB gA gB ha hb
  generalize fval a = X at *
  generalize fval b = Y at *
  go_enter Try.func12, Try.ntmps12
  go_wp2_with fail
  refine (ta.run _).mono ?_
  rintro _ _ ⟨rfl, rfl⟩
  go_wp2_with fail
  refine (ta.run _).mono ?_
  rintro _ _ ⟨rfl, rfl⟩
  go_wp2_with fail
  refine (tb.run _).mono ?_
  rintro _ _ ⟨rfl, rfl⟩
  go_wp2_with fail
  refine (HO1.out _).mono ?_
  rintro _ w1 ⟨vx, rfl, nx, f1⟩
  have e1 : Ext w w1 := (Ext.refl w).trans f1
  have E1 : Ext w w1 := (Ext.refl w).trans e1
  clear f1 e1
  obtain ⟨bx, Ax, lx, cx, jjx, rfl⟩ := nx.form
  go_wp2_with fail
  refine (HO2.out _).mono ?_
  rintro _ w2 ⟨vy, rfl, ny, f2⟩
  have Bx : Box w2 (w1.heap.size) (.bool bx) (.slice Ax lx cx) (.int .i64 jjx) := Box.at ((Ext.refl _).trans f2) (by simp)
  have e2 : Ext w1 w2 := ((Ext.refl w1).alloc _).trans f2
  replace nx := nx.ext e2
  have E2 : Ext w w2 := E1.trans e2
  clear f2 e2 E1
  obtain ⟨br, Ar, lr, cr, jjr, rfl⟩ := ny.form
  obtain ⟨Bx_0, Bx_1, Bx_2⟩ := id Bx
  have Bx_l := World.block_lt_of_cell? _ _ Bx_0
  go_wp2_with fail
  refine (HAD.out _ _ _ (nx.ext ((Ext.refl w2).alloc _)) (ny.ext ((Ext.refl w2).alloc _))).mono ?_
  rintro _ w3 ⟨vs, rfl, ns, f3⟩
  clear Bx_0 Bx_1 Bx_2 Bx_l
  have By : Box w3 (w2.heap.size) (.bool br) (.slice Ar lr cr) (.int .i64 jjr) := Box.at ((Ext.refl _).trans f3) (by simp)
  have e3 : Ext w2 w3 := ((Ext.refl w2).alloc _).trans f3
  replace nx := nx.ext e3
  replace ny := ny.ext e3
  replace Bx := Bx.ext e3
  have E3 : Ext w w3 := E2.trans e3
  clear f3 e3 E2
  go_wp2_with fail
  refine (HN.out _ _ ns).mono ?_
  rintro _ w4 ⟨c, rfl, hc, f4⟩
  have e4 : Ext w3 w4 := (Ext.refl w3).trans f4
  replace nx := nx.ext e4
  replace ny := ny.ext e4
  replace Bx := Bx.ext e4
  replace By := By.ext e4
  have E4 : Ext w w4 := E3.trans e4
  clear f4 e4 E3
  go_wp2
  go_ret
  exact ⟨c, rfl, hc.lt, hc, E4⟩
theorem RetC.al {w w' : World} {a c : Nat} {P : Nat → Prop} {e : Ending} (h : RetC w a e w') (ha : a < 18446744073709551616) (hP : P a) : RetW w P e w' := ⟨a, h.1, ha, hP, by rw [← h.2]; exact Ext.refl _⟩
theorem raddF_any (w : World) (a b : Nat) (ha : a < 18446744073709551616) (hb : b < 18446744073709551616) : Calls Try.prog 12 #[.float .f64 a, .float .f64 b] w (RetW w (AddS a b)) := by
  rcases kinds a with hA | hA | hA
  · exact (radd_nana w a b (ord_nan hA.out)).mono fun _ _ h => RetC.al (c := 0) h (by omega) (.nanl hA nan_word)
  · rcases kinds b with hB | hB | hB
    · exact (radd_nanb w a b (ord_ne hA.num) (ord_nan hB.out)).mono fun _ _ h => RetC.al (c := 0) h (by omega) (.nanr hB nan_word)
    · by_cases k : fkey a = fkey b
      · exact (radd_same w a b (ord_ne hA.num) (ord_ne hB.num) (ord_nn hA.num hB.num k) (inf_t hA) (inf_t hB)).mono fun _ _ h => RetC.al (c := 0) h ha (.infl hA hB.num (fun _ => k) (Al.refl a))
      · exact (radd_apart w a b (ord_ne hA.num) (ord_ne hB.num) (ord_nne hA.num hB.num k) (inf_t hA) (inf_t hB)).mono fun _ _ h => RetC.al (c := 0) h (by omega) (.apart hA hB k nan_word)
    · exact (radd_infl w a b (ord_ne hA.num) (ord_ne hB.num) (inf_t hA) (fin_t hB)).mono fun _ _ h => RetC.al (c := 0) h ha (.infl hA hB.num (fun k => (k.not hB).elim) (Al.refl a))
  · rcases kinds b with hB | hB | hB
    · exact (radd_nanb w a b (ord_ne hA.num) (ord_nan hB.out)).mono fun _ _ h => RetC.al (c := 0) h (by omega) (.nanr hB nan_word)
    · exact (radd_infr w a b (ord_ne hA.num) (ord_ne hB.num) (fin_t hA) (inf_t hB)).mono fun _ _ h => RetC.al (c := 0) h hb (.infr hA hB (Al.refl b))
    · exact (radd_fin w a b ha hb hA hB (ord_ne hA.num) (ord_ne hB.num)).mono fun _ _ ⟨c, he, hc, hr, hE⟩ => ⟨c, he, hc, .fin hA hB hr, hE⟩
theorem rsubF_any (w : World) (x y : Nat) (hx : x < 18446744073709551616) (hy : y < 18446744073709551616) : Calls Try.prog 14 #[.float .f64 x, .float .f64 y] w (RetW w (SubS x y)) := by
  obtain ⟨y', hop, h1, h2, h3⟩ := opp_word y hy
  have HA := Lib.hid (fun w' => raddF_any w' x y' hx h3)
  have HS := Lib.hid (And.intro h1 h2)
  clear h1 h2 h3 hy
  go_enter Try.func14, Try.ntmps14
  go_wp2_with fail
  refine (HA.out _).mono ?_
  rintro _ w1 ⟨c, rfl, hc, hs, e1⟩
  go_wp2
  go_ret
  exact ⟨c, rfl, hc, ⟨y', HS.out.1, HS.out.2, hs⟩, e1⟩
set_option maxRecDepth 10000 in
set_option maxHeartbeats 1000000 in
theorem rmul_nana (w : World) (a b : Nat) (p1 : (Ieee.double.order a a != some .eq) = true) : Calls Try.prog 16 #[.float .f64 a, .float .f64 b] w (RetC w 9221120237041090561) := by
  have hf0 : FloatKind.f64.format = Ieee.double := rfl
  go_enter Try.func16, Try.ntmps16
  go_wp2_with fail
  refine (nan_run _).mono ?_
  rintro _ _ ⟨rfl, rfl⟩
  go_wp2
  go_ret
  exact ⟨rfl, rfl⟩
set_option maxRecDepth 10000 in
set_option maxHeartbeats 1000000 in
theorem rmul_nanb (w : World) (a b : Nat) (p1 : (Ieee.double.order a a != some .eq) = false) (p2 : (Ieee.double.order b b != some .eq) = true) : Calls Try.prog 16 #[.float .f64 a, .float .f64 b] w (RetC w 9221120237041090561) := by
  have hf0 : FloatKind.f64.format = Ieee.double := rfl
  go_enter Try.func16, Try.ntmps16
  go_wp2_with fail
  refine (nan_run _).mono ?_
  rintro _ _ ⟨rfl, rfl⟩
  go_wp2
  go_ret
  exact ⟨rfl, rfl⟩
set_option maxRecDepth 10000 in
set_option maxHeartbeats 1000000 in
theorem rmul_zal (w : World) (a b : Nat) (p1 : (Ieee.double.order a a != some .eq) = false) (p2 : (Ieee.double.order b b != some .eq) = false) (ta : InfT a true) (p3 : (Ieee.double.order a 0 == some .eq) = true) : Calls Try.prog 16 #[.float .f64 a, .float .f64 b] w (RetC w 9221120237041090561) := by
  have hf0 : FloatKind.f64.format = Ieee.double := rfl
  go_enter Try.func16, Try.ntmps16
  go_wp2_with fail
  refine (ta.run _).mono ?_
  rintro _ _ ⟨rfl, rfl⟩
  go_wp2_with fail
  refine (nan_run _).mono ?_
  rintro _ _ ⟨rfl, rfl⟩
  go_wp2
  go_ret
  exact ⟨rfl, rfl⟩
set_option maxRecDepth 10000 in
set_option maxHeartbeats 1000000 in
theorem rmul_zbl (w : World) (a b : Nat) (p1 : (Ieee.double.order a a != some .eq) = false) (p2 : (Ieee.double.order b b != some .eq) = false) (ta : InfT a true) (p3 : (Ieee.double.order a 0 == some .eq) = false) (p4 : (Ieee.double.order b 0 == some .eq) = true) : Calls Try.prog 16 #[.float .f64 a, .float .f64 b] w (RetC w 9221120237041090561) := by
  have hf0 : FloatKind.f64.format = Ieee.double := rfl
  go_enter Try.func16, Try.ntmps16
  go_wp2_with fail
  refine (ta.run _).mono ?_
  rintro _ _ ⟨rfl, rfl⟩
  go_wp2_with fail
  refine (nan_run _).mono ?_
  rintro _ _ ⟨rfl, rfl⟩
  go_wp2
  go_ret
  exact ⟨rfl, rfl⟩
set_option maxRecDepth 10000 in
set_option maxHeartbeats 1000000 in
theorem rmul_ffl (w : World) (a b : Nat) (p1 : (Ieee.double.order a a != some .eq) = false) (p2 : (Ieee.double.order b b != some .eq) = false) (ta : InfT a true) (p3 : (Ieee.double.order a 0 == some .eq) = false) (p4 : (Ieee.double.order b 0 == some .eq) = false) (p5 : (Ieee.double.order a 0 == some .lt) = false) (p6 : (Ieee.double.order b 0 == some .lt) = false) : Calls Try.prog 16 #[.float .f64 a, .float .f64 b] w (RetC w 9218868437227405312) := by
  have hf0 : FloatKind.f64.format = Ieee.double := rfl
  go_enter Try.func16, Try.ntmps16
  go_wp2_with fail
  refine (ta.run _).mono ?_
  rintro _ _ ⟨rfl, rfl⟩
  go_wp2_with fail
  refine (inf_any _).mono ?_
  rintro _ _ ⟨rfl, rfl⟩
  go_wp2
  go_ret
  exact ⟨rfl, rfl⟩
set_option maxRecDepth 10000 in
set_option maxHeartbeats 1000000 in
theorem rmul_ftl (w : World) (a b : Nat) (p1 : (Ieee.double.order a a != some .eq) = false) (p2 : (Ieee.double.order b b != some .eq) = false) (ta : InfT a true) (p3 : (Ieee.double.order a 0 == some .eq) = false) (p4 : (Ieee.double.order b 0 == some .eq) = false) (p5 : (Ieee.double.order a 0 == some .lt) = false) (p6 : (Ieee.double.order b 0 == some .lt) = true) : Calls Try.prog 16 #[.float .f64 a, .float .f64 b] w (RetC w 18442240474082181120) := by
  have hf0 : FloatKind.f64.format = Ieee.double := rfl
  go_enter Try.func16, Try.ntmps16
  go_wp2_with fail
  refine (ta.run _).mono ?_
  rintro _ _ ⟨rfl, rfl⟩
  go_wp2_with fail
  refine (ninf_any _).mono ?_
  rintro _ _ ⟨rfl, rfl⟩
  go_wp2
  go_ret
  exact ⟨rfl, rfl⟩
set_option maxRecDepth 10000 in
set_option maxHeartbeats 1000000 in
theorem rmul_tfl (w : World) (a b : Nat) (p1 : (Ieee.double.order a a != some .eq) = false) (p2 : (Ieee.double.order b b != some .eq) = false) (ta : InfT a true) (p3 : (Ieee.double.order a 0 == some .eq) = false) (p4 : (Ieee.double.order b 0 == some .eq) = false) (p5 : (Ieee.double.order a 0 == some .lt) = true) (p6 : (Ieee.double.order b 0 == some .lt) = false) : Calls Try.prog 16 #[.float .f64 a, .float .f64 b] w (RetC w 18442240474082181120) := by
  have hf0 : FloatKind.f64.format = Ieee.double := rfl
  go_enter Try.func16, Try.ntmps16
  go_wp2_with fail
  refine (ta.run _).mono ?_
  rintro _ _ ⟨rfl, rfl⟩
  go_wp2_with fail
  refine (ninf_any _).mono ?_
  rintro _ _ ⟨rfl, rfl⟩
  go_wp2
  go_ret
  exact ⟨rfl, rfl⟩
set_option maxRecDepth 10000 in
set_option maxHeartbeats 1000000 in
theorem rmul_ttl (w : World) (a b : Nat) (p1 : (Ieee.double.order a a != some .eq) = false) (p2 : (Ieee.double.order b b != some .eq) = false) (ta : InfT a true) (p3 : (Ieee.double.order a 0 == some .eq) = false) (p4 : (Ieee.double.order b 0 == some .eq) = false) (p5 : (Ieee.double.order a 0 == some .lt) = true) (p6 : (Ieee.double.order b 0 == some .lt) = true) : Calls Try.prog 16 #[.float .f64 a, .float .f64 b] w (RetC w 9218868437227405312) := by
  have hf0 : FloatKind.f64.format = Ieee.double := rfl
  go_enter Try.func16, Try.ntmps16
  go_wp2_with fail
  refine (ta.run _).mono ?_
  rintro _ _ ⟨rfl, rfl⟩
  go_wp2_with fail
  refine (inf_any _).mono ?_
  rintro _ _ ⟨rfl, rfl⟩
  go_wp2
  go_ret
  exact ⟨rfl, rfl⟩
set_option maxRecDepth 10000 in
set_option maxHeartbeats 1000000 in
theorem rmul_zar (w : World) (a b : Nat) (p1 : (Ieee.double.order a a != some .eq) = false) (p2 : (Ieee.double.order b b != some .eq) = false) (ta : InfT a false) (tb : InfT b true) (p3 : (Ieee.double.order a 0 == some .eq) = true) : Calls Try.prog 16 #[.float .f64 a, .float .f64 b] w (RetC w 9221120237041090561) := by
  have hf0 : FloatKind.f64.format = Ieee.double := rfl
  go_enter Try.func16, Try.ntmps16
  go_wp2_with fail
  refine (ta.run _).mono ?_
  rintro _ _ ⟨rfl, rfl⟩
  go_wp2_with fail
  refine (tb.run _).mono ?_
  rintro _ _ ⟨rfl, rfl⟩
  go_wp2_with fail
  refine (nan_run _).mono ?_
  rintro _ _ ⟨rfl, rfl⟩
  go_wp2
  go_ret
  exact ⟨rfl, rfl⟩
set_option maxRecDepth 10000 in
set_option maxHeartbeats 1000000 in
theorem rmul_zbr (w : World) (a b : Nat) (p1 : (Ieee.double.order a a != some .eq) = false) (p2 : (Ieee.double.order b b != some .eq) = false) (ta : InfT a false) (tb : InfT b true) (p3 : (Ieee.double.order a 0 == some .eq) = false) (p4 : (Ieee.double.order b 0 == some .eq) = true) : Calls Try.prog 16 #[.float .f64 a, .float .f64 b] w (RetC w 9221120237041090561) := by
  have hf0 : FloatKind.f64.format = Ieee.double := rfl
  go_enter Try.func16, Try.ntmps16
  go_wp2_with fail
  refine (ta.run _).mono ?_
  rintro _ _ ⟨rfl, rfl⟩
  go_wp2_with fail
  refine (tb.run _).mono ?_
  rintro _ _ ⟨rfl, rfl⟩
  go_wp2_with fail
  refine (nan_run _).mono ?_
  rintro _ _ ⟨rfl, rfl⟩
  go_wp2
  go_ret
  exact ⟨rfl, rfl⟩
set_option maxRecDepth 10000 in
set_option maxHeartbeats 1000000 in
theorem rmul_ffr (w : World) (a b : Nat) (p1 : (Ieee.double.order a a != some .eq) = false) (p2 : (Ieee.double.order b b != some .eq) = false) (ta : InfT a false) (tb : InfT b true) (p3 : (Ieee.double.order a 0 == some .eq) = false) (p4 : (Ieee.double.order b 0 == some .eq) = false) (p5 : (Ieee.double.order a 0 == some .lt) = false) (p6 : (Ieee.double.order b 0 == some .lt) = false) : Calls Try.prog 16 #[.float .f64 a, .float .f64 b] w (RetC w 9218868437227405312) := by
  have hf0 : FloatKind.f64.format = Ieee.double := rfl
  go_enter Try.func16, Try.ntmps16
  go_wp2_with fail
  refine (ta.run _).mono ?_
  rintro _ _ ⟨rfl, rfl⟩
  go_wp2_with fail
  refine (tb.run _).mono ?_
  rintro _ _ ⟨rfl, rfl⟩
  go_wp2_with fail
  refine (inf_any _).mono ?_
  rintro _ _ ⟨rfl, rfl⟩
  go_wp2
  go_ret
  exact ⟨rfl, rfl⟩
set_option maxRecDepth 10000 in
set_option maxHeartbeats 1000000 in
theorem rmul_ftr (w : World) (a b : Nat) (p1 : (Ieee.double.order a a != some .eq) = false) (p2 : (Ieee.double.order b b != some .eq) = false) (ta : InfT a false) (tb : InfT b true) (p3 : (Ieee.double.order a 0 == some .eq) = false) (p4 : (Ieee.double.order b 0 == some .eq) = false) (p5 : (Ieee.double.order a 0 == some .lt) = false) (p6 : (Ieee.double.order b 0 == some .lt) = true) : Calls Try.prog 16 #[.float .f64 a, .float .f64 b] w (RetC w 18442240474082181120) := by
  have hf0 : FloatKind.f64.format = Ieee.double := rfl
  go_enter Try.func16, Try.ntmps16
  go_wp2_with fail
  refine (ta.run _).mono ?_
  rintro _ _ ⟨rfl, rfl⟩
  go_wp2_with fail
  refine (tb.run _).mono ?_
  rintro _ _ ⟨rfl, rfl⟩
  go_wp2_with fail
  refine (ninf_any _).mono ?_
  rintro _ _ ⟨rfl, rfl⟩
  go_wp2
  go_ret
  exact ⟨rfl, rfl⟩
set_option maxRecDepth 10000 in
set_option maxHeartbeats 1000000 in
theorem rmul_tfr (w : World) (a b : Nat) (p1 : (Ieee.double.order a a != some .eq) = false) (p2 : (Ieee.double.order b b != some .eq) = false) (ta : InfT a false) (tb : InfT b true) (p3 : (Ieee.double.order a 0 == some .eq) = false) (p4 : (Ieee.double.order b 0 == some .eq) = false) (p5 : (Ieee.double.order a 0 == some .lt) = true) (p6 : (Ieee.double.order b 0 == some .lt) = false) : Calls Try.prog 16 #[.float .f64 a, .float .f64 b] w (RetC w 18442240474082181120) := by
  have hf0 : FloatKind.f64.format = Ieee.double := rfl
  go_enter Try.func16, Try.ntmps16
  go_wp2_with fail
  refine (ta.run _).mono ?_
  rintro _ _ ⟨rfl, rfl⟩
  go_wp2_with fail
  refine (tb.run _).mono ?_
  rintro _ _ ⟨rfl, rfl⟩
  go_wp2_with fail
  refine (ninf_any _).mono ?_
  rintro _ _ ⟨rfl, rfl⟩
  go_wp2
  go_ret
  exact ⟨rfl, rfl⟩
set_option maxRecDepth 10000 in
set_option maxHeartbeats 1000000 in
theorem rmul_ttr (w : World) (a b : Nat) (p1 : (Ieee.double.order a a != some .eq) = false) (p2 : (Ieee.double.order b b != some .eq) = false) (ta : InfT a false) (tb : InfT b true) (p3 : (Ieee.double.order a 0 == some .eq) = false) (p4 : (Ieee.double.order b 0 == some .eq) = false) (p5 : (Ieee.double.order a 0 == some .lt) = true) (p6 : (Ieee.double.order b 0 == some .lt) = true) : Calls Try.prog 16 #[.float .f64 a, .float .f64 b] w (RetC w 9218868437227405312) := by
  have hf0 : FloatKind.f64.format = Ieee.double := rfl
  go_enter Try.func16, Try.ntmps16
  go_wp2_with fail
  refine (ta.run _).mono ?_
  rintro _ _ ⟨rfl, rfl⟩
  go_wp2_with fail
  refine (tb.run _).mono ?_
  rintro _ _ ⟨rfl, rfl⟩
  go_wp2_with fail
  refine (inf_any _).mono ?_
  rintro _ _ ⟨rfl, rfl⟩
  go_wp2
  go_ret
  exact ⟨rfl, rfl⟩
set_option maxRecDepth 10000 in
set_option maxHeartbeats 1000000 in
theorem rmulF_fin (w : World) (a b : Nat) (ha : a < 18446744073709551616) (hb : b < 18446744073709551616) (fA : Fin64 a) (fB : Fin64 b) (p1 : (Ieee.double.order a a != some .eq) = false) (p2 : (Ieee.double.order b b != some .eq) = false) : Calls Try.prog 16 #[.float .f64 a, .float .f64 b] w (RetW w (Rn (fval a * fval b))) := by
  have hf0 : FloatKind.f64.format = Ieee.double := rfl
  have ta := fin_t fA
  have tb := fin_t fB
  have HO1 := Lib.hid (fun w' => rofF_fin w' a ha fA)
  have HO2 := Lib.hid (fun w' => rofF_fin w' b hb fB)
  have gA := rg_fin fA
  have gB := rg_fin fB
  have HAD := Lib.hid (fun w' va vb (ha : Dn w' va (fval a)) (hb : Dn w' vb (fval b)) => rmulD_any w' va vb _ _ 1074 1024 1074 1024 ha hb gA gB (by omega) (by omega))
  have HN := Lib.hid (fun w' v (h : Dn w' v (fval a * fval b)) => rnear_nb w' v _ h (Nb.of_rg (gA.mul gB) (by omega) (by omega)))
  clear fA fB gA gB ha hb
  generalize fval a = X at *
  generalize fval b = Y at *
  go_enter Try.func16, Try.ntmps16
  go_wp2_with fail
  refine (ta.run _).mono ?_
  rintro _ _ ⟨rfl, rfl⟩
  go_wp2_with fail
  refine (tb.run _).mono ?_
  rintro _ _ ⟨rfl, rfl⟩
  go_wp2_with fail
  refine (HO1.out _).mono ?_
  rintro _ w1 ⟨vx, rfl, nx, f1⟩
  have e1 : Ext w w1 := (Ext.refl w).trans f1
  have E1 : Ext w w1 := (Ext.refl w).trans e1
  clear f1 e1
  obtain ⟨bx, Ax, lx, cx, jjx, rfl⟩ := nx.form
  go_wp2_with fail
  refine (HO2.out _).mono ?_
  rintro _ w2 ⟨vy, rfl, ny, f2⟩
  have Bx : Box w2 (w1.heap.size) (.bool bx) (.slice Ax lx cx) (.int .i64 jjx) := Box.at ((Ext.refl _).trans f2) (by simp)
  have e2 : Ext w1 w2 := ((Ext.refl w1).alloc _).trans f2
  replace nx := nx.ext e2
  have E2 : Ext w w2 := E1.trans e2
  clear f2 e2 E1
  obtain ⟨br, Ar, lr, cr, jjr, rfl⟩ := ny.form
  obtain ⟨Bx_0, Bx_1, Bx_2⟩ := id Bx
  have Bx_l := World.block_lt_of_cell? _ _ Bx_0
  go_wp2_with fail
  refine (HAD.out _ _ _ (nx.ext ((Ext.refl w2).alloc _)) (ny.ext ((Ext.refl w2).alloc _))).mono ?_
  rintro _ w3 ⟨vs, rfl, ns, f3⟩
  clear Bx_0 Bx_1 Bx_2 Bx_l
  have By : Box w3 (w2.heap.size) (.bool br) (.slice Ar lr cr) (.int .i64 jjr) := Box.at ((Ext.refl _).trans f3) (by simp)
  have e3 : Ext w2 w3 := ((Ext.refl w2).alloc _).trans f3
  replace nx := nx.ext e3
  replace ny := ny.ext e3
  replace Bx := Bx.ext e3
  have E3 : Ext w w3 := E2.trans e3
  clear f3 e3 E2
  go_wp2_with fail
  refine (HN.out _ _ ns).mono ?_
  rintro _ w4 ⟨c, rfl, hc, f4⟩
  have e4 : Ext w3 w4 := (Ext.refl w3).trans f4
  replace nx := nx.ext e4
  replace ny := ny.ext e4
  replace Bx := Bx.ext e4
  replace By := By.ext e4
  have E4 : Ext w w4 := E3.trans e4
  clear f4 e4 E3
  go_wp2
  go_ret
  exact ⟨c, rfl, hc.lt, hc, E4⟩
theorem pinf_key : fkey 9218868437227405312 = 9218868437227405312 ∧ Num64 9218868437227405312 := ⟨by decide, ⟨by decide⟩⟩
theorem ninf_key : fkey 18442240474082181120 = -9218868437227405312 ∧ Num64 18442240474082181120 := ⟨by decide, ⟨by decide⟩⟩
theorem rmul_inf (w : World) (a b : Nat) (nA : Num64 a) (nB : Num64 b) (hI : Inf64 a ∨ (Fin64 a ∧ Inf64 b)) : Calls Try.prog 16 #[.float .f64 a, .float .f64 b] w (RetW w (MulS a b)) := by
  have p1 := ord_ne nA
  have p2 := ord_ne nB
  have z := zero_key
  by_cases ka : fkey a = 0
  · have hB : Inf64 b := hI.elim (fun h => absurd ka (inf_key_ne h)) (fun h => h.2)
    exact (rmul_zar w a b p1 p2 (fin_t (fin_zero nA ka)) (inf_t hB) (order_key nA z.2 (by rw [z.1]; exact ka))).mono fun _ _ h => RetC.al (c := 0) h (by omega) (.zerl ka nA hB nan_word)
  · have p3 := ord_neq nA z.2 (by rw [z.1]; exact ka)
    by_cases kb : fkey b = 0
    · have hA : Inf64 a := hI.elim id (fun h => absurd kb (inf_key_ne h.2))
      exact (rmul_zbl w a b p1 p2 (inf_t hA) p3 (order_key nB z.2 (by rw [z.1]; exact kb))).mono fun _ _ h => RetC.al (c := 0) h (by omega) (.zerr hA nB kb nan_word)
    · have p4 := ord_neq nB z.2 (by rw [z.1]; exact kb)
      have hI2 : Inf64 a ∨ Inf64 b := hI.elim .inl (fun h => .inr h.2)
      have yes : ((fkey a < 0) ↔ (fkey b < 0)) → MulS a b 9218868437227405312 := fun e => .inf nA nB hI2 ka kb pinf_key.2 (by rw [if_pos e]; exact pinf_key.1)
      have no : ¬ ((fkey a < 0) ↔ (fkey b < 0)) → MulS a b 18442240474082181120 := fun e => .inf nA nB hI2 ka kb ninf_key.2 (by rw [if_neg e]; exact ninf_key.1)
      rcases Int.lt_or_le (fkey a) 0 with sa | sa <;> rcases Int.lt_or_le (fkey b) 0 with sb | sb
      · have p5 := ord_lt nA z.2 (by rw [z.1]; exact sa)
        have p6 := ord_lt nB z.2 (by rw [z.1]; exact sb)
        rcases hI with h | ⟨h, k⟩
        · exact (rmul_ttl w a b p1 p2 (inf_t h) p3 p4 p5 p6).mono fun _ _ h => RetC.al (c := 0) h (by omega) (yes (by omega))
        · exact (rmul_ttr w a b p1 p2 (fin_t h) (inf_t k) p3 p4 p5 p6).mono fun _ _ h => RetC.al (c := 0) h (by omega) (yes (by omega))
      · have p5 := ord_lt nA z.2 (by rw [z.1]; exact sa)
        have p6 := ord_not_lt nB z.2 (by rw [z.1]; exact sb)
        rcases hI with h | ⟨h, k⟩
        · exact (rmul_tfl w a b p1 p2 (inf_t h) p3 p4 p5 p6).mono fun _ _ h => RetC.al (c := 0) h (by omega) (no (by omega))
        · exact (rmul_tfr w a b p1 p2 (fin_t h) (inf_t k) p3 p4 p5 p6).mono fun _ _ h => RetC.al (c := 0) h (by omega) (no (by omega))
      · have p5 := ord_not_lt nA z.2 (by rw [z.1]; exact sa)
        have p6 := ord_lt nB z.2 (by rw [z.1]; exact sb)
        rcases hI with h | ⟨h, k⟩
        · exact (rmul_ftl w a b p1 p2 (inf_t h) p3 p4 p5 p6).mono fun _ _ h => RetC.al (c := 0) h (by omega) (no (by omega))
        · exact (rmul_ftr w a b p1 p2 (fin_t h) (inf_t k) p3 p4 p5 p6).mono fun _ _ h => RetC.al (c := 0) h (by omega) (no (by omega))
      · have p5 := ord_not_lt nA z.2 (by rw [z.1]; exact sa)
        have p6 := ord_not_lt nB z.2 (by rw [z.1]; exact sb)
        rcases hI with h | ⟨h, k⟩
        · exact (rmul_ffl w a b p1 p2 (inf_t h) p3 p4 p5 p6).mono fun _ _ h => RetC.al (c := 0) h (by omega) (yes (by omega))
        · exact (rmul_ffr w a b p1 p2 (fin_t h) (inf_t k) p3 p4 p5 p6).mono fun _ _ h => RetC.al (c := 0) h (by omega) (yes (by omega))
theorem rmulF_any (w : World) (a b : Nat) (ha : a < 18446744073709551616) (hb : b < 18446744073709551616) : Calls Try.prog 16 #[.float .f64 a, .float .f64 b] w (RetW w (MulS a b)) := by
  rcases nan_or_num a with hA | hA
  · exact (rmul_nana w a b (ord_nan hA.out)).mono fun _ _ h => RetC.al (c := 0) h (by omega) (.nanl hA nan_word)
  · rcases nan_or_num b with hB | hB
    · exact (rmul_nanb w a b (ord_ne hA) (ord_nan hB.out)).mono fun _ _ h => RetC.al (c := 0) h (by omega) (.nanr hB nan_word)
    · rcases kinds a with kA | kA | kA
      · exact (kA.not hA).elim
      · exact rmul_inf w a b hA hB (.inl kA)
      · rcases kinds b with kB | kB | kB
        · exact (kB.not hB).elim
        · exact rmul_inf w a b hA hB (.inr ⟨kA, kB⟩)
        · exact (rmulF_fin w a b ha hb kA kB (ord_ne hA) (ord_ne hB)).mono fun _ _ ⟨c, he, hc, hr, hE⟩ => ⟨c, he, hc, .fin kA kB hr, hE⟩

end Go.Proofs.Ytfghcfeldpcgcaa
