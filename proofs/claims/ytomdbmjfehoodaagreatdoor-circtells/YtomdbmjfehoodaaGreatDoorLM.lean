/- What the laws on circ share: their literal questions; what is good; how many bits are asked for. -/
import Derived.Test.YtomdbmjfehoodaaGreatDoorCF
import Derived.Test.YtomdbmjfehoodaaGreatDoorPH
set_option maxRecDepth 8000
namespace Go.Proofs.YtomdbmjfehoodaaGreatDoor
open Go.RowKit
set_option linter.unusedVariables false
theorem RR.lt_of_sq {a b : RR} (hb : 0 ≤ b) (h : a * a < b * b) : a < b := by
  apply Classical.byContradiction
  intro hn
  have := RR.sq_le (a := b) (b := a) (by grind) 
  have k : b ≤ a := by grind
  have p := RR.mul_nn hb (show 0 ≤ a - b by grind)
  have q := RR.mul_nn (show 0 ≤ a by grind) (show 0 ≤ a - b by grind)
  grind
theorem sq_of (a e : Int) : RR.of (dy a e) * RR.of (dy a e) = RR.of (dy (a * a) (e + e)) := by rw [← RR.of_mul, dy_mul]
theorem hv1_sq : (hv 1).1 * (hv 1).1 = RR.of (dy 1 (-1)) ∧ 0 ≤ (hv 1).1 := by
  refine ⟨?_, (hv_spec 1).2.1⟩
  rw [(hv_sq 0).1]
  show hf * (1 + 0) = hf
  grind
theorem of_lt_dy {a b e : Int} (h : a < b) : RR.of (dy a e) < RR.of (dy b e) := RR.of_lt.2 (dy_lt.2 h)
theorem of_nn {a e : Int} (h : 0 ≤ a) : 0 ≤ RR.of (dy a e) := by rw [← RR.of_zero, ← dy_zero e]; exact RR.of_le.2 (dy_le_of h)
theorem hv1_lo : RR.of (dy 1 (-1)) < (hv 1).1 := by
  refine RR.lt_of_sq hv1_sq.2 ?_
  rw [hv1_sq.1, sq_of, show dy 1 (-1) = dy (1 * 2 ^ 1) (-1 + -1) by rw [dy_up]; rfl]
  exact of_lt_dy (by decide)
theorem hv1_hi : (hv 1).1 < RR.of (dy 2 (-1)) := by
  refine RR.lt_of_sq (of_nn (by decide)) ?_
  rw [hv1_sq.1, sq_of, show dy 1 (-1) = dy (1 * 2 ^ 1) (-1 + -1) by rw [dy_up]; rfl]
  exact of_lt_dy (by decide)
theorem hv1_mid : RR.of (dy 45856 (-16)) < (hv 1).1 ∧ (hv 1).1 < RR.of (dy 46802 (-16)) := by
  constructor
  · refine RR.lt_of_sq hv1_sq.2 ?_
    rw [hv1_sq.1, sq_of, show dy 1 (-1) = dy (1 * 2 ^ 31) (-16 + -16) by rw [dy_up]; rfl]
    exact of_lt_dy (by decide)
  · refine RR.lt_of_sq (of_nn (by decide)) ?_
    rw [hv1_sq.1, sq_of, show dy 1 (-1) = dy (1 * 2 ^ 31) (-16 + -16) by rw [dy_up]; rfl]
    exact of_lt_dy (by decide)
theorem hv2_sq : (hv 2).1 * (hv 2).1 + (hv 2).1 * (hv 2).1 = 1 + (hv 1).1 := by
  rw [(hv_sq 1).1]; exact hf_mul _
theorem one_dy (k : Nat) : (1 : RR) = RR.of (dy (2 ^ k) (-(k : Int))) := by
  rw [show (2 : Int) ^ k = 1 * 2 ^ k by rw [Int.one_mul], dy_up, show -(k : Int) + k = 0 by omega]; exact RR.of_one.symm
theorem hv2_mid : RR.of (dy 236 (-8)) < (hv 2).1 ∧ (hv 2).1 < RR.of (dy 237 (-8)) := by
  have s := hv2_sq
  obtain ⟨a, b⟩ := hv1_mid
  have o : (1 : RR) = RR.of (dy 65536 (-16)) := one_dy 16
  have n := (hv_spec 2).2.1
  have d1 : RR.of (dy 236 (-8)) * RR.of (dy 236 (-8)) + RR.of (dy 236 (-8)) * RR.of (dy 236 (-8)) = 1 + RR.of (dy 45856 (-16)) := by
    rw [sq_of, o, ← RR.of_add, ← RR.of_add, dy_add, show (-8 : Int) + -8 = -16 by omega, dy_add]; congr 2
  have d2 : RR.of (dy 237 (-8)) * RR.of (dy 237 (-8)) + RR.of (dy 237 (-8)) * RR.of (dy 237 (-8)) = 1 + RR.of (dy 46802 (-16)) := by
    rw [sq_of, o, ← RR.of_add, ← RR.of_add, dy_add, show (-8 : Int) + -8 = -16 by omega, dy_add]; congr 2
  exact ⟨RR.lt_of_sq n (by grind), RR.lt_of_sq (of_nn (by decide)) (by grind)⟩
theorem cv_137 : cv 137438953472 = hv 1 := by
  have := cv_nat (2 ^ 37)
  rw [ev_half 37 (by omega)] at this
  rw [← show ((2 ^ 37 : Nat) : Int) = 137438953472 by decide, this]
theorem cv_68 : cv 68719476736 = hv 2 := by
  have := cv_nat (2 ^ 36)
  rw [ev_half 36 (by omega)] at this
  rw [← show ((2 ^ 36 : Nat) : Int) = 68719476736 by decide, this]
/-- What the head's enclosures are. -/
structure HeadC (c1 c2 s1 s2 z1 z2 d1 d2 : Dyadic) : Prop where
  c1 : c1 = dy 1 (-1)
  c2 : c2 = dy 1 0
  s1 : s1 = dy (-1) 0
  s2 : s2 = dy (-1) 0
  z1 : z1 = 0
  z2 : z2 = 0
  d1 : d1 = dy 236 (-8)
  d2 : d2 = dy 237 (-8)
theorem headC_math : HeadC (tlo 1 (cv 137438953472).1) (thi 1 (cv 137438953472).1) (tlo 9 (cv 549755813888).1) (thi 9 (cv 549755813888).1) (tlo 5 (cv 274877906944).1) (thi 5 (cv 274877906944).1) (tlo 8 (cv 68719476736).1) (thi 8 (cv 68719476736).1) := by
  have a : Tgt 1 (cv 137438953472).1 (dy 1 (-1)) (dy 2 (-1)) := by
    rw [cv_137]
    have h1 := hv1_lo; have h2 := hv1_hi
    exact ⟨1, 2, rfl, rfl, by grind, by grind, .inr ⟨rfl, h1, h2⟩⟩
  have b : Tgt 9 (cv 549755813888).1 (dy (-1) 0) (dy (-1) 0) := tgt_point 9 (-1) _ (by rw [cv_q2, ← dy_neg, RR.of_neg]; show (-1 : RR) = -RR.of 1; rw [RR.of_one])
  have c : Tgt 5 (cv 274877906944).1 (dy 0 0) (dy 0 0) := tgt_point 5 0 _ (by rw [cv_quarter]; exact RR.of_zero.symm)
  have d : Tgt 8 (cv 68719476736).1 (dy 236 (-8)) (dy 237 (-8)) := by
    rw [cv_68]
    obtain ⟨h1, h2⟩ := hv2_mid
    exact ⟨236, 237, rfl, rfl, by grind, by grind, .inr ⟨rfl, h1, h2⟩⟩
  refine ⟨a.is.1, a.is.2.trans ?_, b.is.1, b.is.2, c.is.1, c.is.2, d.is.1, d.is.2⟩
  exact dy_up 1 (-1) 1
theorem flo_five : flo 1 (dy (-5) (-2)) = dy (-3) (-1) := (flo_down (n := 1) (k := 1) (z := -5) (e := -2) (by decide)).is.trans (by decide +kernel)
theorem flo_seven : flo 1 (dy (-7) 0) = dy (-7) 0 := (flo_same (by decide)).is
theorem ccos_lit (w : World) (K Qi j k v : Int) (Q q n : Nat) (l h : Dyadic) (hQi : Qi = (Q : Int)) (hj : j = (n : Int)) (hl : tlo n (cv v).1 = l) (hh : thi n (cv v).1 = h) (hK : -1099511627776 ≤ K ∧ K ≤ 1099511627776) (hQ : Q ≤ 40) (hv : tv K Q = v) (hfm : Fm v k q) (hq14 : q ≤ 14) (hn1 : 1 ≤ n) (hn110 : n ≤ 110) (T : Tb w) (P : Pl w) :
    Calls Tryz.prog 14 #[.agg #[.int .i64 K, .int .i64 Qi], .int .i64 j] w (RetI w l h) := by
  subst hQi hl hh; exact ccos_any w K k v Q q n j hj hK hQ hv hfm hq14 hn1 hn110 T P
theorem csin_lit (w : World) (K Qi j k v : Int) (Q q n : Nat) (l h : Dyadic) (hQi : Qi = (Q : Int)) (hj : j = (n : Int)) (hl : tlo n (cv v).1 = l) (hh : thi n (cv v).1 = h) (hK : -1099511627776 ≤ K ∧ K ≤ 1099511627776) (hQ : Q ≤ 40) (hv : (tv K Q - 274877906944) % 1099511627776 = v) (hfm : Fm v k q) (hq14 : q ≤ 14) (hn1 : 1 ≤ n) (hn110 : n ≤ 110) (T : Tb w) (P : Pl w) :
    Calls Tryz.prog 16 #[.agg #[.int .i64 K, .int .i64 Qi], .int .i64 j] w (RetI w l h) := by
  subst hQi hl hh; exact csin_any w K k v Q q n j hj hK hQ hv hfm hq14 hn1 hn110 T P
theorem rof_lit (w : World) (n : Int) (d : Dyadic) (h : dy n 0 = d) (hn : -4611686018427387904 ≤ n ∧ n ≤ 4611686018427387904) : Calls Tryz.prog 22 #[.int .i64 n] w (RetD w d) := by
  subst h; exact rofD_any w n hn
theorem ret_e {w w' : World} {b b' : Bool} {e : Ending} (k : RetE w (.bool b) e w') (h : b = b') : RetE w (.bool b') e w' := by subst h; exact k
theorem risame_eq (w : World) (va vb : Value) (l h l' h' : Dyadic) (ha : In w va l h) (hb : In w vb l' h') (e1 : l = l') (e2 : h = h') : Calls Tryz.prog 13 #[va, vb] w (RetE w (.bool true)) := by
  subst e1 e2
  exact (rsame_any w va vb l h l h ha hb).mono fun e w' k => ret_e k (by simp)
theorem floor_lit (w : World) (v : Value) (d f : Dyadic) (j : Int) (n P Q : Nat) (hj : j = (n : Int)) (hf : flo n d = f) (h : Dn w v d) (r : Rg P Q d) (hb : P + Q ≤ 4800) (hn : n ≤ 1000) (T : Tb w) :
    Calls Tryz.prog 19 #[v, .int .i64 j] w (RetD w f) := by
  subst hf; exact floor_any w v d j n P Q hj h r hb hn T
theorem rmake_lit (w : World) (neg : Bool) (v : Value) (m : Nat) (e : Int) (d : Dyadic) (hd : dy (sg neg m) e = d) (h : N w v m) (hm : Lt 400 m) (he : -1000000 ≤ e ∧ e ≤ 1000000) : Calls Tryz.prog 39 #[.bool neg, v, .int .i64 e] w (RetD w d) := by
  subst hd; exact rmake_any w neg v m e h hm he
theorem lt_lit {m : Nat} (h : m < 2 ^ 24) : Lt 400 m := Lt.of_bits (Nat.le_trans (bl_of_lt h) (by omega))
structure Later (G : Prop) : Prop where
  out : G
theorem cutG {G A : Prop} (h : Later G → A) (g : G) : A := h ⟨g⟩
end Go.Proofs.YtomdbmjfehoodaaGreatDoor
