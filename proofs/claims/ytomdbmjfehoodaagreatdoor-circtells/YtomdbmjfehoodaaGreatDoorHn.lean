/- Plain mathematics: what the document tells of an angle, and that it is what is to be told. No program is named here. -/
import Derived.Test.YtomdbmjfehoodaaGreatDoorHm
set_option maxRecDepth 8000
namespace Go.Proofs.YtomdbmjfehoodaaGreatDoor
set_option linter.unusedVariables false
/-- Both put where the eighth says. -/
def byp (sw cn sn : Bool) (r : Xy) : Xy :=
  let s : Xy := if sw then ⟨r.y1, r.y2, r.x1, r.x2⟩ else r
  ⟨if cn then -s.x2 else s.x1, if cn then -s.x1 else s.x2, if sn then -s.y2 else s.y1, if sn then -s.y1 else s.y2⟩
theorem byp_ok {k P m : Nat} {p : RR × RR} {r : Xy} (sw cn sn : Bool) (h : Rk k P m p r) : Rk k P m (placed sw cn sn p) (byp sw cn sn r) := by
  have wx : Ud k m (-r.x1 - -r.x2) := h.wx.mono (Nat.le_refl _) (by grind)
  have wy : Ud k m (-r.y1 - -r.y2) := h.wy.mono (Nat.le_refl _) (by grind)
  unfold placed byp
  cases sw <;> cases cn <;> cases sn
  · exact ⟨h.ex, h.ey, h.wx, h.wy, h.r1, h.r2, h.r3, h.r4⟩
  · exact ⟨h.ex, h.ey.neg, h.wx, wy, h.r1, h.r2, h.r4.neg, h.r3.neg⟩
  · exact ⟨h.ex.neg, h.ey, wx, h.wy, h.r2.neg, h.r1.neg, h.r3, h.r4⟩
  · exact ⟨h.ex.neg, h.ey.neg, wx, wy, h.r2.neg, h.r1.neg, h.r4.neg, h.r3.neg⟩
  · exact ⟨h.ey, h.ex, h.wy, h.wx, h.r3, h.r4, h.r1, h.r2⟩
  · exact ⟨h.ey, h.ex.neg, h.wy, wx, h.r3, h.r4, h.r2.neg, h.r1.neg⟩
  · exact ⟨h.ey.neg, h.ex, wy, h.wx, h.r4.neg, h.r3.neg, h.r1, h.r2⟩
  · exact ⟨h.ey.neg, h.ex.neg, wy, wx, h.r4.neg, h.r3.neg, h.r2.neg, h.r1.neg⟩
theorem byp_point {sw cn sn : Bool} : (byp sw cn sn ⟨1, 1, 0, 0⟩).x1 = (byp sw cn sn ⟨1, 1, 0, 0⟩).x2 ∧ (byp sw cn sn ⟨1, 1, 0, 0⟩).y1 = (byp sw cn sn ⟨1, 1, 0, 0⟩).y2 := by
  cases sw <;> cases cn <;> cases sn <;> exact ⟨rfl, rfl⟩
/-- What is a multiple of a part has a form of no smaller ones. -/
theorem fm_fineQ {u k : Int} {q Q : Nat} (h : Fm u k q) (hQ : Q ≤ 40) (m : Int) (hm : u = m * 2 ^ (40 - Q)) : q ≤ Q := by
  rcases h.out with ⟨_, _, rfl⟩ | ⟨o1, o2, o3, o4, o5⟩
  · omega
  · rcases Nat.lt_or_ge Q q with g | g
    · exfalso
      obtain ⟨t, ht⟩ : ∃ t : Nat, 40 - Q = (40 - q) + (t + 1) := ⟨q - Q - 1, by omega⟩
      rw [o5, ht, p2_add, ← Int.mul_assoc, Int.mul_comm m, Int.mul_assoc, Int.mul_comm k] at hm
      have := Int.eq_of_mul_eq_mul_left (Int.ne_of_gt (p2_pos (40 - q))) hm
      rw [Int.pow_succ, ← Int.mul_assoc] at this
      omega
    · exact g
theorem rest_mod {v k : Int} {q : Nat} (h : Fm v k q) (h3 : 3 ≤ q) : ∃ m : Int, rest v = m * 2 ^ (40 - q) := by
  have hl := h.low
  have e1 : (137438953472 : Int) = 2 ^ (q - 3) * 2 ^ (40 - q) := by
    rw [← p2_add, show q - 3 + (40 - q) = 37 by omega]; decide
  unfold rest
  generalize eighth v = e
  rw [hl.2.2.2, e1]
  split
  · exact ⟨k - e * 2 ^ (q - 3), by rw [Int.sub_mul, Int.mul_assoc]⟩
  · exact ⟨(e + 1) * 2 ^ (q - 3) - k, by rw [Int.sub_mul, Int.mul_assoc]⟩
/-- The rest of an angle that is no quarter. -/
theorem rest_form {v k kr : Int} {q qr : Nat} (h : Fm v k q) (h3 : 3 ≤ q) (hq : q ≤ 14) (hr : Fm (rest v) kr qr) : 3 ≤ qr ∧ qr ≤ q ∧ 0 ≤ kr ∧ kr < 2 ^ (qr - 2) := by
  obtain ⟨r0, r1⟩ := h.range
  obtain ⟨_, _, q2, q3⟩ := rest_range r0 r1
  obtain ⟨j, hj, j0, j1⟩ := rest_parts h h3 hq
  obtain ⟨m, hm⟩ := rest_mod h h3
  have hle := fm_fineQ hr (by omega) m hm
  rcases hr.out with ⟨z, _, _⟩ | ⟨o1, o2, o3, o4, o5⟩
  · exfalso
    rw [z] at hj
    have := Nat.two_pow_pos 26
    have : 0 < j * 2 ^ 26 := Nat.mul_pos j0 this
    omega
  · have e : (2 : Int) ^ 37 = 137438953472 := by decide
    have h37 : kr * 2 ^ (40 - qr) ≤ 2 ^ 37 := by rw [← o5, e]; exact q3
    have hqr : 3 ≤ qr := by
      rcases Nat.lt_or_ge qr 3 with g | g
      · exfalso
        have a : (2 : Int) ^ 38 ≤ 2 ^ (40 - qr) := p2_le (by omega)
        have b : 1 * 2 ^ (40 - qr) ≤ kr * 2 ^ (40 - qr) := Int.mul_le_mul_of_nonneg_right (by omega) (Int.le_of_lt (p2_pos _))
        have c : (2 : Int) ^ 38 = 274877906944 := by decide
        omega
      · exact g
    refine ⟨hqr, hle, by omega, ?_⟩
    rw [show 37 = (qr - 3) + (40 - qr) by omega, p2_add] at h37
    have := Int.le_of_mul_le_mul_right h37 (p2_pos _)
    have e2 : (2 : Int) ^ (qr - 2) = 2 * 2 ^ (qr - 3) := by rw [show qr - 2 = qr - 3 + 1 by omega, Int.pow_succ]; omega
    have := p2_pos (qr - 3)
    omega
theorem rest_quarter {v k : Int} {q : Nat} (h : Fm v k q) (hq : q ≤ 2) : rest v = 0 := by
  rcases quarters h hq with rfl | rfl | rfl | rfl <;> rfl
/-- What the document has of an angle. -/
noncomputable def docxy (k : Nat) (v kr : Int) (qr : Nat) : Xy := byp (plSwap (eighth v)) (plCos (eighth v)) (plSin (eighth v)) (rxy k kr qr (qr - 2))
structure Doc (n P : Nat) (x : RR) (a b : Dyadic) : Prop where
  lo : flo n a = tlo n x
  hi : -flo n (-b) = thi n x
  gap : -flo n (-b) + -flo n a ≤ eps n
  r1 : Rg P 1 a
  r2 : Rg P 1 b
theorem doc_far {n P : Nat} {x : RR} {a b : Dyadic} (h : En a b x) (hf : Far x) (hn : n ≤ 110) (hw : b - a ≤ eps (n + 36)) (r1 : Rg P 1 a) (r2 : Rg P 1 b) : Doc n P x a b := by
  have gap : -flo n (-b) + -flo n a ≤ eps n := by
    obtain ⟨m, f1, f2, f3⟩ := (flo_spec n a).out
    obtain ⟨m', c1, c2, c3⟩ := (flo_spec n (-b)).out
    rw [f1] at f2
    rw [c1] at c2
    have d1 : -dy m' (-(n : Int)) = dy (-m') (-(n : Int)) := dy_neg _ _
    have d2 : -dy (m' + 1) (-(n : Int)) = dy (-m' - 1) (-(n : Int)) := by rw [dy_neg]; congr 1; omega
    have hh := eps_half (n + 35)
    have hp := eps_pos (n + 36)
    rw [show n + 35 + 1 = n + 36 by omega] at hh
    have := tgt_narrow (n := n) (m := m) (m' := -m') hf hn h.l h.h (by grind) f2 f3 (by grind) (by grind)
    rw [f1, c1, d1, dy_neg, dy_add]
    unfold eps
    exact dy_le_of (by omega)
  have t := (told_far h hf hn gap).is
  exact ⟨t.1.symm, t.2.symm, gap, r1, r2⟩
theorem doc_point {n P : Nat} {x : RR} {z : Int} {a b : Dyadic} (h : En a b x) (hab : a = b) (hx : x = RR.of (dy z 0)) (r1 : Rg P 1 a) (r2 : Rg P 1 b) : Doc n P x a b := by
  subst hab
  have e := of_inj ((en_point h).trans hx)
  subst e
  obtain ⟨t, g⟩ := told_point (n := n) h
  exact ⟨t.is.1.symm, t.is.2.symm, g, r1, r2⟩
/-- It is told at once. -/
theorem docxy_ok {n : Nat} {v kf kr : Int} {qf qr : Nat} (hf : Fm v kf qf) (hq : qf ≤ 14) (hr : Fm (rest v) kr qr) (hn : n ≤ 110) :
    Doc n 4400 (cv v).1 (docxy (n + 2 * qf + 40) v kr qr).x1 (docxy (n + 2 * qf + 40) v kr qr).x2 ∧ Doc n 4400 (cv v).2 (docxy (n + 2 * qf + 40) v kr qr).y1 (docxy (n + 2 * qf + 40) v kr qr).y2 := by
  obtain ⟨v0, v1⟩ := hf.range
  have hpl := cv_place v0 v1
  rcases Nat.lt_or_ge 2 qf with g | g
  · obtain ⟨f3, fle, f0, f1⟩ := rest_form hf g hq hr
    obtain ⟨k, hk⟩ : ∃ k, n + 2 * qf + 40 = k := ⟨_, rfl⟩
    have ok := rxy_ok (k := k) (by omega) f0 f1 (by omega) (by omega) (qr - 2) (by omega)
    rw [show qr - 2 + 2 = qr by omega, show qr - qr = 0 by omega, Int.pow_zero, Int.ediv_one, hr.tv] at ok
    have ok2 := byp_ok (plSwap (eighth v)) (plCos (eighth v)) (plSin (eighth v)) ok
    rw [← hpl] at ok2
    have far := far_cv hf g hq
    have hP : (qr - 2) * (k + k + 4) ≤ 4400 := Nat.le_trans (Nat.mul_le_mul (show qr - 2 ≤ 12 by omega) (show k + k + 4 ≤ 360 by omega)) (by omega)
    have hw : ∀ d, Ud k (5 * 2 ^ (qr + 1) * (2 ^ (qr - 2) - 1)) d → d ≤ eps (n + 36) := fun d hd => by
      have a : 5 * (2 ^ (qr - 2) - 1) ≤ 8 * 2 ^ (qr - 2) := by omega
      have b : 8 * 2 ^ (qr - 2) = 2 ^ (qr + 1) := by rw [show (8 : Nat) = 2 ^ 3 from rfl, ← Nat.pow_add]; congr 1; omega
      rw [b] at a
      have c := Nat.mul_le_mul_left (2 ^ (qr + 1)) a
      rw [← Nat.pow_add, show qr + 1 + (qr + 1) = 2 * qr + 2 by omega] at c
      have d2 := hd.fin (j := 2 * qr + 2) (by rw [show 5 * 2 ^ (qr + 1) * (2 ^ (qr - 2) - 1) = 2 ^ (qr + 1) * (5 * (2 ^ (qr - 2) - 1)) by rw [Nat.mul_comm 5, Nat.mul_assoc]]; exact c) (by omega)
      exact Std.le_trans d2 (eps_mono (by omega))
    rw [hk]
    exact ⟨doc_far ok2.ex far.1 hn (hw _ ok2.wx) (ok2.r1.mono hP (by omega)) (ok2.r2.mono hP (by omega)), doc_far ok2.ey far.2 hn (hw _ ok2.wy) (ok2.r3.mono hP (by omega)) (ok2.r4.mono hP (by omega))⟩
  · obtain ⟨z, y, h1, h2, _⟩ := quarter_num hf g
    have hr0 := rest_quarter hf g
    rw [hr0] at hr
    obtain ⟨rfl, rfl⟩ := hr.uniq fm_zero
    have hz : cv (rest v) = (1, 0) := by rw [hr0, cv_zero]
    have e1 := En.point 1
    have e0 := En.point 0
    rw [RR.of_one] at e1
    rw [RR.of_zero] at e0
    have u := Ud.zero 2 0
    have ok : Rk 2 4400 0 (1, 0) ⟨1, 1, 0, 0⟩ := ⟨e1, e0, u.mono (Nat.le_refl _) (by show (1 : Dyadic) - 1 ≤ 0; grind), u.mono (Nat.le_refl _) (by show (0 : Dyadic) - 0 ≤ 0; grind), rg_one _, rg_one _, rg_zero1 _ _, rg_zero1 _ _⟩
    have ok2 := byp_ok (plSwap (eighth v)) (plCos (eighth v)) (plSin (eighth v)) ok
    rw [hz] at hpl
    rw [← hpl] at ok2
    obtain ⟨p1, p2⟩ := @byp_point (plSwap (eighth v)) (plCos (eighth v)) (plSin (eighth v))
    exact ⟨doc_point ok2.ex p1 h1 ok2.r1 ok2.r2, doc_point ok2.ey p2 h2 ok2.r3 ok2.r4⟩
end Go.Proofs.YtomdbmjfehoodaaGreatDoor
