/- What is cut: plain mathematics, and lengths. -/
import Derived.Test.YtjnnodbejnmkmaaDoorG3
namespace Go.Proofs.YtjnnodbejnmkmaaDoor
open Go.RowKit

/-- d is a whole number of at most 2^k times a power of two. -/
structure Few (k : Nat) (d : Dyadic) : Prop where
  out : ∃ Z E : Int, d = dy Z E ∧ Z.natAbs ≤ 2 ^ k
theorem Few.len {k : Nat} {z e : Int} (h : Few k (dy z e)) (hc : Canon z e) (hk : 1 ≤ k) : bl z.natAbs ≤ k := by
  obtain ⟨Z, E, hd, hZ⟩ := h.out
  rcases hc.out with ⟨rfl, rfl⟩ | ho
  · exact Nat.le_trans (Nat.le_of_eq bl_zero) (Nat.zero_le _)
  · apply bl_of_lt
    obtain ⟨j, rfl⟩ : ∃ j, k = j + 1 := ⟨k - 1, by omega⟩
    rw [Nat.pow_succ] at hZ ⊢
    rcases Int.lt_or_le e E with he | he
    · exfalso
      obtain ⟨t, ht⟩ : ∃ t : Nat, E = e + (t + 1 : Nat) := ⟨(E - e - 1).toNat, by omega⟩
      rw [ht, ← dy_up, Int.pow_succ, ← Int.mul_assoc] at hd
      have := dy_inj hd
      omega
    · obtain ⟨t, ht⟩ : ∃ t : Nat, e = E + (t : Nat) := ⟨(e - E).toNat, by omega⟩
      rw [ht, ← dy_up] at hd
      have hz := dy_inj hd
      cases t with
      | zero =>
        simp at hz
        omega
      | succ t =>
        have e1 : (z * 2 ^ (t + 1)).natAbs = z.natAbs * 2 ^ (t + 1) := by rw [Int.natAbs_mul, Int.natAbs_pow]; rfl
        have h2 := Nat.two_pow_pos t
        have e2 : z.natAbs * 2 ^ (t + 1) = z.natAbs * 2 ^ t * 2 := by rw [Nat.pow_succ, Nat.mul_assoc]
        have h3 : z.natAbs ≤ z.natAbs * 2 ^ t := Nat.le_mul_of_pos_right _ h2
        rw [hz] at e1
        omega
/-- What is told of both sides, of a number that has more bits than are asked for. -/
structure Sides (z e : Int) (k : Nat) (lo hi : Dyadic) : Prop where
  gap : hi + -lo = dy 1 (e + (bl z.natAbs - k : Nat))
  below : cmpD lo (dy z e) = -1
  above : cmpD hi (dy z e) = 1
  flo : Few k lo
  fhi : Few k hi
  rlo : Rg 200 393 lo
  rhi : Rg 200 393 hi
theorem side_rg {Z e : Int} {k j p : Nat} (hZ : Z.natAbs ≤ 2 ^ k) (hj : bl p = k + j) (hp : p < 2 ^ 192) (h1 : -200 ≤ e) (h2 : e ≤ 200) : Rg 200 393 (dy Z (e + (j : Nat))) := by
  refine ⟨Z * 2 ^ (e + (j : Nat) + 200).toNat, dy_down Z _ 200 (by omega), ?_⟩
  have hbl := bl_of_lt hp
  have hp2 := pow2_pos (e + (j : Nat) + 200).toNat
  have hb : -((2 : Int) ^ k + 1) < Z ∧ Z < 2 ^ k + 1 := by
    have e1 : ((2 : Int) ^ k).natAbs = 2 ^ k := by rw [Int.natAbs_pow]; rfl
    have := pow2_pos k
    omega
  have hm := mul_bound hp2 hb.1 hb.2
  have h3 : ((2 : Int) ^ k + 1) * 2 ^ (e + (j : Nat) + 200).toNat ≤ 2 ^ (k + 1) * 2 ^ (e + (j : Nat) + 200).toNat := Int.mul_le_mul_of_nonneg_right (by rw [Int.pow_succ]; have := pow2_pos k; omega) (by omega)
  rw [← Int.pow_add] at h3
  have h4 := pow2_mono (show k + 1 + (e + (j : Nat) + 200).toNat ≤ 200 + 393 by omega)
  omega
theorem cut_sides {z e : Int} {k : Nat} (hc : Canon z e) (hb : k < bl z.natAbs) (hk : 1 ≤ k) (hp : z.natAbs < 2 ^ 192) (h1 : -200 ≤ e) (h2 : e ≤ 200) : Sides z e k (cutD z e k false) (cutD z e k true) := by
  obtain ⟨j, hj⟩ : ∃ j, bl z.natAbs = k + (j + 1) := ⟨bl z.natAbs - k - 1, by omega⟩
  have hz : z ≠ 0 := by rintro rfl; rw [show bl (Int.natAbs 0) = 0 from rfl] at hb; omega
  have ho : z % 2 = 1 := by rcases hc.out with ⟨h, _⟩ | h <;> omega
  have ej : bl z.natAbs - k = j + 1 := by omega
  have hcut : ∀ up, cutD z e k up = dy (sg (decide (z < 0)) (z.natAbs / 2 ^ (j + 1) + if up = decide (z < 0) then 0 else 1)) (e + (j + 1 : Nat)) := fun up => by
    unfold cutD; rw [if_neg (show ¬ bl z.natAbs ≤ k by omega), ej]
  rw [hcut, hcut]
  clear hcut
  have hlt := bl_lt z.natAbs
  rw [hj, Nat.pow_add] at hlt
  have hP := Nat.two_pow_pos (j + 1)
  have hdm := Nat.div_add_mod z.natAbs (2 ^ (j + 1))
  have hmod := Nat.mod_lt z.natAbs hP
  have hmod0 : z.natAbs % 2 ^ (j + 1) ≠ 0 := by
    intro h0
    rw [h0, Nat.add_zero, Nat.pow_succ, Nat.mul_comm, ← Nat.mul_assoc] at hdm
    omega
  have hq : z.natAbs / 2 ^ (j + 1) < 2 ^ k := Nat.div_lt_of_lt_mul (by rw [Nat.mul_comm]; exact hlt)
  generalize z.natAbs / 2 ^ (j + 1) = q at *
  generalize hr : z.natAbs % 2 ^ (j + 1) = r at *
  have cmp : ∀ Z : Int, cmpD (dy Z (e + (j + 1 : Nat))) (dy z e) = cmpI (Z * 2 ^ (j + 1)) z := fun Z => by rw [← dy_up, cmpD_dy]
  have eP : ((2 ^ (j + 1) : Nat) : Int) = (2 : Int) ^ (j + 1) := by push_cast; rfl
  have hq1 : ((q : Nat) : Int) * 2 ^ (j + 1) + r = z.natAbs := by rw [← eP, ← Int.natCast_mul, Nat.mul_comm]; omega
  have hq2 : (((q + 1 : Nat) : Int)) * 2 ^ (j + 1) = q * 2 ^ (j + 1) + 2 ^ (j + 1) := by push_cast; rw [Int.add_mul, Int.one_mul]
  have hr1 : (r : Int) < 2 ^ (j + 1) := by rw [← eP]; exact_mod_cast hmod
  have few0 : Few k (dy (q : Nat) (e + (j + 1 : Nat))) := ⟨_, _, rfl, by omega⟩
  have few1 : Few k (dy (q + 1 : Nat) (e + (j + 1 : Nat))) := ⟨_, _, rfl, by omega⟩
  have few0' : Few k (dy (-(q : Nat)) (e + (j + 1 : Nat))) := ⟨_, _, rfl, by omega⟩
  have few1' : Few k (dy (-(q + 1 : Nat)) (e + (j + 1 : Nat))) := ⟨_, _, rfl, by omega⟩
  have rg0 : ∀ Z : Int, Z.natAbs ≤ 2 ^ k → Rg 200 393 (dy Z (e + (j + 1 : Nat))) := fun Z h => side_rg h hj hp h1 h2
  by_cases hn : z < 0
  · rw [decide_eq_true hn, if_neg (by decide), if_pos rfl]
    show Sides z e k (dy (-((q + 1 : Nat) : Int)) _) (dy (-((q : Nat) : Int)) _)
    refine ⟨?_, ?_, ?_, few1', few0', rg0 _ (by omega), rg0 _ (by omega)⟩
    · rw [dy_neg, dy_add, ej]; congr 1; omega
    · rw [cmp, Int.neg_mul]; exact cmpI_lt (by omega)
    · rw [cmp, Int.neg_mul]; exact cmpI_gt (by omega)
  · rw [decide_eq_false hn, if_pos rfl, if_neg (by decide)]
    show Sides z e k (dy ((q : Nat) : Int) _) (dy ((q + 1 : Nat) : Int) _)
    refine ⟨?_, ?_, ?_, few0, few1, rg0 _ (by omega), rg0 _ (by omega)⟩
    · rw [dy_neg, dy_add, ej]; congr 1; omega
    · rw [cmp]; exact cmpI_lt (by omega)
    · rw [cmp]; exact cmpI_gt (by omega)
theorem cut_same {z e : Int} {k : Nat} {up : Bool} (h : bl z.natAbs ≤ k) : cutD z e k up = dy z e := by unfold cutD; rw [if_pos h]

/-- A length of at most k. -/
def RetLen (w : World) (k : Nat) (e : Ending) (w' : World) : Prop := ∃ n : Nat, e = .returned (.int .i64 n) ∧ w = w' ∧ n ≤ k ∧ n ≤ 10000
theorem lenFew_any (w : World) (x y M : Value) (d : Dyadic) (k P Q : Nat) (h : Dn w (.agg #[x, M, y]) d) (f : Few k d) (r : Rg P Q d) (hb : P + Q ≤ 9600) (hk : 1 ≤ k) : Calls Tryd.prog 32 #[M] w (RetLen w k) := by
  obtain ⟨M', z, e, hv, hN, hc, rfl⟩ := h
  injection hv with hv
  simp only [Array.mk.injEq, List.cons.injEq, and_true] at hv
  obtain ⟨_, rfl, _⟩ := hv
  have hl : Lt 400 z.natAbs := Lt.of_bits (Nat.le_trans (bl_of_lt (r.canon hc).2.2) (by omega))
  have := f.len hc hk
  have := hl.bits
  refine (rlen_any w M z.natAbs hN hl).mono ?_
  rintro _ _ ⟨rfl, rfl⟩
  exact ⟨_, rfl, rfl, by omega, by omega⟩
theorem Dn.nat {w : World} {x y M : Value} {z e : Int} (h : Dn w (.agg #[x, M, y]) (dy z e)) (hc : Canon z e) : N w M z.natAbs := by
  obtain ⟨M', z', e', hv, hN, hc', hd⟩ := h
  injection hv with hv
  simp only [Array.mk.injEq, List.cons.injEq, and_true] at hv
  obtain ⟨_, rfl, _⟩ := hv
  obtain ⟨rfl, rfl⟩ := hc.uniq hc' hd
  exact hN

end Go.Proofs.YtjnnodbejnmkmaaDoor
