/- Angles, and the document's answers on them. -/
import Derived.Test.YtomdbmjfehoodaaGreatDoorMA
import Derived.Deep.Cut
set_option maxRecDepth 8000
/- Angles: plain mathematics. No program is named here. -/
namespace Go.Proofs.YtomdbmjfehoodaaGreatDoor
open Go.RowKit
set_option linter.unusedVariables false

/-- The angle of v parts of 2^40, 0 to 2^40, is k parts of 2^q in its form. -/
structure Fm (v k : Int) (q : Nat) : Prop where
  out : (v = 0 ∧ k = 0 ∧ q = 0) ∨ (k % 2 = 1 ∧ 0 < k ∧ k < 2 ^ q ∧ q ≤ 40 ∧ v = k * 2 ^ (40 - q))
theorem p2_pos (n : Nat) : (0 : Int) < 2 ^ n := Int.pow_pos (by omega)
theorem p2_add (m n : Nat) : (2 : Int) ^ (m + n) = 2 ^ m * 2 ^ n := Int.pow_add ..
theorem p2_40 : (2 : Int) ^ 40 = 1099511627776 := by decide
theorem p2_le {m n : Nat} (h : m ≤ n) : (2 : Int) ^ m ≤ 2 ^ n := by
  have := Nat.pow_le_pow_right (show 0 < 2 by omega) h
  have e1 : ((2 ^ m : Nat) : Int) = 2 ^ m := by rw [Int.natCast_pow]; rfl
  have e2 : ((2 ^ n : Nat) : Int) = 2 ^ n := by rw [Int.natCast_pow]; rfl
  omega
theorem p2_split {q : Nat} (h : q ≤ 40) : (2 : Int) ^ q * 2 ^ (40 - q) = 1099511627776 := by
  rw [← p2_add, show q + (40 - q) = 40 by omega]; exact p2_40
theorem Fm.low {v k : Int} {q : Nat} (h : Fm v k q) : 0 ≤ k ∧ k < 2 ^ q ∧ q ≤ 40 ∧ v = k * 2 ^ (40 - q) := by
  rcases h.out with ⟨rfl, rfl, rfl⟩ | ⟨_, h2, h3, h4, h5⟩
  · exact ⟨by omega, by decide, by omega, by omega⟩
  · exact ⟨by omega, h3, h4, h5⟩
theorem Fm.range {v k : Int} {q : Nat} (h : Fm v k q) : 0 ≤ v ∧ v < 1099511627776 := by
  obtain ⟨h1, h2, h3, h4⟩ := h.low
  have hp := p2_pos (40 - q)
  have hs := p2_split h3
  rw [h4]
  refine ⟨Int.mul_nonneg h1 (Int.le_of_lt hp), ?_⟩
  have := Int.mul_lt_mul_of_pos_right h2 hp
  omega
theorem odd_pow {k k' : Int} {q q' : Nat} (hk' : k' % 2 = 1) (hq : q ≤ q') (hq' : q' ≤ 40) (h : k * 2 ^ (40 - q) = k' * 2 ^ (40 - q')) : k = k' ∧ q = q' := by
  obtain ⟨j, rfl⟩ : ∃ j, q' = q + j := ⟨q' - q, by omega⟩
  rw [show 40 - q = j + (40 - (q + j)) by omega, p2_add, ← Int.mul_assoc] at h
  have h2 := Int.eq_of_mul_eq_mul_right (Int.ne_of_gt (p2_pos _)) h
  cases j with
  | zero => exact ⟨by simpa using h2, rfl⟩
  | succ j =>
    rw [Int.pow_succ, ← Int.mul_assoc] at h2
    omega
theorem Fm.uniq {v k k' : Int} {q q' : Nat} (h : Fm v k q) (g : Fm v k' q') : k = k' ∧ q = q' := by
  rcases h.out with ⟨h1, rfl, rfl⟩ | ⟨h1, h2, h3, h4, h5⟩
  · rcases g.out with ⟨_, rfl, rfl⟩ | ⟨g1, g2, g3, g4, g5⟩
    · exact ⟨rfl, rfl⟩
    · exfalso
      have := Int.mul_pos g2 (p2_pos (40 - q'))
      omega
  · rcases g.out with ⟨g1, rfl, rfl⟩ | ⟨g1, g2, g3, g4, g5⟩
    · exfalso
      have := Int.mul_pos h2 (p2_pos (40 - q))
      omega
    · rcases Nat.le_total q q' with l | l
      · exact odd_pow g1 l g4 (by rw [← h5, ← g5])
      · obtain ⟨a, b⟩ := odd_pow h1 l h4 (by rw [← h5, ← g5]); exact ⟨a.symm, b.symm⟩
theorem Fm.val {v v' k : Int} {q : Nat} (h : Fm v k q) (g : Fm v' k q) : v = v' := by rw [h.low.2.2.2, g.low.2.2.2]
/-- How many parts of 2^40 the angle has. -/
def tv (K : Int) (Q : Nat) : Int := K * 2 ^ (40 - Q) % 1099511627776
theorem tv_mod {K : Int} {Q : Nat} (h : Q ≤ 40) : tv K Q = K % 2 ^ Q * 2 ^ (40 - Q) := by
  unfold tv
  rw [← p2_split h, Int.mul_comm K, Int.mul_comm (2 ^ Q), Int.mul_emod_mul_of_pos _ _ (p2_pos _), Int.mul_comm]
theorem tv_range (K : Int) (Q : Nat) : 0 ≤ tv K Q ∧ tv K Q < 1099511627776 := by unfold tv; omega
theorem Fm.tv {v k : Int} {q : Nat} (h : Fm v k q) : tv k q = v := by
  obtain ⟨h1, h2, h3, h4⟩ := h.low
  rw [tv_mod h3, Int.emod_eq_of_lt h1 h2, h4]
/-- The way there: halves as long as it goes. -/
theorem fm_half {K : Int} {q : Nat} (h0 : 0 < K) (h1 : K < 2 ^ (q + 1)) (he : K % 2 = 0) : 0 < K / 2 ∧ K / 2 < 2 ^ q := by
  rw [Int.pow_succ] at h1; omega
theorem fm_step {K : Int} {q : Nat} (hq : q + 1 ≤ 40) (he : K % 2 = 0) : K * 2 ^ (40 - (q + 1)) = K / 2 * 2 ^ (40 - q) := by
  rw [show 40 - q = 1 + (40 - (q + 1)) by omega, p2_add, ← Int.mul_assoc]
  congr 1; omega
theorem fm_end {K : Int} {q : Nat} (h0 : 0 < K) (h1 : K < 2 ^ q) (hq : q ≤ 40) (ho : K % 2 ≠ 0) : Fm (K * 2 ^ (40 - q)) K q := ⟨.inr ⟨by omega, h0, h1, hq, rfl⟩⟩
theorem fm_zero : Fm 0 0 0 := ⟨.inl ⟨rfl, rfl, rfl⟩⟩
theorem fm_some {q : Nat} : ∀ {K : Int}, 0 ≤ K → K < 2 ^ q → q ≤ 40 → ∃ k j, Fm (K * 2 ^ (40 - q)) k j := by
  induction q with
  | zero =>
    intro K h0 h1 _
    obtain rfl : K = 0 := by have : (2 : Int) ^ 0 = 1 := rfl; omega
    exact ⟨0, 0, by rw [Int.zero_mul]; exact fm_zero⟩
  | succ q ih =>
    intro K h0 h1 hq
    by_cases hz : K = 0
    · subst hz; exact ⟨0, 0, by rw [Int.zero_mul]; exact fm_zero⟩
    · by_cases he : K % 2 = 0
      · obtain ⟨a, b⟩ := fm_half (by omega) h1 he
        rw [fm_step hq he]; exact ih (by omega) b (by omega)
      · exact ⟨K, q + 1, fm_end (by omega) h1 hq he⟩
theorem fm_there {v : Int} (h0 : 0 ≤ v) (h1 : v < 1099511627776) : ∃ k q, Fm v k q := by
  have := fm_some (q := 40) h0 (by rw [p2_40]; exact h1) (Nat.le_refl _)
  simpa using this
/-- Multiples of a part. -/
theorem fm_parts {v k : Int} {q Q : Nat} (h : Fm v k q) (hq : q ≤ Q) (hQ : Q ≤ 40) : k * 2 ^ (Q - q) * 2 ^ (40 - Q) = v := by
  rw [Int.mul_assoc, ← p2_add, show Q - q + (40 - Q) = 40 - q by omega]; exact h.low.2.2.2.symm
theorem parts_range {v k : Int} {q Q : Nat} (h : Fm v k q) (hq : q ≤ Q) (hQ : Q ≤ 40) : 0 ≤ k * 2 ^ (Q - q) ∧ k * 2 ^ (Q - q) < 2 ^ Q := by
  obtain ⟨h1, h2, h3, h4⟩ := h.low
  have hp := p2_pos (Q - q)
  refine ⟨Int.mul_nonneg h1 (Int.le_of_lt hp), ?_⟩
  have := Int.mul_lt_mul_of_pos_right h2 hp
  rw [← p2_add, show q + (Q - q) = Q by omega] at this
  exact this
theorem fm_le {K k : Int} {Q q : Nat} (hQ : Q ≤ 40) (h : Fm (tv K Q) k q) : q ≤ Q := by
  rcases h.out with ⟨_, _, rfl⟩ | ⟨h1, h2, h3, h4, h5⟩
  · omega
  · rw [tv_mod hQ] at h5
    rcases Nat.le_total q Q with l | l
    · exact l
    · obtain ⟨a, b⟩ := odd_pow h1 l h4 h5; omega
theorem mod_twice (a b U : Int) : (a % U + b) % U = (a + b) % U := by rw [Int.emod_add_emod]
theorem tv_add {a b : Int} {q : Nat} {va vb : Int} (ha : a * 2 ^ (40 - q) = va) (hb : b * 2 ^ (40 - q) = vb) : tv (a + b) q = (va + vb) % 1099511627776 := by
  unfold tv; rw [Int.add_mul, ha, hb]
theorem tv_neg (K : Int) (Q : Nat) : tv (-K) Q = (-tv K Q) % 1099511627776 := by
  unfold tv
  rw [Int.neg_mul]
  generalize K * 2 ^ (40 - Q) = X
  omega
/-- A wrapped number of parts is the same angle. -/
theorem tv_wrap (K : Int) (Q : Nat) : tv (wrap64 K) Q = tv K Q := by
  have hw : ∃ j, wrap64 K = K + j * 18446744073709551616 := by
    refine ⟨(wrap64 K - K) / 18446744073709551616, ?_⟩
    unfold wrap64; omega
  obtain ⟨j, hj⟩ := hw
  unfold tv
  rw [hj, Int.add_mul, show j * 18446744073709551616 * 2 ^ (40 - Q) = 1099511627776 * (j * 16777216 * 2 ^ (40 - Q)) by
    rw [show (18446744073709551616 : Int) = 1099511627776 * 16777216 by decide]
    generalize (2 : Int) ^ (40 - Q) = P
    grind]
  exact Int.add_mul_emod_self_left ..
theorem tv_times {K n v : Int} {q : Nat} (hq : q ≤ 40) (h : K * 2 ^ (40 - q) = v) : tv (K * (n % 2 ^ q)) q = n * v % 1099511627776 := by
  unfold tv
  have hs := p2_split hq
  have e : n * v = K * (n % 2 ^ q) * 2 ^ (40 - q) + 1099511627776 * (K * (n / 2 ^ q)) := by
    rw [← h, ← hs]
    have := Int.mul_ediv_add_emod n (2 ^ q)
    generalize n / 2 ^ q = d at *
    generalize n % 2 ^ q = r at *
    generalize (2 : Int) ^ q = A at *
    generalize (2 : Int) ^ (40 - q) = B at *
    grind
  rw [e, Int.add_mul_emod_self_left]
end Go.Proofs.YtomdbmjfehoodaaGreatDoor

/- Walks of the document's answers on angles. -/
namespace Go.Proofs.YtomdbmjfehoodaaGreatDoor
open Go.RowKit
set_option linter.unusedVariables false
theorem two_pow_word {Q : Nat} (h : Q ≤ 41) : IntKind.i64.wrap ((2 : Int) ^ Q) = 2 ^ Q := IntWalk.i64_in _ (by
  have := p2_le h; have := p2_pos Q; have : (2 : Int) ^ 41 = 2199023255552 := by decide
  omega)
theorem meas_lt (i : Nat) : (intOf (Value.int .i64 (i : Int))).toNat < (intOf (Value.int .i64 ((i + 1 : Nat) : Int))).toNat := by
  show (i : Int).toNat < ((i + 1 : Nat) : Int).toNat
  omega
/-- What the loop of Form starts from. -/
theorem form_start {K : Int} {Q : Nat} (hQ : Q ≤ 40) : (K.tmod (2 ^ Q) + 2 ^ Q).tmod (2 ^ Q) = K % 2 ^ Q := by
  have hp := p2_pos Q
  have h1 := Int.tmod_lt_of_pos K hp
  have h2 : -(2 ^ Q) < K.tmod (2 ^ Q) := by
    have := Int.lt_tmod_of_pos K hp
    omega
  rw [Int.tmod_eq_emod_of_nonneg (by omega), Int.add_emod_right]
  have := Int.mul_tdiv_add_tmod K (2 ^ Q)
  conv => rhs; rw [← this]
  rw [Int.mul_add_emod_self_left]
theorem form_word {K : Int} {Q : Nat} (hQ : Q ≤ 40) : (wrap64 (K.tmod (2 ^ Q) + 2 ^ Q)).tmod (2 ^ Q) = K % 2 ^ Q := by
  have hp := p2_pos Q
  have hle := p2_le hQ
  rw [p2_40] at hle
  rw [show wrap64 (K.tmod (2 ^ Q) + 2 ^ Q) = K.tmod (2 ^ Q) + 2 ^ Q from (by
    have h1 := Int.tmod_lt_of_pos K hp
    have h2 := Int.lt_tmod_of_pos K hp
    unfold wrap64; omega)]
  exact form_start hQ
set_option maxRecDepth 4000 in
set_option maxHeartbeats 1000000 in
theorem rform_any (w : World) (K k : Int) (Q q : Nat) (hK : -9223372036854775808 ≤ K ∧ K ≤ 9223372036854775807) (hQ : Q ≤ 40) (h : Fm (tv K Q) k q) :
    Calls Tryz.prog 49 #[.agg #[.int .i64 K, .int .i64 Q]] w (RetE w (.agg #[.int .i64 k, .int .i64 q])) := by
  have hw := two_pow_word (show Q ≤ 41 by omega)
  have hp := p2_pos Q
  have hle := p2_le hQ
  rw [p2_40] at hle
  have hx0 := Int.emod_nonneg K (Int.ne_of_gt hp)
  have hx1 := Int.emod_lt_of_pos K hp
  have hs : (wrap64 (K.tmod (2 ^ Q) + 2 ^ Q)).tmod (2 ^ Q) = K % 2 ^ Q := by
    rw [show wrap64 (K.tmod (2 ^ Q) + 2 ^ Q) = K.tmod (2 ^ Q) + 2 ^ Q from (by
      have h1 := Int.tmod_lt_of_pos K hp
      have h2 := Int.lt_tmod_of_pos K hp
      unfold wrap64; omega)]
    exact form_start hQ
  rw [tv_mod hQ] at h
  go_enter Tryz.func49, Tryz.ntmps49
  go_wp2
  generalize K % 2 ^ Q = X at *
  go_loopw [4, 5] (fun kv qv wr => ∃ (x : Int) (j : Nat), kv = .int .i64 x ∧ qv = .int .i64 (j : Int) ∧ 0 ≤ x ∧ x < 2 ^ j ∧ j ≤ 40 ∧ Fm (x * 2 ^ (40 - j)) k q ∧ wr = ((w.alloc (.cells #[.int .i64 K, .int .i64 Q] 23)).alloc (.cells #[.int .i64 0, .int .i64 0] 23))) (fun _ qv _ => (intOf qv).toNat)
  case atStart => exact ⟨X, Q, rfl, rfl, hx0, hx1, hQ, h, rfl⟩
  case round =>
    clear hw hp hle hx0 hx1 hs h hK hQ
    obtain ⟨x, j, rfl, rfl, h0, h1, hj, hF, rfl⟩ := hrel
    by_cases hz : x = 0
    · subst hz
      rw [Int.zero_mul] at hF
      obtain ⟨rfl, rfl⟩ := hF.uniq fm_zero
      clear h0 h1 hF
      go_wp2
      exact bodyPost_ret (by simp [results, Tryz.results49, go_sem]) rfl ⟨rfl, ((Ext.refl w).alloc _).alloc _⟩
    · have hp : 0 < x := by omega
      by_cases he : x % 2 = 0
      · obtain ⟨i, rfl⟩ : ∃ i, j = i + 1 := by
          rcases j with _ | i
          · exfalso; have : (2 : Int) ^ 0 = 1 := rfl; omega
          · exact ⟨i, rfl⟩
        obtain ⟨c1, c2⟩ := fm_half hp h1 he
        rw [fm_step hj he] at hF
        have hm : x.tmod 2 = 0 := by rw [Int.tmod_eq_emod_of_nonneg h0]; exact he
        have hd : x.tdiv 2 = x / 2 := Int.tdiv_eq_ediv_of_nonneg h0
        have HF := Lib.hid (And.intro hF (And.intro c1 (And.intro c2 hj)))
        have hb : x < 1099511627776 := by have := p2_le hj; rw [p2_40] at this; omega
        have hd2 : wrap64 (x / 2) = x / 2 := by unfold wrap64; omega
        have hd3 : wrap64 (i : Int) = i := by unfold wrap64; omega
        clear hF c1 c2 h1 hj he
        go_wp2
        go_roundw
        case rel => exact ⟨x / 2, i, rfl, by rw [hd3], by have := HF.out.2.1; omega, HF.out.2.2.1, by have := HF.out.2.2.2; omega, HF.out.1, by simp⟩
        case measure => rw [hd3]; exact meas_lt i
      · have hm : (x.tmod 2 == 0) = false := by
          rw [Int.tmod_eq_emod_of_nonneg h0]; exact beq_eq_false_iff_ne.2 he
        have hm2 : ¬ x.tmod 2 = 0 := by rw [Int.tmod_eq_emod_of_nonneg h0]; exact he
        have hz' : (x == 0) = false := beq_eq_false_iff_ne.2 hz
        obtain ⟨rfl, rfl⟩ := hF.uniq (fm_end hp h1 hj he)
        clear hF h1
        go_wp2
        exact bodyPost_ret (by simp [results, Tryz.results49, go_sem]) rfl ⟨rfl, ((Ext.refl w).alloc _).alloc _⟩
end Go.Proofs.YtomdbmjfehoodaaGreatDoor

/- Walks of the document's answers on angles: parts, sums, opposites, times. -/
namespace Go.Proofs.YtomdbmjfehoodaaGreatDoor
open Go.RowKit
set_option linter.unusedVariables false
/-- At g lies an angle's variable. -/
structure B2 (w : World) (g : Nat) (x y : Value) : Prop where
  c0 : w.cell? ⟨g, 0, none⟩ = some x
  c1 : w.cell? ⟨g, 1, none⟩ = some y
theorem B2.ext {w w' : World} {g : Nat} {x y : Value} (h : B2 w g x y) (E : Ext w w') : B2 w' g x y := by
  have hg : g < w.heap.size := World.block_lt_of_cell? w _ h.c0
  exact ⟨(E.cell hg).trans h.c0, (E.cell hg).trans h.c1⟩
theorem B2.new (w : World) (x y : Value) (t : TypeId) : B2 (w.alloc (.cells #[x, y] t)) w.heap.size x y := ⟨by rw [World.cell?_alloc_new]; rfl, by rw [World.cell?_alloc_new]; rfl⟩
theorem B2.at {w w' : World} {x y : Value} {t : TypeId} {g : Nat} (E : Ext (w.alloc (.cells #[x, y] t)) w') (hg : w.heap.size = g) : B2 w' g x y := by
  subst hg; exact (B2.new w x y t).ext E
theorem b2 {w : World} {g : Nat} {x y : Value} (h : B2 w g x y) : w.cell? ⟨g, 0, none⟩ = some x ∧ w.cell? ⟨g, 1, none⟩ = some y := ⟨h.c0, h.c1⟩
theorem B2.off {w : World} {g g' : Nat} {x y a b : Value} (h : B2 w g x y) (hg : g ≠ g') : B2 ((w.setCell ⟨g', 0, none⟩ a).setCell ⟨g', 1, none⟩ b) g x y := by
  have o : ∀ j, ((w.setCell ⟨g', 0, none⟩ a).setCell ⟨g', 1, none⟩ b).cell? ⟨g, j, none⟩ = w.cell? ⟨g, j, none⟩ := fun j => by
    rw [World.cell?_setCell_other _ _ _ _ (fun e => hg (by injection e with e; exact e.symm)), World.cell?_setCell_other _ _ _ _ (fun e => hg (by injection e with e; exact e.symm))]
  exact ⟨(o 0).trans h.c0, (o 1).trans h.c1⟩
/-- At g lies a result's variable, with nothing in it yet. -/
structure Z2 (w : World) (g : Nat) : Prop where
  c0 : w.cell? ⟨g, 0, none⟩ = some (.int .i64 0)
  c1 : w.cell? ⟨g, 1, none⟩ = some (.int .i64 0)
  f : ∀ j, w.frozen? ⟨g, j, none⟩ = false
theorem Z2.ext {w w' : World} {g : Nat} (h : Z2 w g) (E : Ext w w') : Z2 w' g := by
  have hg : g < w.heap.size := World.block_lt_of_cell? w _ h.c0
  exact ⟨(E.cell hg).trans h.c0, (E.cell hg).trans h.c1, fun j => (E.frozen hg).trans (h.f j)⟩
theorem Z2.at {w w' : World} {t : TypeId} {g : Nat} (E : Ext (w.alloc (.cells #[.int .i64 0, .int .i64 0] t)) w') (hg : w.heap.size = g) : Z2 w' g := by
  subst hg
  exact Z2.ext ⟨by rw [World.cell?_alloc_new]; rfl, by rw [World.cell?_alloc_new]; rfl, fun j => by simp⟩ E
theorem Z2.done {w w2 : World} {g : Nat} {x y : Value} (h : Z2 w2 g) (E : Ext w w2) (hg : w.heap.size ≤ g) :
    ((w2.setCell ⟨g, 0, none⟩ x).setCell ⟨g, 1, none⟩ y).cell? ⟨g, 0, none⟩ = some x ∧ ((w2.setCell ⟨g, 0, none⟩ x).setCell ⟨g, 1, none⟩ y).cell? ⟨g, 1, none⟩ = some y ∧ Ext w ((w2.setCell ⟨g, 0, none⟩ x).setCell ⟨g, 1, none⟩ y) := by
  have o : ∀ (W : World) (i j : Nat) (v : Value), i ≠ j → (W.setCell ⟨g, i, none⟩ v).cell? ⟨g, j, none⟩ = W.cell? ⟨g, j, none⟩ := fun W i j v hij => World.cell?_setCell_other _ _ _ _ (fun h => hij (by injection h))
  exact ⟨by rw [o _ 1 0 _ (by omega)]; exact World.cell?_setCell_same _ _ _ h.c0, World.cell?_setCell_same _ _ _ (by rw [o _ 0 1 _ (by omega)]; exact h.c1), (E.setCell hg _).setCell hg _⟩
theorem fld0 (a b : Value) (W : World) : (Instr.field 23 (.agg #[a, b]) 0).run Tryz.prog W = .ok a W := by kernel_rfl
theorem fld1 (a b : Value) (W : World) : (Instr.field 23 (.agg #[a, b]) 1).run Tryz.prog W = .ok b W := by kernel_rfl
set_option maxRecDepth 4000 in
set_option maxHeartbeats 1000000 in
theorem rparts_any (w : World) (K k N : Int) (Q q j : Nat) (hK : -9223372036854775808 ≤ K ∧ K ≤ 9223372036854775807) (hQ : Q ≤ 40) (h : Fm (tv K Q) k q) (hN : N = ((q + j : Nat) : Int)) (hj : q + j ≤ 40) :
    Calls Tryz.prog 66 #[.agg #[.int .i64 K, .int .i64 Q], .int .i64 N] w (RetE w (.int .i64 (k * 2 ^ j))) := by
  have HF := Lib.hid (fun w' => rform_any w' K k Q q hK hQ h)
  have hw1 : IntKind.i64.wrap (N - (q : Int)) = (j : Int) := by rw [IntWalk.i64_in _ (by omega)]; omega
  have hw1' : wrap64 (N - (q : Int)) = (j : Int) := by unfold wrap64; omega
  have hr := parts_range h (show q ≤ q + j by omega) hj
  have hl := p2_le hj
  rw [p2_40] at hl
  rw [show q + j - q = j by omega] at hr
  have hw2 : IntKind.i64.wrap (k * 2 ^ j) = k * 2 ^ j := IntWalk.i64_in _ (by omega)
  have hw2' : wrap64 (k * 2 ^ j) = k * 2 ^ j := by unfold wrap64; omega
  have hj2 : j ≤ 40 := by omega
  have hf0 := fld0
  have hf1 := fld1
  clear hr hl h hN hj hK hQ
  go_enter Tryz.func66, Tryz.ntmps66
  go_wp2
  generalize hW0 : (w.alloc (.cells #[.int .i64 K, .int .i64 Q] 23)) = W0
  have B : B2 W0 (w.heap.size) (.int .i64 K) (.int .i64 (Q : Int)) := by rw [← hW0]; exact B2.at (Ext.refl _) (by simp)
  have E0 : Ext w W0 := by rw [← hW0]; exact ((Ext.refl w).alloc _)
  obtain ⟨B_0, B_1⟩ := id B
  clear hW0
  go_region_held3 (fun w' => (w'.cell? ⟨w.heap.size, 0, none⟩ = some (.int .i64 K) ∧ w'.cell? ⟨w.heap.size, 1, none⟩ = some (.int .i64 Q))) (first | (with_reducible exact b2 (B.ext F2)) | (with_reducible exact b2 (B.ext F1)) | go_keep) (first | ((have hF2 := F1); (go_at_call 49); (refine (HF.out _).mono ?_); (rintro _ u2 ⟨rfl, e2⟩); (have F2 : Ext W0 u2 := F1.trans e2)) | ((go_at_call 49); (refine (HF.out _).mono ?_); (rintro _ u1 ⟨rfl, e1⟩); (have F1 : Ext W0 u1 := (Ext.refl W0).drew.trans e1)))
  go_wp2
  go_ret
  exact ⟨rfl, E0.trans F2⟩
set_option maxRecDepth 4000 in
set_option maxHeartbeats 1000000 in
theorem radd2_le (w : World) (Ka Kb ka kb k : Int) (Qa Qb qa qb q : Nat) (hKa : -9223372036854775808 ≤ Ka ∧ Ka ≤ 9223372036854775807) (hKb : -9223372036854775808 ≤ Kb ∧ Kb ≤ 9223372036854775807) (hQa : Qa ≤ 40) (hQb : Qb ≤ 40) (ha : Fm (tv Ka Qa) ka qa) (hb : Fm (tv Kb Qb) kb qb) (h : Fm ((tv Ka Qa + tv Kb Qb) % 1099511627776) k q) (hle : Qa < Qb) :
    Calls Tryz.prog 33 #[.agg #[.int .i64 Ka, .int .i64 Qa], .agg #[.int .i64 Kb, .int .i64 Qb]] w (RetE w (.agg #[.int .i64 k, .int .i64 q])) := by
  have la := fm_le hQa ha
  have lb := fm_le hQb hb
  have pa := parts_range ha (show qa ≤ Qb by omega) (by omega)
  have pb := parts_range hb (show qb ≤ Qb by omega) (by omega)
  have va := fm_parts ha (show qa ≤ Qb by omega) (by omega)
  have vb := fm_parts hb (show qb ≤ Qb by omega) (by omega)
  have hl := p2_le (show Qb ≤ 40 by omega)
  rw [p2_40] at hl
  have HA := Lib.hid (fun w' => rparts_any w' Ka ka (Qb : Int) Qa qa (Qb - qa) hKa hQa ha (by omega) (by omega))
  have HB := Lib.hid (fun w' => rparts_any w' Kb kb (Qb : Int) Qb qb (Qb - qb) hKb hQb hb (by omega) (by omega))
  have ht := tv_add va vb
  rw [← ht] at h
  have HC := Lib.hid (fun w' => rform_any w' (ka * 2 ^ (Qb - qa) + kb * 2 ^ (Qb - qb)) k Qb q (by omega) (by omega) h)
  have hw : IntKind.i64.wrap (ka * 2 ^ (Qb - qa) + kb * 2 ^ (Qb - qb)) = ka * 2 ^ (Qb - qa) + kb * 2 ^ (Qb - qb) := IntWalk.i64_in _ (by omega)
  have hw' : wrap64 (ka * 2 ^ (Qb - qa) + kb * 2 ^ (Qb - qb)) = ka * 2 ^ (Qb - qa) + kb * 2 ^ (Qb - qb) := by unfold wrap64; omega
  have hmx : max (Qa : Int) (Qb : Int) = (Qb : Int) := by omega
  have h1 : Qa < Qb := by omega
  have h2 : (Qa : Int) < (Qb : Int) := by omega
  clear hKa hKb hQa hQb ha hb h la lb pa pb va vb hl ht hle
  generalize ka * 2 ^ (Qb - qa) = A at *
  generalize kb * 2 ^ (Qb - qb) = B at *
  go_enter Tryz.func33, Tryz.ntmps33
  go_wp2
  generalize hW0 : (((w.alloc (.cells #[.int .i64 Ka, .int .i64 Qa] 23)).alloc (.cells #[.int .i64 Kb, .int .i64 Qb] 23)).alloc (.cells #[.int .i64 0, .int .i64 0] 23)) = W0
  have Ba : B2 W0 (w.heap.size) (.int .i64 Ka) (.int .i64 (Qa : Int)) := by rw [← hW0]; exact B2.at (((Ext.refl _).alloc _).alloc _) (by simp)
  have Bb : B2 W0 (w.heap.size + 1) (.int .i64 Kb) (.int .i64 (Qb : Int)) := by rw [← hW0]; exact B2.at ((Ext.refl _).alloc _) (by simp)
  have Z0 : Z2 W0 (w.heap.size + 1 + 1) := by rw [← hW0]; exact Z2.at (Ext.refl _) (by simp)
  have E0 : Ext w W0 := by rw [← hW0]; exact ((((Ext.refl w).alloc _).alloc _).alloc _)
  obtain ⟨Ba_0, Ba_1⟩ := id Ba
  have NBa : (w.heap.size : Nat) ≠ w.heap.size + 1 + 1 := by omega
  obtain ⟨Bb_0, Bb_1⟩ := id Bb
  have NBb : (w.heap.size + 1 : Nat) ≠ w.heap.size + 1 + 1 := by omega
  clear hW0
  go_region_held3 (fun w' => (w'.cell? ⟨w.heap.size, 0, none⟩ = some (.int .i64 Ka) ∧ w'.cell? ⟨w.heap.size, 1, none⟩ = some (.int .i64 Qa)) ∧ (w'.cell? ⟨w.heap.size + 1, 0, none⟩ = some (.int .i64 Kb) ∧ w'.cell? ⟨w.heap.size + 1, 1, none⟩ = some (.int .i64 Qb))) (first | (with_reducible exact ⟨b2 (B2.off (Ba.ext F3) NBa), b2 (B2.off (Bb.ext F3) NBb)⟩) | (with_reducible exact ⟨b2 (Ba.ext F3), b2 (Bb.ext F3)⟩) | (with_reducible exact ⟨b2 (Ba.ext F2), b2 (Bb.ext F2)⟩) | (with_reducible exact ⟨b2 (Ba.ext F1), b2 (Bb.ext F1)⟩) | go_keep) (first | ((have hF3 := F2); (go_at_call 49); (refine (HC.out _).mono ?_); (rintro _ u3 ⟨rfl, e3⟩); (have F3 : Ext W0 u3 := F2.trans e3); (have Z1 := Z0.ext F3); (have g0 := Z1.c0); (have g1 := Z1.c1); (have f0 := Z1.f 0); (have f1 := Z1.f 1)) | ((have hF2 := F1); (go_at_call 66); (refine (HB.out _).mono ?_); (rintro _ u2 ⟨rfl, e2⟩); (have F2 : Ext W0 u2 := F1.trans e2)) | ((go_at_call 66); (refine (HA.out _).mono ?_); (rintro _ u1 ⟨rfl, e1⟩); (have F1 : Ext W0 u1 := (Ext.refl W0).drew.trans e1)))
  go_wp2
  obtain ⟨k0, k1, hD⟩ := Z1.done (E0.trans F3) (by omega)
  exact bodyPost_ret (by simp [results, Tryz.results33, go_sem, k0, k1]) rfl ⟨rfl, hD⟩
set_option maxRecDepth 4000 in
set_option maxHeartbeats 1000000 in
theorem radd2_ge (w : World) (Ka Kb ka kb k : Int) (Qa Qb qa qb q : Nat) (hKa : -9223372036854775808 ≤ Ka ∧ Ka ≤ 9223372036854775807) (hKb : -9223372036854775808 ≤ Kb ∧ Kb ≤ 9223372036854775807) (hQa : Qa ≤ 40) (hQb : Qb ≤ 40) (ha : Fm (tv Ka Qa) ka qa) (hb : Fm (tv Kb Qb) kb qb) (h : Fm ((tv Ka Qa + tv Kb Qb) % 1099511627776) k q) (hle : ¬ Qa < Qb) :
    Calls Tryz.prog 33 #[.agg #[.int .i64 Ka, .int .i64 Qa], .agg #[.int .i64 Kb, .int .i64 Qb]] w (RetE w (.agg #[.int .i64 k, .int .i64 q])) := by
  have la := fm_le hQa ha
  have lb := fm_le hQb hb
  have pa := parts_range ha (show qa ≤ Qa by omega) (by omega)
  have pb := parts_range hb (show qb ≤ Qa by omega) (by omega)
  have va := fm_parts ha (show qa ≤ Qa by omega) (by omega)
  have vb := fm_parts hb (show qb ≤ Qa by omega) (by omega)
  have hl := p2_le (show Qa ≤ 40 by omega)
  rw [p2_40] at hl
  have HA := Lib.hid (fun w' => rparts_any w' Ka ka (Qa : Int) Qa qa (Qa - qa) hKa hQa ha (by omega) (by omega))
  have HB := Lib.hid (fun w' => rparts_any w' Kb kb (Qa : Int) Qb qb (Qa - qb) hKb hQb hb (by omega) (by omega))
  have ht := tv_add va vb
  rw [← ht] at h
  have HC := Lib.hid (fun w' => rform_any w' (ka * 2 ^ (Qa - qa) + kb * 2 ^ (Qa - qb)) k Qa q (by omega) (by omega) h)
  have hw : IntKind.i64.wrap (ka * 2 ^ (Qa - qa) + kb * 2 ^ (Qa - qb)) = ka * 2 ^ (Qa - qa) + kb * 2 ^ (Qa - qb) := IntWalk.i64_in _ (by omega)
  have hw' : wrap64 (ka * 2 ^ (Qa - qa) + kb * 2 ^ (Qa - qb)) = ka * 2 ^ (Qa - qa) + kb * 2 ^ (Qa - qb) := by unfold wrap64; omega
  have hmx : max (Qa : Int) (Qb : Int) = (Qa : Int) := by omega
  have h1 : ¬ Qa < Qb := by omega
  have h2 : ¬ (Qa : Int) < (Qb : Int) := by omega
  clear hKa hKb hQa hQb ha hb h la lb pa pb va vb hl ht hle
  generalize ka * 2 ^ (Qa - qa) = A at *
  generalize kb * 2 ^ (Qa - qb) = B at *
  go_enter Tryz.func33, Tryz.ntmps33
  go_wp2
  generalize hW0 : (((w.alloc (.cells #[.int .i64 Ka, .int .i64 Qa] 23)).alloc (.cells #[.int .i64 Kb, .int .i64 Qb] 23)).alloc (.cells #[.int .i64 0, .int .i64 0] 23)) = W0
  have Ba : B2 W0 (w.heap.size) (.int .i64 Ka) (.int .i64 (Qa : Int)) := by rw [← hW0]; exact B2.at (((Ext.refl _).alloc _).alloc _) (by simp)
  have Bb : B2 W0 (w.heap.size + 1) (.int .i64 Kb) (.int .i64 (Qb : Int)) := by rw [← hW0]; exact B2.at ((Ext.refl _).alloc _) (by simp)
  have Z0 : Z2 W0 (w.heap.size + 1 + 1) := by rw [← hW0]; exact Z2.at (Ext.refl _) (by simp)
  have E0 : Ext w W0 := by rw [← hW0]; exact ((((Ext.refl w).alloc _).alloc _).alloc _)
  obtain ⟨Ba_0, Ba_1⟩ := id Ba
  have NBa : (w.heap.size : Nat) ≠ w.heap.size + 1 + 1 := by omega
  obtain ⟨Bb_0, Bb_1⟩ := id Bb
  have NBb : (w.heap.size + 1 : Nat) ≠ w.heap.size + 1 + 1 := by omega
  clear hW0
  go_region_held3 (fun w' => (w'.cell? ⟨w.heap.size, 0, none⟩ = some (.int .i64 Ka) ∧ w'.cell? ⟨w.heap.size, 1, none⟩ = some (.int .i64 Qa)) ∧ (w'.cell? ⟨w.heap.size + 1, 0, none⟩ = some (.int .i64 Kb) ∧ w'.cell? ⟨w.heap.size + 1, 1, none⟩ = some (.int .i64 Qb))) (first | (with_reducible exact ⟨b2 (B2.off (Ba.ext F3) NBa), b2 (B2.off (Bb.ext F3) NBb)⟩) | (with_reducible exact ⟨b2 (Ba.ext F3), b2 (Bb.ext F3)⟩) | (with_reducible exact ⟨b2 (Ba.ext F2), b2 (Bb.ext F2)⟩) | (with_reducible exact ⟨b2 (Ba.ext F1), b2 (Bb.ext F1)⟩) | go_keep) (first | ((have hF3 := F2); (go_at_call 49); (refine (HC.out _).mono ?_); (rintro _ u3 ⟨rfl, e3⟩); (have F3 : Ext W0 u3 := F2.trans e3); (have Z1 := Z0.ext F3); (have g0 := Z1.c0); (have g1 := Z1.c1); (have f0 := Z1.f 0); (have f1 := Z1.f 1)) | ((have hF2 := F1); (go_at_call 66); (refine (HB.out _).mono ?_); (rintro _ u2 ⟨rfl, e2⟩); (have F2 : Ext W0 u2 := F1.trans e2)) | ((go_at_call 66); (refine (HA.out _).mono ?_); (rintro _ u1 ⟨rfl, e1⟩); (have F1 : Ext W0 u1 := (Ext.refl W0).drew.trans e1)))
  go_wp2
  obtain ⟨k0, k1, hD⟩ := Z1.done (E0.trans F3) (by omega)
  exact bodyPost_ret (by simp [results, Tryz.results33, go_sem, k0, k1]) rfl ⟨rfl, hD⟩
theorem radd2_any (w : World) (Ka Kb ka kb k : Int) (Qa Qb qa qb q : Nat) (hKa : -9223372036854775808 ≤ Ka ∧ Ka ≤ 9223372036854775807) (hKb : -9223372036854775808 ≤ Kb ∧ Kb ≤ 9223372036854775807) (hQa : Qa ≤ 40) (hQb : Qb ≤ 40) (ha : Fm (tv Ka Qa) ka qa) (hb : Fm (tv Kb Qb) kb qb) (h : Fm ((tv Ka Qa + tv Kb Qb) % 1099511627776) k q) :
    Calls Tryz.prog 33 #[.agg #[.int .i64 Ka, .int .i64 Qa], .agg #[.int .i64 Kb, .int .i64 Qb]] w (RetE w (.agg #[.int .i64 k, .int .i64 q])) := by
  by_cases hle : Qa < Qb
  · exact radd2_le w Ka Kb ka kb k Qa Qb qa qb q hKa hKb hQa hQb ha hb h hle
  · exact radd2_ge w Ka Kb ka kb k Qa Qb qa qb q hKa hKb hQa hQb ha hb h hle
set_option maxRecDepth 4000 in
set_option maxHeartbeats 1000000 in
theorem rflip2_any (w : World) (K k : Int) (Q q : Nat) (hK : -9223372036854775807 ≤ K ∧ K ≤ 9223372036854775807) (hQ : Q ≤ 40) (h : Fm ((-tv K Q) % 1099511627776) k q) :
    Calls Tryz.prog 32 #[.agg #[.int .i64 K, .int .i64 Q]] w (RetE w (.agg #[.int .i64 k, .int .i64 q])) := by
  rw [← tv_neg] at h
  have HC := Lib.hid (fun w' => rform_any w' (-K) k Q q (by omega) hQ h)
  have hw : IntKind.i64.wrap (-K) = -K := IntWalk.i64_in _ (by omega)
  have hw' : wrap64 (-K) = -K := by unfold wrap64; omega
  clear h hQ hK
  go_enter Tryz.func32, Tryz.ntmps32
  go_wp2_with (go_at_call 49; refine (HC.out _).mono ?_; rintro _ w4 ⟨rfl, e4⟩; have Z1 : Z2 w4 (w.heap.size + 1) := Z2.at e4 (by simp); have g0 := Z1.c0; have g1 := Z1.c1; have f0 := Z1.f 0; have f1 := Z1.f 1)
  obtain ⟨k0, k1, hD⟩ := Z1.done ((((Ext.refl w).alloc _).alloc _).trans e4) (by omega)
  exact bodyPost_ret (by simp [results, Tryz.results32, go_sem, k0, k1]) rfl ⟨rfl, hD⟩
theorem wrap_same (x : Int) : IntKind.i64.wrap x = wrap64 x := by rw [IntKind.wrap_i64]; unfold wrap64; rfl
/-- At g lies a part's variable, with nothing in it yet. -/
structure Z3 (w : World) (g : Nat) : Prop where
  c0 : w.cell? ⟨g, 0, none⟩ = some (.int .i64 0)
  c1 : w.cell? ⟨g, 1, none⟩ = some (.int .i64 0)
  c2 : w.cell? ⟨g, 2, none⟩ = some (.int .i64 0)
  f : ∀ j, w.frozen? ⟨g, j, none⟩ = false
theorem Z3.ext {w w' : World} {g : Nat} (h : Z3 w g) (E : Ext w w') : Z3 w' g := by
  have hg : g < w.heap.size := World.block_lt_of_cell? w _ h.c0
  exact ⟨(E.cell hg).trans h.c0, (E.cell hg).trans h.c1, (E.cell hg).trans h.c2, fun j => (E.frozen hg).trans (h.f j)⟩
theorem Z3.at {w w' : World} {t : TypeId} {g : Nat} (E : Ext (w.alloc (.cells #[.int .i64 0, .int .i64 0, .int .i64 0] t)) w') (hg : w.heap.size = g) : Z3 w' g := by
  subst hg
  exact Z3.ext ⟨by rw [World.cell?_alloc_new]; rfl, by rw [World.cell?_alloc_new]; rfl, by rw [World.cell?_alloc_new]; rfl, fun j => by simp⟩ E
theorem Z3.done {w w2 : World} {g : Nat} {x y z : Value} (h : Z3 w2 g) (E : Ext w w2) (hg : w.heap.size ≤ g) :
    let W := (((w2.setCell ⟨g, 0, none⟩ x).setCell ⟨g, 1, none⟩ y).setCell ⟨g, 2, none⟩ z)
    W.cell? ⟨g, 0, none⟩ = some x ∧ W.cell? ⟨g, 1, none⟩ = some y ∧ W.cell? ⟨g, 2, none⟩ = some z ∧ Ext w W := by
  have o : ∀ (W : World) (i j : Nat) (v : Value), i ≠ j → (W.setCell ⟨g, i, none⟩ v).cell? ⟨g, j, none⟩ = W.cell? ⟨g, j, none⟩ := fun W i j v hij => World.cell?_setCell_other _ _ _ _ (fun h => hij (by injection h))
  refine ⟨?_, ?_, ?_, ((E.setCell hg _).setCell hg _).setCell hg _⟩
  · rw [o _ 2 0 _ (by omega), o _ 1 0 _ (by omega)]; exact World.cell?_setCell_same _ _ _ h.c0
  · rw [o _ 2 1 _ (by omega)]; exact World.cell?_setCell_same _ _ _ (by rw [o _ 0 1 _ (by omega)]; exact h.c1)
  · exact World.cell?_setCell_same _ _ _ (by rw [o _ 1 2 _ (by omega), o _ 0 2 _ (by omega)]; exact h.c2)
/-- The eighth and the rest of the angle of v parts of 2^40. -/
def eighth (v : Int) : Int := v / 137438953472
def rest (v : Int) : Int := if eighth v % 2 = 0 then v - eighth v * 137438953472 else (eighth v + 1) * 137438953472 - v
theorem rest_range {v : Int} (h0 : 0 ≤ v) (h1 : v < 1099511627776) : 0 ≤ eighth v ∧ eighth v ≤ 7 ∧ 0 ≤ rest v ∧ rest v ≤ 137438953472 := by
  unfold rest eighth
  split <;> omega
theorem p2_37 : (2 : Int) ^ 37 = 137438953472 := by decide
theorem eighth_parts {v k : Int} {q M j : Nat} (h : Fm v k q) (hj : q + j = M) (hM : M ≤ 40) (h3 : 3 ≤ M) : k * 2 ^ j / 2 ^ (M - 3) = eighth v ∧ tv (k * 2 ^ j - eighth v * 2 ^ (M - 3)) M = (v - eighth v * 137438953472) % 1099511627776 ∧ tv ((eighth v + 1) * 2 ^ (M - 3) - k * 2 ^ j) M = ((eighth v + 1) * 137438953472 - v) % 1099511627776 := by
  have hv := fm_parts h (show q ≤ M by omega) hM
  rw [show M - q = j by omega] at hv
  have h37 : (2 : Int) ^ (M - 3) * 2 ^ (40 - M) = 137438953472 := by
    rw [← p2_add, show M - 3 + (40 - M) = 37 by omega]; decide
  have e1 : k * 2 ^ j / 2 ^ (M - 3) = eighth v := by
    unfold eighth
    rw [← hv, ← h37, Int.mul_ediv_mul_of_pos_left _ _ (p2_pos _)]
  refine ⟨e1, ?_, ?_⟩
  · unfold tv
    rw [Int.sub_mul, hv, Int.mul_assoc, h37]
  · unfold tv
    rw [Int.sub_mul, hv, Int.mul_assoc, h37]
set_option maxRecDepth 4000 in
set_option maxHeartbeats 1000000 in
theorem rsplit_even (w : World) (K kf k : Int) (Q qf q : Nat) (hK : -9223372036854775808 ≤ K ∧ K ≤ 9223372036854775807) (hQ : Q ≤ 40) (hf : Fm (tv K Q) kf qf) (hp : eighth (tv K Q) % 2 = 0) (h : Fm (rest (tv K Q)) k q) :
    Calls Tryz.prog 109 #[.agg #[.int .i64 K, .int .i64 Q]] w (RetE w (.agg #[.int .i64 (eighth (tv K Q)), .int .i64 k, .int .i64 q])) := by
  have hrg := tv_range K Q
  have hrr := rest_range hrg.1 hrg.2
  have hle := fm_le hQ hf
  have HP := Lib.hid (fun (w' : World) (M : Nat) (h1 : Q ≤ M) (h2 : M ≤ 40) => rparts_any w' K kf (M : Int) Q qf (M - qf) hK hQ hf (by omega) (by omega))
  have HE := Lib.hid (fun (M : Nat) (h1 : Q ≤ M) (h2 : M ≤ 40) (h3 : 3 ≤ M) => eighth_parts (j := M - qf) hf (by omega) h2 h3)
  have HR := Lib.hid (fun (M : Nat) (h1 : Q ≤ M) (h2 : M ≤ 40) => parts_range hf (show qf ≤ M by omega) h2)
  have hrest : rest (tv K Q) = tv K Q - eighth (tv K Q) * 137438953472 := if_pos hp
  generalize hv : tv K Q = v at *
  obtain ⟨e, he⟩ : ∃ e, eighth v = e := ⟨_, rfl⟩
  rw [he] at HE hp hrr hrest ⊢
  rw [hrest] at h hrr
  clear hrest hf hv he hK
  go_enter Tryz.func109, Tryz.ntmps109
  go_upto_region 1 with fail
  go_cut [3] from 7 (fun p wx => ∃ M : Nat, p = .int .i64 (M : Int) ∧ Q ≤ M ∧ 3 ≤ M ∧ M ≤ 40 ∧ wx = ((w.alloc (.cells #[.int .i64 K, .int .i64 Q] 23)).alloc (.cells #[.int .i64 0, .int .i64 0, .int .i64 0] 81)))
  case first =>
    by_cases hq : Q < 3
    · go_wp2_with fail
      go_meet
      case rel => exact ⟨3, rfl, by omega, by omega, by omega, rfl⟩
    · go_wp2_with fail
      go_meet
      case rel => exact ⟨Q, rfl, by omega, by omega, hQ, rfl⟩
  case rest =>
    obtain ⟨M, rfl, h1, h3, h4, rfl⟩ := hcut
    replace HP := Lib.hid (fun w' => HP.out w' M h1 h4)
    obtain ⟨e1, e2, e3⟩ := HE.out M h1 h4 h3
    obtain ⟨p1, p2⟩ := HR.out M h1 h4
    clear HE HR
    generalize kf * 2 ^ (M - qf) = A at *
    have hO : (2 : Int) ^ (M - 3) ≤ 137438953472 := by rw [← p2_37]; exact p2_le (by omega)
    have hO1 := p2_pos (M - 3)
    have hM := p2_le h4
    rw [p2_40] at hM
    have hw0 : ((M : Int) - 3).toNat = M - 3 := by omega
    have hw1 : wrap64 ((M : Int) - 3) = ((M - 3 : Nat) : Int) := by unfold wrap64; omega
    have hw2 := two_pow_word (show M - 3 ≤ 41 by omega)
    have hd : A.tdiv (2 ^ (M - 3)) = e := by rw [Int.tdiv_eq_ediv_of_nonneg p1]; exact e1
    generalize hOg : (2 : Int) ^ (M - 3) = O at *
    have hb : 0 ≤ e * O ∧ (e + 1) * O ≤ 8 * 137438953472 := by
      refine ⟨Int.mul_nonneg hrr.1 (Int.le_of_lt hO1), ?_⟩
      have a := Int.mul_le_mul_of_nonneg_left hO (show 0 ≤ e + 1 by omega)
      have b := Int.mul_le_mul_of_nonneg_right (show e + 1 ≤ 8 by omega) (show (0 : Int) ≤ 137438953472 by omega)
      omega
    have hb2 : (e + 1) * O = e * O + O := by rw [Int.add_mul, Int.one_mul]
    have hm0 : wrap64 e = e := by unfold wrap64; omega
    have hm1 : wrap64 (e * O) = e * O := by unfold wrap64; omega
    have hm2 : wrap64 ((e + 1) * O) = (e + 1) * O := by unfold wrap64; omega
    have hm3 : wrap64 (e + 1) = e + 1 := by unfold wrap64; omega
    have hm4 : wrap64 (A - e * O) = A - e * O := by unfold wrap64; omega
    have htm : e.tmod 2 = 0 := by rw [Int.tmod_eq_emod_of_nonneg hrr.1]; exact hp
    have HC := Lib.hid (fun w' => rform_any w' (A - e * O) k M q (by omega) h4 (by rw [e2, Int.emod_eq_of_lt hrr.2.2.1 (by omega)]; exact h))
    clear h1 e1 e2 e3 p1 p2 hO hM hb hb2 hrr h hp hle hrg
    go_wp2_with fail
    refine (HP.out _).mono ?_
    rintro _ w1 ⟨rfl, x1⟩
    go_wp2_with (go_at_call 49; refine (HC.out _).mono ?_; rintro _ w4 ⟨rfl, x4⟩; have Z1 : Z3 w4 (w.heap.size + 1) := Z3.at (x1.trans x4) (by simp); have g0 := Z1.c0; have g1 := Z1.c1; have g2 := Z1.c2; have f0 := Z1.f 0; have f1 := Z1.f 1; have f2 := Z1.f 2)
    obtain ⟨k0, k1, k2, hD⟩ := Z1.done (((((Ext.refl w).alloc _).alloc _).trans x1).trans x4) (by omega)
    exact bodyPost_ret (by simp [results, Tryz.results109, go_sem, k0, k1, k2]) rfl ⟨rfl, hD⟩
set_option maxRecDepth 4000 in
set_option maxHeartbeats 1000000 in
theorem rsplit_odd (w : World) (K kf k : Int) (Q qf q : Nat) (hK : -9223372036854775808 ≤ K ∧ K ≤ 9223372036854775807) (hQ : Q ≤ 40) (hf : Fm (tv K Q) kf qf) (hp : eighth (tv K Q) % 2 ≠ 0) (h : Fm (rest (tv K Q)) k q) :
    Calls Tryz.prog 109 #[.agg #[.int .i64 K, .int .i64 Q]] w (RetE w (.agg #[.int .i64 (eighth (tv K Q)), .int .i64 k, .int .i64 q])) := by
  have hrg := tv_range K Q
  have hrr := rest_range hrg.1 hrg.2
  have hle := fm_le hQ hf
  have HP := Lib.hid (fun (w' : World) (M : Nat) (h1 : Q ≤ M) (h2 : M ≤ 40) => rparts_any w' K kf (M : Int) Q qf (M - qf) hK hQ hf (by omega) (by omega))
  have HE := Lib.hid (fun (M : Nat) (h1 : Q ≤ M) (h2 : M ≤ 40) (h3 : 3 ≤ M) => eighth_parts (j := M - qf) hf (by omega) h2 h3)
  have HR := Lib.hid (fun (M : Nat) (h1 : Q ≤ M) (h2 : M ≤ 40) => parts_range hf (show qf ≤ M by omega) h2)
  have hrest : rest (tv K Q) = (eighth (tv K Q) + 1) * 137438953472 - tv K Q := if_neg hp
  generalize hv : tv K Q = v at *
  obtain ⟨e, he⟩ : ∃ e, eighth v = e := ⟨_, rfl⟩
  rw [he] at HE hp hrr hrest ⊢
  rw [hrest] at h hrr
  clear hrest hf hv he hK
  go_enter Tryz.func109, Tryz.ntmps109
  go_upto_region 1 with fail
  go_cut [3] from 7 (fun p wx => ∃ M : Nat, p = .int .i64 (M : Int) ∧ Q ≤ M ∧ 3 ≤ M ∧ M ≤ 40 ∧ wx = ((w.alloc (.cells #[.int .i64 K, .int .i64 Q] 23)).alloc (.cells #[.int .i64 0, .int .i64 0, .int .i64 0] 81)))
  case first =>
    by_cases hq : Q < 3
    · go_wp2_with fail
      go_meet
      case rel => exact ⟨3, rfl, by omega, by omega, by omega, rfl⟩
    · go_wp2_with fail
      go_meet
      case rel => exact ⟨Q, rfl, by omega, by omega, hQ, rfl⟩
  case rest =>
    obtain ⟨M, rfl, h1, h3, h4, rfl⟩ := hcut
    replace HP := Lib.hid (fun w' => HP.out w' M h1 h4)
    obtain ⟨e1, e2, e3⟩ := HE.out M h1 h4 h3
    obtain ⟨p1, p2⟩ := HR.out M h1 h4
    clear HE HR
    generalize kf * 2 ^ (M - qf) = A at *
    have hO : (2 : Int) ^ (M - 3) ≤ 137438953472 := by rw [← p2_37]; exact p2_le (by omega)
    have hO1 := p2_pos (M - 3)
    have hM := p2_le h4
    rw [p2_40] at hM
    have hw0 : ((M : Int) - 3).toNat = M - 3 := by omega
    have hw1 : wrap64 ((M : Int) - 3) = ((M - 3 : Nat) : Int) := by unfold wrap64; omega
    have hw2 := two_pow_word (show M - 3 ≤ 41 by omega)
    have hd : A.tdiv (2 ^ (M - 3)) = e := by rw [Int.tdiv_eq_ediv_of_nonneg p1]; exact e1
    generalize hOg : (2 : Int) ^ (M - 3) = O at *
    have hb : 0 ≤ e * O ∧ (e + 1) * O ≤ 8 * 137438953472 := by
      refine ⟨Int.mul_nonneg hrr.1 (Int.le_of_lt hO1), ?_⟩
      have a := Int.mul_le_mul_of_nonneg_left hO (show 0 ≤ e + 1 by omega)
      have b := Int.mul_le_mul_of_nonneg_right (show e + 1 ≤ 8 by omega) (show (0 : Int) ≤ 137438953472 by omega)
      omega
    have hb2 : (e + 1) * O = e * O + O := by rw [Int.add_mul, Int.one_mul]
    have hm0 : wrap64 e = e := by unfold wrap64; omega
    have hm1 : wrap64 (e * O) = e * O := by unfold wrap64; omega
    have hm2 : wrap64 ((e + 1) * O) = (e + 1) * O := by unfold wrap64; omega
    have hm3 : wrap64 (e + 1) = e + 1 := by unfold wrap64; omega
    have hm4 : wrap64 ((e + 1) * O - A) = (e + 1) * O - A := by unfold wrap64; omega
    have htm : (e.tmod 2 == 0) = false := by rw [Int.tmod_eq_emod_of_nonneg hrr.1]; exact beq_eq_false_iff_ne.2 hp
    have HC := Lib.hid (fun w' => rform_any w' ((e + 1) * O - A) k M q (by omega) h4 (by rw [e3, Int.emod_eq_of_lt hrr.2.2.1 (by omega)]; exact h))
    clear h1 e1 e2 e3 p1 p2 hO hM hb hb2 hrr h hp hle hrg
    go_wp2_with fail
    refine (HP.out _).mono ?_
    rintro _ w1 ⟨rfl, x1⟩
    go_wp2_with (go_at_call 49; refine (HC.out _).mono ?_; rintro _ w4 ⟨rfl, x4⟩; have Z1 : Z3 w4 (w.heap.size + 1) := Z3.at (x1.trans x4) (by simp); have g0 := Z1.c0; have g1 := Z1.c1; have g2 := Z1.c2; have f0 := Z1.f 0; have f1 := Z1.f 1; have f2 := Z1.f 2)
    obtain ⟨k0, k1, k2, hD⟩ := Z1.done (((((Ext.refl w).alloc _).alloc _).trans x1).trans x4) (by omega)
    exact bodyPost_ret (by simp [results, Tryz.results109, go_sem, k0, k1, k2]) rfl ⟨rfl, hD⟩
end Go.Proofs.YtomdbmjfehoodaaGreatDoor

/- Walks of the document's answers on angles: Join, Right, Place. -/
namespace Go.Proofs.YtomdbmjfehoodaaGreatDoor
open Go.RowKit
set_option linter.unusedVariables false
/-- At g lies a part's variable. -/
structure B3 (w : World) (g : Nat) (x y z : Value) : Prop where
  c0 : w.cell? ⟨g, 0, none⟩ = some x
  c1 : w.cell? ⟨g, 1, none⟩ = some y
  c2 : w.cell? ⟨g, 2, none⟩ = some z
theorem B3.ext {w w' : World} {g : Nat} {x y z : Value} (h : B3 w g x y z) (E : Ext w w') : B3 w' g x y z := by
  have hg : g < w.heap.size := World.block_lt_of_cell? w _ h.c0
  exact ⟨(E.cell hg).trans h.c0, (E.cell hg).trans h.c1, (E.cell hg).trans h.c2⟩
theorem B3.at {w w' : World} {x y z : Value} {t : TypeId} {g : Nat} (E : Ext (w.alloc (.cells #[x, y, z] t)) w') (hg : w.heap.size = g) : B3 w' g x y z := by
  subst hg
  exact B3.ext ⟨by rw [World.cell?_alloc_new]; rfl, by rw [World.cell?_alloc_new]; rfl, by rw [World.cell?_alloc_new]; rfl⟩ E
theorem b3 {w : World} {g : Nat} {x y z : Value} (h : B3 w g x y z) : w.cell? ⟨g, 0, none⟩ = some x ∧ w.cell? ⟨g, 1, none⟩ = some y ∧ w.cell? ⟨g, 2, none⟩ = some z := ⟨h.c0, h.c1, h.c2⟩
theorem B3.off {w : World} {g g' : Nat} {x y z a b : Value} (h : B3 w g x y z) (hg : g ≠ g') : B3 ((w.setCell ⟨g', 0, none⟩ a).setCell ⟨g', 1, none⟩ b) g x y z := by
  have o : ∀ j, ((w.setCell ⟨g', 0, none⟩ a).setCell ⟨g', 1, none⟩ b).cell? ⟨g, j, none⟩ = w.cell? ⟨g, j, none⟩ := fun j => by
    rw [World.cell?_setCell_other _ _ _ _ (fun e => hg (by injection e with e; exact e.symm)), World.cell?_setCell_other _ _ _ _ (fun e => hg (by injection e with e; exact e.symm))]
  exact ⟨(o 0).trans h.c0, (o 1).trans h.c1, (o 2).trans h.c2⟩
/-- The angle of an eighth and a rest of r parts of 2^40. -/
def joinv (e r : Int) : Int := if e % 2 = 0 then (e * 137438953472 + r) % 1099511627776 else ((e + 1) * 137438953472 - r) % 1099511627776
theorem tv_three (e : Int) : tv e 3 = e * 137438953472 % 1099511627776 := rfl
theorem add_mods (a b : Int) : (a % 1099511627776 + b) % 1099511627776 = (a + b) % 1099511627776 := by omega
/-- An angle is joined of its part. -/
theorem join_split {v : Int} (h0 : 0 ≤ v) (h1 : v < 1099511627776) : joinv (eighth v) (rest v) = v := by
  unfold joinv rest
  generalize he : eighth v = e
  unfold eighth at he
  by_cases hp : e % 2 = 0
  · rw [if_pos hp, if_pos hp]; omega
  · rw [if_neg hp, if_neg hp]; omega
/-- Is an angle right? -/
def rightT (K Q : Int) : Bool := decide (0 ≤ Q) && (decide (Q ≤ 40) && (decide (-1099511627776 ≤ K) && decide (K ≤ 1099511627776)))
theorem rightT_iff {K Q : Int} : rightT K Q = true ↔ (0 ≤ Q ∧ Q ≤ 40) ∧ -1099511627776 ≤ K ∧ K ≤ 1099511627776 := by
  unfold rightT
  rw [Bool.and_eq_true, Bool.and_eq_true, Bool.and_eq_true, decide_eq_true_eq, decide_eq_true_eq, decide_eq_true_eq, decide_eq_true_eq]
  omega
set_option maxRecDepth 4000 in
set_option maxHeartbeats 1000000 in
theorem rrightT_any (w : World) (K Q : Int) (hK : -9223372036854775808 ≤ K ∧ K ≤ 9223372036854775807) (hQ : -9223372036854775808 ≤ Q ∧ Q ≤ 9223372036854775807) :
    Calls Tryz.prog 40 #[.agg #[.int .i64 K, .int .i64 Q]] w (RetE w (.bool (rightT K Q))) := by
  unfold rightT
  by_cases c0 : 0 ≤ Q
  · rw [decide_eq_true c0]
    have d0 : decide (0 ≤ Q) = true := decide_eq_true c0
    by_cases c1 : Q ≤ 40
    · rw [decide_eq_true c1]
      have d1 : decide (Q ≤ 40) = true := decide_eq_true c1
      by_cases c2 : -1099511627776 ≤ K
      · rw [decide_eq_true c2]
        have d2 : decide (-1099511627776 ≤ K) = true := decide_eq_true c2
        by_cases c3 : K ≤ 1099511627776
        · rw [decide_eq_true c3]
          have d3 : decide (K ≤ 1099511627776) = true := decide_eq_true c3
          go_enter Tryz.func40, Tryz.ntmps40
          go_wp2
          go_ret
          exact ⟨by simp, (Ext.refl w).alloc _⟩
        · rw [decide_eq_false c3]
          have d3 : decide (K ≤ 1099511627776) = false := decide_eq_false c3
          go_enter Tryz.func40, Tryz.ntmps40
          go_wp2
          go_ret
          exact ⟨by simp, (Ext.refl w).alloc _⟩
      · rw [decide_eq_false c2]
        have d2 : decide (-1099511627776 ≤ K) = false := decide_eq_false c2
        go_enter Tryz.func40, Tryz.ntmps40
        go_wp2
        go_ret
        exact ⟨by simp, (Ext.refl w).alloc _⟩
    · rw [decide_eq_false c1]
      have d1 : decide (Q ≤ 40) = false := decide_eq_false c1
      go_enter Tryz.func40, Tryz.ntmps40
      go_wp2
      go_ret
      exact ⟨by simp, (Ext.refl w).alloc _⟩
  · rw [decide_eq_false c0]
    have d0 : decide (0 ≤ Q) = false := decide_eq_false c0
    go_enter Tryz.func40, Tryz.ntmps40
    go_wp2
    go_ret
    exact ⟨by simp, (Ext.refl w).alloc _⟩
def plSwap (e : Int) : Bool := decide (e = 1 ∨ e = 2 ∨ e = 5 ∨ e = 6)
def plCos (e : Int) : Bool := decide (2 ≤ e ∧ e ≤ 5)
def plSin (e : Int) : Bool := decide (4 ≤ e ∧ e ≤ 7)
set_option maxRecDepth 4000 in
set_option maxHeartbeats 1000000 in
theorem rplace_no (w : World) (e : Int) (h : e < 0 ∨ 7 < e) :
    Calls Tryz.prog 111 #[.int .i64 e] w (RetE w (.tuple #[.bool (plSwap e), .bool (plCos e), .bool (plSin e)])) := by
  have a : plSwap e = false := decide_eq_false (by omega)
  have b : plCos e = false := decide_eq_false (by omega)
  have c : plSin e = false := decide_eq_false (by omega)
  rw [a, b, c]
  by_cases h0 : e < 0
  · go_enter Tryz.func111, Tryz.ntmps111
    go_wp2
    exact bodyPost_ret (by simp [results, Tryz.results111, go_sem]) rfl ⟨rfl, Ext.refl w⟩
  · have h7 : 7 < e := by omega
    go_enter Tryz.func111, Tryz.ntmps111
    go_wp2
    exact bodyPost_ret (by simp [results, Tryz.results111, go_sem]) rfl ⟨rfl, Ext.refl w⟩
set_option maxRecDepth 4000 in
set_option maxHeartbeats 1000000 in
theorem rplace_yes (w : World) (e : Int) (h : 0 ≤ e ∧ e ≤ 7) :
    Calls Tryz.prog 111 #[.int .i64 e] w (RetE w (.tuple #[.bool (plSwap e), .bool (plCos e), .bool (plSin e)])) := by
  obtain rfl | rfl | rfl | rfl | rfl | rfl | rfl | rfl : e = 0 ∨ e = 1 ∨ e = 2 ∨ e = 3 ∨ e = 4 ∨ e = 5 ∨ e = 6 ∨ e = 7 := by omega
  all_goals
    go_enter Tryz.func111, Tryz.ntmps111
    go_wp2
    exact bodyPost_ret (by simp [results, Tryz.results111, go_sem, plSwap, plCos, plSin]) rfl ⟨rfl, Ext.refl w⟩
theorem rplace_any (w : World) (e : Int) : Calls Tryz.prog 111 #[.int .i64 e] w (RetE w (.tuple #[.bool (plSwap e), .bool (plCos e), .bool (plSin e)])) := by
  by_cases h : 0 ≤ e ∧ e ≤ 7
  · exact rplace_yes w e h
  · exact rplace_no w e (by omega)
end Go.Proofs.YtomdbmjfehoodaaGreatDoor

