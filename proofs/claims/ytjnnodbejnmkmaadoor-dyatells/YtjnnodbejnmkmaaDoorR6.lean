/- Walks of the document's answers: Mul. -/
import Derived.Test.YtjnnodbejnmkmaaDoorR5
namespace Go.Proofs.YtjnnodbejnmkmaaDoor
open Go.RowKit

def upd (o : Nat → Int) (p : Nat) (x : Int) : Nat → Int := fun j => if j = p then x else o j
theorem upd_eq (o : Nat → Int) (p : Nat) (x : Int) : upd o p x p = x := by simp [upd]
theorem upd_ne {o : Nat → Int} {p j : Nat} {x : Int} (h : j ≠ p) : upd o p x j = o j := by simp [upd, h]
theorem S_upd (o : Nat → Int) (p : Nat) (x : Int) : ∀ n, p < n → S (upd o p x) n = S o n + (x - o p) * bp p
  | 0, h => by omega
  | n + 1, h => by
    rw [S_succ, S_succ]
    by_cases e : p = n
    · subst e
      rw [upd_eq, S_congr (k := o) p (fun j hj => upd_ne (by omega)), Int.sub_mul]; omega
    · rw [S_upd o p x n (by omega), upd_ne (by omega)]; omega
/-- Block g begins with the ints o 0 to o (n - 1), and may be written. -/
structure Cells (w : World) (g n : Nat) (o : Nat → Int) : Prop where
  cell : ∀ j, j < n → w.cell? ⟨g, j, none⟩ = some (.int .i64 (o j))
  frozen : ∀ j, w.frozen? ⟨g, j, none⟩ = false
theorem Cells.set {w : World} {g n : Nat} {o : Nat → Int} (h : Cells w g n o) {p : Nat} (hp : p < n) (x : Int) : Cells (w.setCell ⟨g, p, none⟩ (.int .i64 x)) g n (upd o p x) :=
  ⟨fun j hj => by
    by_cases e : j = p
    · subst e; rw [upd_eq]; exact World.cell?_setCell_same _ _ _ (h.cell j hj)
    · rw [upd_ne e, World.cell?_setCell_other _ _ _ _ (by simp <;> omega)]; exact h.cell j hj,
   fun j => by rw [World.frozen?_setCell]; exact h.frozen j⟩
theorem Cells.drewN {w : World} {g n : Nat} {o : Nat → Int} (h : Cells w g n o) (q : Nat) : Cells (w.drewN q) g n o := ⟨h.cell, h.frozen⟩
theorem Cells.row {w : World} {g n : Nat} {o : Nat → Int} (h : Cells w g n o) (hg : g < w.heap.size) (hn : n ≤ 1000000) : Row w (.slice (some ⟨g, 0, none⟩) n n) ((List.range n).map o) := by
  have hl : ((List.range n).map o).length = n := by simp
  refine ⟨_, n, by rw [hl], by omega, by unfold maxLen; omega, fun _ => ⟨g, 0, rfl, hg, fun j hj => ?_⟩⟩
  rw [hl] at hj
  rw [Nat.zero_add, h.cell j hj, nth_eq (by simpa using hj)]
  simp

/-- The product's rows, i of them done; and k limbs of the next one, with what is carried. -/
def MulOut (a b : List Int) (n i : Nat) (o : Nat → Int) : Prop := (∀ j, 0 ≤ o j ∧ o j < 16777216) ∧ (∀ j, i + b.length ≤ j → o j = 0) ∧ S o n = S (nth a) i * val b
def MulIn (a b : List Int) (n i k : Nat) (c : Int) (o : Nat → Int) : Prop := (∀ j, 0 ≤ o j ∧ o j < 16777216) ∧ (∀ j, i + b.length ≤ j → o j = 0) ∧ S o n + c * bp (i + k) = S (nth a) i * val b + nth a i * S (nth b) k * bp i
theorem MulIn.step {a b : List Int} {n i k : Nat} {c : Int} {o : Nat → Int} (h : MulIn a b n i k c o) (hk : k < b.length) (hn : i + b.length < n) :
    MulIn a b n i (k + 1) ((o (i + k) + nth a i * nth b k + c) / 16777216) (upd o (i + k) ((o (i + k) + nth a i * nth b k + c) % 16777216)) := by
  obtain ⟨h1, h2, h3⟩ := h
  refine ⟨fun j => ?_, fun j hj => ?_, ?_⟩
  · by_cases e : j = i + k
    · subst e; rw [upd_eq]; omega
    · rw [upd_ne e]; exact h1 j
  · rw [upd_ne (by omega)]; exact h2 j hj
  · rw [S_upd o _ _ n (by omega), S_succ, ← Nat.add_assoc, bp_succ]
    generalize hs : o (i + k) + nth a i * nth b k + c = s
    have e1 : s / 16777216 * (16777216 * bp (i + k)) = (s - s % 16777216) * bp (i + k) := by
      rw [← Int.mul_assoc]; congr 1; omega
    have e2 : (s % 16777216 - o (i + k)) * bp (i + k) + (s - s % 16777216) * bp (i + k) = (nth a i * nth b k) * bp (i + k) + c * bp (i + k) := by
      rw [← Int.add_mul, ← Int.add_mul]; congr 1; omega
    have e3 : nth a i * (S (nth b) k + nth b k * bp k) * bp i = nth a i * S (nth b) k * bp i + nth a i * nth b k * bp (i + k) := by
      rw [Int.mul_add, Int.add_mul, bp_add, Int.mul_assoc (nth a i) (nth b k) (bp i * bp k), Int.mul_comm (bp i) (bp k), ← Int.mul_assoc (nth b k), Int.mul_assoc (nth a i) (nth b k * bp k), Int.mul_assoc (nth a i)]
    omega
theorem MulIn.done {a b : List Int} {n i : Nat} {c : Int} {o : Nat → Int} (h : MulIn a b n i b.length c o) (hc : 0 ≤ c ∧ c < 16777216) (hn : i + b.length < n) : MulOut a b n (i + 1) (upd o (i + b.length) c) := by
  obtain ⟨h1, h2, h3⟩ := h
  refine ⟨fun j => ?_, fun j hj => ?_, ?_⟩
  · by_cases e : j = i + b.length
    · subst e; rw [upd_eq]; exact hc
    · rw [upd_ne e]; exact h1 j
  · rw [upd_ne (by omega)]; exact h2 j (by omega)
  · rw [S_upd o _ _ n hn, h2 _ (Nat.le_refl _), S_succ, Int.add_mul]
    rw [val_S_ge (Nat.le_refl _)] at h3
    have e : nth a i * bp i * val b = nth a i * val b * bp i := by rw [Int.mul_assoc, Int.mul_comm (bp i), ← Int.mul_assoc]
    rw [e, Int.sub_zero]; omega
theorem MulOut.start {a b : List Int} {n i : Nat} {o : Nat → Int} (h : MulOut a b n i o) : MulIn a b n i 0 0 o := ⟨h.1, h.2.1, by rw [h.2.2]; simp [S]⟩

set_option maxHeartbeats 1000000 in
theorem rmul_any (w : World) (va vb : Value) (m n : Nat) (ha : N w va m) (hb : N w vb n) (hm : Lt 400 m) (hn : Lt 400 n) : Calls Tryd.prog 48 #[va, vb] w (RetN w (m * n)) := by
  obtain ⟨a, ra, na, ea⟩ := ha
  obtain ⟨b, rb, nb, eb⟩ := hb
  have la : a.length ≤ 400 := N.len hm na ea
  have lb : b.length ≤ 400 := N.len hn nb eb
  obtain ⟨A, c, rfl, h1, h2, h3⟩ := id ra
  obtain ⟨A', c', rfl, h1', h2', h3'⟩ := id rb
  have H3 := Lib.hid h3
  have H3' := Lib.hid h3'
  have NA := Lib.hid na
  have NB := Lib.hid nb
  have EA := Lib.hid ea
  have EB := Lib.hid eb
  clear h3 h3' na nb ea eb ra rb
  go_enter Tryd.func48, Tryd.ntmps48
  go_wp2_with (at_make; refine wpList_mk_ints _ rfl _ rfl (a.length + b.length) _ rfl (by omega) (by omega) ?_; intro w1 hmade)
  obtain ⟨L, hL⟩ : ∃ L, L = a.length + b.length := ⟨_, rfl⟩
  have hC : Cells w1 w.heap.size L (fun _ => 0) := ⟨fun j hj => hmade.cell j (by omega), hmade.frozen⟩
  have hO : MulOut a b L 0 (fun _ => 0) := ⟨fun j => by show 0 ≤ (0 : Int) ∧ (0 : Int) < 16777216; omega, fun _ _ => rfl, by rw [S_zero]; simp [S]⟩
  have E1 := hmade.ext
  have hsz1 : w.heap.size < w1.heap.size := by rw [hmade.size]; omega
  rw [← hL]
  have hL8 : L ≤ 800 := by omega
  have HL := Lib.hid hL
  clear hmade hL
  go_loopw [6] (fun iv wr => ∃ (i : Nat) (o : Nat → Int), i ≤ a.length ∧ iv = .int .i64 i ∧ Cells wr w.heap.size L o ∧ MulOut a b L i o ∧ Ext w wr ∧ w.heap.size < wr.heap.size) (fun iv _ => a.length - (intOf iv).toNat)
  case atStart => exact ⟨0, fun _ => 0, Nat.zero_le _, rfl, hC, hO, E1, hsz1⟩
  case round =>
    clear hC hO E1 hsz1
    obtain ⟨i, o, hi, rfl, hC, hO, he, hsz⟩ := hrel
    by_cases hlt : i < a.length
    · go_wp2
      go_loopw [7, 8] (fun cv kv wk => ∃ (k : Nat) (cy : Int) (o : Nat → Int), k ≤ b.length ∧ kv = .int .i64 k ∧ cv = .int .i64 cy ∧ 0 ≤ cy ∧ cy < 16777216 ∧ Cells wk w.heap.size L o ∧ MulIn a b L i k cy o ∧ Ext w wk ∧ w.heap.size < wk.heap.size) (fun _ kv _ => b.length - (intOf kv).toNat)
      case atStart => exact ⟨0, 0, o, Nat.zero_le _, rfl, rfl, by omega, by omega, hC, hO.start, he, hsz⟩
      case round =>
        clear hC hO he hsz
        obtain ⟨k, cy, o, hk, rfl, rfl, c0, c1, hC, hI, he, hsz⟩ := hrel
        by_cases hkl : k < b.length
        · obtain ⟨b1, off1, rfl, hb1, hc1⟩ := H3.out (by omega)
          obtain ⟨b2, off2, rfl, hb2, hc2⟩ := H3'.out (by omega)
          have hcell1 := (he.cell (p := ⟨b1, off1 + i, none⟩) hb1).trans (hc1 i hlt)
          have hcell2 := (he.cell (p := ⟨b2, off2 + k, none⟩) hb2).trans (hc2 k hkl)
          have hcell3 := hC.cell (i + k) (by have := HL.out; omega)
          have hfr := hC.frozen (i + k)
          obtain ⟨x0, x1⟩ := NA.out.1.at i
          obtain ⟨y0, y1⟩ := NB.out.1.at k
          obtain ⟨z0, z1⟩ := hI.1 (i + k)
          have p0 : 0 ≤ nth a i * nth b k := Int.mul_nonneg x0 y0
          have p1 : nth a i * nth b k ≤ 281474943156225 := by
            have : nth a i * nth b k ≤ 16777215 * 16777215 := Int.mul_le_mul (by omega) (by omega) y0 (by omega)
            omega
          have hst := hI.step hkl (by have := HL.out; omega)
          have HST := Lib.hid hst
          have hik : (i : Int) + (k : Int) < (L : Int) := by have := HL.out; omega
          have hik0 : (0 : Int) ≤ (i : Int) + (k : Int) := by omega
          have hi0 : (0 : Int) ≤ (i : Int) := by omega
          have hk0 : (0 : Int) ≤ (k : Int) := by omega
          have hil : (i : Int) < (a.length : Int) := by omega
          have hkl' : (k : Int) < (b.length : Int) := by omega
          have hcy : (o (i + k) + nth a i * nth b k + cy) / 16777216 < 16777216 := by omega
          have hcy0 : 0 ≤ (o (i + k) + nth a i * nth b k + cy) / 16777216 := by omega
          clear hc1 hc2 H3 H3' hst
          go_wp2
          go_quiet (fail)
          go_wp2
          go_roundw
          case rel => exact ⟨k + 1, _, _, by omega, by go_num, rfl, hcy0, hcy, (hC.drewN _).set (by have := HL.out; omega) _, HST.out, (he.drewN _).setCell (Nat.le_refl _) _, by simpa using hsz⟩
          case measure => simp [intOf]; omega
        · obtain rfl : k = b.length := by omega
          have hik : (i : Int) + (b.length : Int) < (L : Int) := by have := HL.out; omega
          have hik0 : (0 : Int) ≤ (i : Int) + (b.length : Int) := by omega
          have hcell3 := hC.cell (i + b.length) (by omega)
          have hfr := hC.frozen (i + b.length)
          have HD := Lib.hid (hI.done ⟨c0, c1⟩ (by omega))
          go_wp2
          go_roundw
          case rel => exact ⟨i + 1, _, by omega, by go_num, hC.set (by omega) _, HD.out, he.setCell (Nat.le_refl _) _, by simpa using hsz⟩
          case measure => simp [intOf]; omega
    · obtain rfl : i = a.length := by omega
      have hS : ∀ j, j < L → nth ((List.range L).map o) j = o j := fun j hj => by rw [nth_eq (by simpa using hj)]; simp
      have hlimb : Limbs ((List.range L).map o) := fun j hj => by
        rw [hS j (by simpa using hj)]; exact hO.1 j
      have hval : val ((List.range L).map o) = ((m * n : Nat) : Int) := by
        rw [val_S, List.length_map, List.length_range, S_congr L hS, hO.2.2, ← val_S, EA.out, EB.out]; push_cast; rfl
      have HN := Lib.hid (rtrim_nat wr _ _ (m * n) (hC.row hsz (by omega)) hlimb hval (by simp; omega))
      clear hS hlimb hval
      go_wp2_with (go_at_call 64; refine HN.out.mono ?_; rintro e w' ⟨v', rfl, hN, hE⟩)
      go_ret
      exact ⟨_, rfl, hN, he.trans hE⟩

end Go.Proofs.YtjnnodbejnmkmaaDoor
