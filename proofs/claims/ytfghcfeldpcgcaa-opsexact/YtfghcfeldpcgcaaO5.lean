/- Rows of doubles; package ops: Sum. -/
import Derived.Test.YtfghcfeldpcgcaaO4
namespace Go.Proofs.Ytfghcfeldpcgcaa
open Go.RowKit
set_option linter.unusedVariables false

/-- The element at a place of a row of doubles (not opened by the walk). -/
def nthF (xs : List Nat) (n : Nat) : Nat := xs.getD n 0
theorem nthF_eq {xs : List Nat} {n : Nat} (h : n < xs.length) : nthF xs n = xs[n] := by
  unfold nthF; rw [List.getD_eq_getElem?_getD, List.getElem?_eq_getElem h]; rfl
/-- The slice value v reads as the doubles xs in w. -/
def RowF (w : World) (v : Value) (xs : List Nat) : Prop :=
  ∃ A c, v = .slice A xs.length c ∧ xs.length ≤ c ∧ c ≤ maxLen ∧
    (0 < xs.length → ∃ b off, A = some ⟨b, off, none⟩ ∧ b < w.heap.size ∧ ∀ j, j < xs.length → w.cell? ⟨b, off + j, none⟩ = some (.float .f64 (nthF xs j)))
theorem RowF.ext {w w' : World} {v : Value} {xs : List Nat} (h : RowF w v xs) (k : Ext w w') : RowF w' v xs := by
  obtain ⟨A, c, rfl, h1, h2, h3⟩ := h
  refine ⟨A, c, rfl, h1, h2, fun hl => ?_⟩
  obtain ⟨b, off, rfl, hb, hc⟩ := h3 hl
  exact ⟨b, off, rfl, Nat.lt_of_lt_of_le hb k.size, fun j hj => (k.cell (p := ⟨b, off + j, none⟩) hb).trans (hc j hj)⟩
/-- c is what the first k doubles of xs come to, summed one by one from s on. -/
inductive Chain (xs : List Nat) (s : Nat) : Nat → Nat → Prop
  | nil : Chain xs s 0 s
  | more {k c d : Nat} : Chain xs s k c → AddS c (nthF xs k) d → Chain xs s (k + 1) d
theorem Chain.uniq {xs ys : List Nat} {s : Nat} : ∀ {k c d : Nat}, (∀ j, j < k → nthF xs j = nthF ys j) → Chain xs s k c → Chain ys s k d → Al c d
  | 0, _, _, _, .nil, .nil => Al.refl _
  | k + 1, _, _, h, .more h1 h2, .more k1 k2 => by
    have h3 := Chain.uniq (fun j hj => h j (by omega)) h1 k1
    have h4 := h2.move h3 (Al.refl _)
    rw [h k (by omega)] at h4
    exact h4.uniq k2
theorem callAddF : ∀ (x : Array Value) (W : World), (callFunc 11 x).run Try.prog W = .ok (.enter 11 x) W := fun _ _ => by kernel_rfl

set_option maxHeartbeats 400000 in
theorem fold_any (w : World) (v : Value) (xs : List Nat) (s : Nat) (hs : s < 18446744073709551616) (h : RowF w v xs) : Calls Try.prog 48 #[.func (.func 11) #[] #[], .float .f64 s, v] w (RetW w (Chain xs s xs.length)) := by
  obtain ⟨A, c, rfl, h1, h2, h3⟩ := h
  unfold maxLen at h2
  have hcall := callAddF
  have HR : Hid (∀ j, j < xs.length → ∀ wr : World, Ext w wr → ∃ b off, A = some ⟨b, off, none⟩ ∧ wr.cell? ⟨b, off + j, none⟩ = some (.float .f64 (nthF xs j))) := Lib.hid (fun j hj wr hE => by
    obtain ⟨b, off, rfl, hb, hc⟩ := h3 (by omega)
    exact ⟨b, off, rfl, (hE.cell (p := ⟨b, off + j, none⟩) hb).trans (hc j hj)⟩)
  clear h3
  go_enter Try.func48, Try.ntmps48
  go_wp2
  go_loopw [1, 11] (fun t i wr => ∃ k s' : Nat, k ≤ xs.length ∧ i = .int .i64 k ∧ t = .float .f64 s' ∧ s' < 18446744073709551616 ∧ Chain xs s k s' ∧ Ext w wr) (fun _ i _ => xs.length - (intOf i).toNat)
  case atStart => exact ⟨0, s, Nat.zero_le _, rfl, rfl, hs, .nil, Ext.refl _⟩
  case round =>
    obtain ⟨k, s', hk, rfl, rfl, hs', hC, hE⟩ := hrel
    by_cases hlt : k < xs.length
    · obtain ⟨b, off, rfl, hc⟩ := HR.out k hlt wr hE
      have HC := Lib.hid hC
      have HS := Lib.hid hs'
      clear hC hs hs'
      go_wp2_with fail
      refine (addp_any _ s' (nthF xs k)).mono ?_
      rintro _ w1 ⟨d, rfl, hd, hA, e1⟩
      go_wp2
      go_roundw
      case rel => exact ⟨k + 1, d, by omega, by go_num, rfl, hd, HC.out.more hA, hE.trans e1⟩
      case measure => simp [intOf] <;> omega
    · obtain rfl : k = xs.length := by omega
      have HC := Lib.hid hC
      clear hC
      go_wp2
      go_ret
      exact ⟨s', rfl, hs', HC.out, hE⟩
theorem sump_any (w : World) (v : Value) (xs : List Nat) (h : RowF w v xs) : Calls Try.prog 29 #[v] w (RetW w (Chain xs 0 xs.length)) := by
  have HF := Lib.hid (fun w' (hE : Ext w w') => fold_any w' v xs 0 (by omega) (h.ext hE))
  have hmf : ∀ (fn : Fn) (first cap : Array Value) (w : World), (Instr.makeFunc fn first cap).run Try.prog w = .ok (.func fn first cap) w := fun _ _ _ _ => rfl
  clear h
  go_enter Try.func29, Try.ntmps29
  go_wp2_with fail
  refine (HF.out _ (Ext.refl _)).mono ?_
  rintro _ w1 ⟨c, rfl, hc, hC, e1⟩
  go_wp2
  go_ret
  exact ⟨c, rfl, hc, hC, e1⟩

end Go.Proofs.Ytfghcfeldpcgcaa
