/- The frame of a row's proof: doubles, and rows of doubles, that came in are opened; they read behind the call as before it. -/
import Derived.Test.YtfghcfeldpcgcaaFr
import Derived.Test.YtfghcfeldpcgcaaO5
import Derived.Laws.Cover2
import Derived.Deep.Slices
namespace Go.Proofs.Ytfghcfeldpcgcaa
open Go.ChangeShapes Go.WideShapes Go.ChangeAt Go.RowKit

theorem float_lt {b : Nat} (h : (Lit.float .f64 b).wf = true) : b < 18446744073709551616 := by
  simpa [Lit.wf] using h
theorem float_cell {H : Type} {enc : TypeId × Value → H} {P : Program} {W : World} {base n : Nat} {spare : Nat → Bool} {held : Bool} {e : TypeId} {v : Value} {x : DataW H × List MemPlace} (he : P.underlying e = some (.float .f64))
    (h : DataW.trod enc P W base spare held n e [v] = some x) : ∃ b, v = .float .f64 b := by
  cases n with
  | zero => simp [DataW.trod] at h
  | succ n =>
    simp only [DataW.trod, he] at h
    cases v <;> simp at h
    rename_i k b
    cases k <;> simp at h
    exact ⟨b, rfl⟩
theorem row_inF {H : Type} {enc : TypeId × Value → H} {W : World} {base : Nat} {v : Value} {d : DataW H} {ps : List MemPlace}
    (hok : Value.okWide Try.prog W .any base 42 v) (h : DataW.Trod enc Try.prog W 0 (fun _ => true) true 42 v d ps) : ∃ xs, RowF W v xs := by
  obtain ⟨a, len, cap, rfl⟩ := okWide_slice Try.underlying42 hok
  obtain ⟨fuel, hf⟩ := h
  rcases Deep.open_slice1 Try.underlying42 (by kernel_rfl) hf with ⟨hcs, _⟩ | ⟨x, l, c, m, n, V, D, Pl, hcs, _, hl, hm, hmm, _, hcell⟩
  · simp [Value.cells] at hcs
    obtain ⟨rfl, rfl, rfl⟩ := hcs
    exact ⟨[], none, 0, rfl, Nat.le_refl _, by simp [maxLen], fun h => by simp at h⟩
  · simp [Value.cells] at hcs
    obtain ⟨rfl, rfl, rfl⟩ := hcs
    simp only [if_true] at hmm
    subst hmm
    have hex : ∀ i, ∃ b, i < m → V i = .float .f64 b := fun i => by
      by_cases hi : i < m
      · obtain ⟨b, hb⟩ := float_cell Try.underlying22 (hcell i hi).2
        exact ⟨b, fun _ => hb⟩
      · exact ⟨0, fun k => absurd k hi⟩
    obtain ⟨f, hf2⟩ := Classical.axiomOfChoice hex
    have hlen : ((List.range len).map f).length = len := by simp
    refine ⟨(List.range len).map f, _, m, by rw [hlen], by omega, hm, fun hp => ?_⟩
    obtain ⟨b, off, spot⟩ := x
    have h0 := (hcell 0 (by omega)).1
    have hspot : spot = none := by simpa [Addr.add] using World.cell?_spot h0
    subst hspot
    have h0' := World.block_lt_of_cell? W _ h0
    refine ⟨b, off, rfl, by simpa [Addr.add] using h0', fun j hj => ?_⟩
    rw [hlen] at hj
    have := (hcell j (by omega)).1
    rw [Addr.add_lit, hf2 j (by omega)] at this
    rw [this, nthF_eq (by rw [hlen]; exact hj)]
    simp
theorem row_backF {H : Type} {enc : TypeId × Value → H} {W W' : World} {v : Value} {d : DataW H} {ps : List MemPlace}
    (h : DataW.Trod enc Try.prog W 0 (fun _ => true) true 42 v d ps) (bel : Ext W W') : DataW.Trod enc Try.prog W' 0 (fun b => decide (b < W.heap.size)) true 42 v d ps :=
  Below.trod laidOut (by kernel_rfl) (of_decide_eq_true (by kernel_rfl)) h bel (by obtain ⟨m, hm⟩ := h; exact DataW.trod_lt m _ _ _ hm)

end Go.Proofs.Ytfghcfeldpcgcaa
