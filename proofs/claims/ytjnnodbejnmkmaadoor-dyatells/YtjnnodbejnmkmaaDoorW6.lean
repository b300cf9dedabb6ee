/- Walks: Shl below 0, behind. -/
import Derived.Test.YtjnnodbejnmkmaaDoorW5
import Derived.Laws.CopyOwn
namespace Go.Proofs.YtjnnodbejnmkmaaDoor
open Go.RowKit

set_option maxHeartbeats 1000000 in
theorem shl_neg (w : World) (v : Value) (m : Nat) (k : Int) (hk : k < 0) (h : N w v m) (hm : Lt 400 m) :
    Calls Tryd.prog 75 #[v, .int .i64 k] w (RetN w m) := by
  obtain ⟨a, ra, na, ea⟩ := h
  have la : a.length ≤ 400 := N.len hm na ea
  obtain ⟨A, c, rfl, h1, h2, h3⟩ := id ra
  have hmf := mkf
  have hmx : max k 0 = 0 := by omega
  have HA := Lib.hid ea
  clear ea h3
  by_cases hp : 0 < a.length
  · have hne : ((a.length : Int) == 0) = false := beq_eq_false_iff_ne.2 (by omega)
    go_enter Tryd.func75, Tryd.ntmps75
    go_wp2_with (at_make; refine wpList_mk_ints _ rfl _ rfl (a.length + 1) _ rfl (by omega) (by omega) ?_; intro w1 hmade)
    have key := shl_sums w _ w1 _ a m 0 0 (a.length + 1) rfl rfl (by omega) (by omega) na HA.out ra (two_ext ..) (two_cell0 ..) (two_cell1 ..) (two_size ..) (by rw [Nat.zero_add]; exact hmade)
    rw [Nat.zero_add, Nat.pow_zero, Nat.mul_one] at key
    refine key.mono ?_
    rintro e w2 ⟨v, ys, rfl, hlen, hrow, hlim, hval, hE⟩
    clear key
    have HT := Lib.hid (trimmed_nat w2 _ ys _ hrow hlim hval)
    have HE := Lib.hid hE
    clear hrow hlim hval hlen hmade hE ra na
    go_wp2_with fail
    refine HT.out.mono ?_
    rintro e w3 ⟨v, rfl, hN, rfl⟩
    go_wp2
    go_ret
    exact ⟨v, rfl, hN, HE.out⟩
  · have e0 : a = [] := List.eq_nil_of_length_eq_zero (by omega)
    subst e0
    have hm0 : m = 0 := by have := HA.out; simp [val] at this; omega
    subst hm0
    clear ra na HA
    go_enter Tryd.func75, Tryd.ntmps75
    go_wp2
    go_ret
    exact ⟨_, rfl, N.zero _ _ _ (by simp [maxLen]), two_ext ..⟩

end Go.Proofs.YtjnnodbejnmkmaaDoor
