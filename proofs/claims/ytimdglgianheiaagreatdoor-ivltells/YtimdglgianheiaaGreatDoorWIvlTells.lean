/- The walk of IvlTells. -/
import Derived.Test.YtimdglgianheiaaGreatDoorWTa
import Derived.Test.YtimdglgianheiaaGreatDoorWTb
import Derived.Test.YtimdglgianheiaaGreatDoorWTc
namespace Go.Proofs.YtimdglgianheiaaGreatDoor
open Go.RowKit
set_option linter.unusedVariables false
theorem walk_IvlTells (w : World) (T : Tb w) (nbz : Bool) (Mz : Value) (xz : List Int) (iz : Int) (rowz : Row w Mz xz) (bdz : -9223372036854775808 ≤ iz ∧ iz ≤ 9223372036854775807) (nbz' : Bool) (Mz' : Value) (xz' : List Int) (iz' : Int) (rowz' : Row w Mz' xz') (bdz' : -9223372036854775808 ≤ iz' ∧ iz' ≤ 9223372036854775807) (nba : Bool) (Ma : Value) (xa : List Int) (ia : Int) (rowa : Row w Ma xa) (bda : -9223372036854775808 ≤ ia ∧ ia ≤ 9223372036854775807) (nba' : Bool) (Ma' : Value) (xa' : List Int) (ia' : Int) (rowa' : Row w Ma' xa') (bda' : -9223372036854775808 ≤ ia' ∧ ia' ≤ 9223372036854775807) (nbb : Bool) (Mb : Value) (xb : List Int) (ib : Int) (rowb : Row w Mb xb) (bdb : -9223372036854775808 ≤ ib ∧ ib ≤ 9223372036854775807) (nbb' : Bool) (Mb' : Value) (xb' : List Int) (ib' : Int) (rowb' : Row w Mb' xb') (bdb' : -9223372036854775808 ≤ ib' ∧ ib' ≤ 9223372036854775807) (nbe : Bool) (Me : Value) (xe : List Int) (ie : Int) (rowe : Row w Me xe) (bde : -9223372036854775808 ≤ ie ∧ ie ≤ 9223372036854775807) (n : Int) (bn : 0 ≤ n ∧ n ≤ 255) (k : Int) (bk : -9223372036854775808 ≤ k ∧ k ≤ 9223372036854775807) : Calls Tryz.prog 3 #[.agg #[.bool nbz, Mz, .int .i64 iz, .bool nbz', Mz', .int .i64 iz'], .agg #[.bool nba, Ma, .int .i64 ia, .bool nba', Ma', .int .i64 ia'], .agg #[.bool nbb, Mb, .int .i64 ib, .bool nbb', Mb', .int .i64 ib'], .agg #[.bool nbe, Me, .int .i64 ie], .int .u8 n, .int .i64 k] w (RetE w (.bool true)) := by
  by_cases g0 : (70 : Int) < (xz.length : Int)
  · exact tells_z0 w T nbz Mz xz iz rowz bdz nbz' Mz' xz' iz' rowz' bdz' nba Ma xa ia rowa bda nba' Ma' xa' ia' rowa' bda' nbb Mb xb ib rowb bdb nbb' Mb' xb' ib' rowb' bdb' nbe Me xe ie rowe bde n bn k bk g0
  by_cases g1 : (70 : Int) < (xz'.length : Int)
  · exact tells_z1 w T nbz Mz xz iz rowz bdz nbz' Mz' xz' iz' rowz' bdz' nba Ma xa ia rowa bda nba' Ma' xa' ia' rowa' bda' nbb Mb xb ib rowb bdb nbb' Mb' xb' ib' rowb' bdb' nbe Me xe ie rowe bde n bn k bk g0 g1
  by_cases g2 : (7000 : Int) < iz
  · exact tells_z2 w T nbz Mz xz iz rowz bdz nbz' Mz' xz' iz' rowz' bdz' nba Ma xa ia rowa bda nba' Ma' xa' ia' rowa' bda' nbb Mb xb ib rowb bdb nbb' Mb' xb' ib' rowb' bdb' nbe Me xe ie rowe bde n bn k bk g0 g1 g2
  by_cases g3 : iz < (-7000 : Int)
  · exact tells_z3 w T nbz Mz xz iz rowz bdz nbz' Mz' xz' iz' rowz' bdz' nba Ma xa ia rowa bda nba' Ma' xa' ia' rowa' bda' nbb Mb xb ib rowb bdb nbb' Mb' xb' ib' rowb' bdb' nbe Me xe ie rowe bde n bn k bk g0 g1 g2 g3
  by_cases g4 : (7000 : Int) < iz'
  · exact tells_z4 w T nbz Mz xz iz rowz bdz nbz' Mz' xz' iz' rowz' bdz' nba Ma xa ia rowa bda nba' Ma' xa' ia' rowa' bda' nbb Mb xb ib rowb bdb nbb' Mb' xb' ib' rowb' bdb' nbe Me xe ie rowe bde n bn k bk g0 g1 g2 g3 g4
  by_cases g5 : iz' < (-7000 : Int)
  · exact tells_z5 w T nbz Mz xz iz rowz bdz nbz' Mz' xz' iz' rowz' bdz' nba Ma xa ia rowa bda nba' Ma' xa' ia' rowa' bda' nbb Mb xb ib rowb bdb nbb' Mb' xb' ib' rowb' bdb' nbe Me xe ie rowe bde n bn k bk g0 g1 g2 g3 g4 g5
  cases hg : goodIs 2 (pk nba nbb nbb) (pk xa xb xb) (pk ia ib ib) (pk nba' nbb' nbb') (pk xa' xb' xb') (pk ia' ib' ib')
  · exact tells_ab w T nbz Mz xz iz rowz bdz nbz' Mz' xz' iz' rowz' bdz' nba Ma xa ia rowa bda nba' Ma' xa' ia' rowa' bda' nbb Mb xb ib rowb bdb nbb' Mb' xb' ib' rowb' bdb' nbe Me xe ie rowe bde n bn k bk g0 g1 g2 g3 g4 g5 hg
  cases hd : goodAll 1 (pk nbe nbe nbe) (pk xe xe xe) (pk ie ie ie)
  · exact tells_d w T nbz Mz xz iz rowz bdz nbz' Mz' xz' iz' rowz' bdz' nba Ma xa ia rowa bda nba' Ma' xa' ia' rowa' bda' nbb Mb xb ib rowb bdb nbb' Mb' xb' ib' rowb' bdb' nbe Me xe ie rowe bde n bn k bk g0 g1 g2 g3 g4 g5 hg hd
  by_cases h1 : k < -500
  · exact tells_low w T nbz Mz xz iz rowz bdz nbz' Mz' xz' iz' rowz' bdz' nba Ma xa ia rowa bda nba' Ma' xa' ia' rowa' bda' nbb Mb xb ib rowb bdb nbb' Mb' xb' ib' rowb' bdb' nbe Me xe ie rowe bde n bn k bk g0 g1 g2 g3 g4 g5 hg hd h1
  by_cases h2 : 500 < k
  · exact tells_high w T nbz Mz xz iz rowz bdz nbz' Mz' xz' iz' rowz' bdz' nba Ma xa ia rowa bda nba' Ma' xa' ia' rowa' bda' nbb Mb xb ib rowb bdb nbb' Mb' xb' ib' rowb' bdb' nbe Me xe ie rowe bde n bn k bk g0 g1 g2 g3 g4 g5 hg hd h1 h2
  have hall := pk6_all (goodIs_true hg)
  obtain ⟨la, ha, na, oa, rla, rha⟩ := good_ivl rowa rowa' (hall.1 (by omega))
  obtain ⟨lb, hb, nb, ob, rlb, rhb⟩ := good_ivl rowb rowb' (hall.2.1 (by omega))
  obtain ⟨z1, nd, _, _, _, _, rd⟩ := good_num rowe ((pk_all (goodAll_true hd)).1 (by omega))
  obtain ⟨c, hcc⟩ : ∃ c : Nat, n % 60 + 1 = (c : Int) := ⟨(n % 60 + 1).toNat, by omega⟩
  by_cases za : 0 ≤ la
  · exact tells_yes w T nbz Mz xz iz rowz bdz nbz' Mz' xz' iz' rowz' bdz' nba Ma xa ia rowa bda nba' Ma' xa' ia' rowa' bda' nbb Mb xb ib rowb bdb nbb' Mb' xb' ib' rowb' bdb' nbe Me xe ie rowe bde n bn k bk g0 g1 g2 g3 g4 g5 hg hd h1 h2 la ha na oa rla rha lb hb nb ob rlb rhb _ nd rd c hcc (by omega) (by omega) za
  · exact tells_neg w T nbz Mz xz iz rowz bdz nbz' Mz' xz' iz' rowz' bdz' nba Ma xa ia rowa bda nba' Ma' xa' ia' rowa' bda' nbb Mb xb ib rowb bdb nbb' Mb' xb' ib' rowb' bdb' nbe Me xe ie rowe bde n bn k bk g0 g1 g2 g3 g4 g5 hg hd h1 h2 la ha na oa rla rha lb hb nb ob rlb rhb _ nd rd c hcc (by omega) (by omega) (by grind)
end Go.Proofs.YtimdglgianheiaaGreatDoor
