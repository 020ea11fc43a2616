/-
  Two stamps held against each other. No condition.
-/
import Derived.Test.YtmkclkppolfpnaaDoorStAfterW
namespace Go.Proofs.YtmkclkppolfpnaaDoor
open Go.RowKit
theorem eqR (an ad ac bn bd bc : Int) (w : World) : (binOp BinOp.eql 25 (.agg #[.int .i64 an, .int .i64 ad, .int .i64 ac]) (.agg #[.int .i64 bn, .int .i64 bd, .int .i64 bc])).run Tryd.prog w = .ok (.bool (decide (an = bn ∧ ad = bd ∧ ac = bc))) w := by
  by_cases h1 : an = bn
  · by_cases h2 : ad = bd
    · by_cases h3 : ac = bc
      · subst h1 h2 h3
        go_simp
      · subst h1 h2
        go_simp
    · subst h1
      go_simp
  · go_simp
end Go.Proofs.YtmkclkppolfpnaaDoor
