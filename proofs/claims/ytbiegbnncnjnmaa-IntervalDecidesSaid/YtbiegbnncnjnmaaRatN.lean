/- The contracts of the reference of layer 3: Make. -/
import Derived.Test.YtbiegbnncnjnmaaRatM
set_option linter.unusedVariables false
set_option linter.unusedSimpArgs false
namespace Go.Proofs.Ytbiegbnncnjnmaa.Rat
open Go.RowKit

/-- What Make hands back for a denominator that is not 0. -/
def makeOut (n d : Int) : Value := pairOut (n.sign * d.sign * (n.natAbs / Nat.gcd n.natAbs d.natAbs : Nat)) (d.natAbs / Nat.gcd n.natAbs d.natAbs : Nat)
theorem pairOut_yes {a b : Int} (h1 : a.natAbs ≤ 1152921504606846976) (h2 : b.natAbs ≤ 1152921504606846976) : pairOut a b = .tuple #[.agg #[.int .i64 a, .int .i64 b], .int .i64 0] := if_pos ⟨h1, h2⟩
theorem pairOut_no {a b : Int} (h : ¬ (a.natAbs ≤ 1152921504606846976 ∧ b.natAbs ≤ 1152921504606846976)) : pairOut a b = .tuple #[.agg #[.int .i64 0, .int .i64 0], .int .i64 14] := if_neg h


end Go.Proofs.Ytbiegbnncnjnmaa.Rat
