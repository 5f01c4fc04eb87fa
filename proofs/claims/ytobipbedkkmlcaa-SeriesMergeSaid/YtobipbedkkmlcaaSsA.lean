/- Layer 11: the reference's Insert, whole. -/
import Derived.Test.YtobipbedkkmlcaaSrZ
set_option linter.unusedVariables false
set_option linter.unusedSimpArgs false
namespace Go.Proofs.Ytobipbedkkmlcaa.Sr
open Go.RowKit
theorem refInsert_any (l : List S) (hl : l.length ≤ 100000) (A : Option Addr) (c : Nat) (hcap : l.length ≤ c) (hAf : (A = none ∧ c = 0) ∨ ∃ b off, A = some ⟨b, off, none⟩) (x : S) (w : World) (hA : LS w w.heap.size A l) :
    Calls Try.prog 22 #[.slice A l.length c, smpV x] w (OwnPost2 (insO l x) w) := by
  rcases insO_cases l x with ⟨_, h⟩ | ⟨e, h1, h2, h3, h4⟩
  · exact refInsert_no l hl A c x w hA h
  · rw [e]
    rcases Nat.lt_or_ge (plc l x.1) l.length with h5 | h5
    · exact refInsert_in l h4 A c hcap x w hA h1 h2 h3 h5
    · have h6 := plc_le l x.1
      rcases hAf with ⟨rfl, rfl⟩ | ⟨b, off, rfl⟩
      · obtain rfl : l = [] := List.eq_nil_of_length_eq_zero (by omega)
        exact refInsert_nil x w h2
      · exact refInsert_end l h4 b off c hcap x w hA h1 h2 h3 (by omega)
end Go.Proofs.Ytobipbedkkmlcaa.Sr
