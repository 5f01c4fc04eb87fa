/- The contracts of slices.Equal and Same: two lists of numbers compared. -/
import Derived.Test.YtejnmjaclhmelaaEnc
import Derived.Deep.QuietTactic
import Derived.BigQuiet
namespace Go.Proofs.Ytejnmjaclhmelaa
open Go.RowKit

/-- Whether two lists are equal, as a Bool that the walk doesn't open. -/
def sameB (xs ys : List Int) : Bool := decide (xs = ys)
theorem sameB_len {xs ys : List Int} (h : xs.length ≠ ys.length) : sameB xs ys = false := decide_eq_false (fun e => h (by rw [e]))
theorem sameB_at {xs ys : List Int} {k : Nat} (h : xs[k]?.getD 0 ≠ ys[k]?.getD 0) : sameB xs ys = false := decide_eq_false (fun e => h (by rw [e]))
theorem sameB_all {xs ys : List Int} (hl : xs.length = ys.length) (h : ∀ j, j < xs.length → xs[j]?.getD 0 = ys[j]?.getD 0) : sameB xs ys = true :=
  decide_eq_true (List.ext_getElem hl (fun j h1 h2 => by have := h j h1; simpa [List.getElem?_eq_getElem h1, List.getElem?_eq_getElem h2] using this))

theorem below_drewN {B : Nat} {a w : World} (h : Below B a w) (n : Nat) : Below B a (w.drewN n) := ⟨h.os, h.tape, h.output, h.size, h.block⟩

end Go.Proofs.Ytejnmjaclhmelaa
