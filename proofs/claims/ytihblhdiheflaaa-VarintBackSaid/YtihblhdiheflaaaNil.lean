/- Appending to the empty string. -/
import Derived.Test.YtihblhdiheflaaaAwake
namespace Go.Proofs.Ytihblhdiheflaaa
open Go.RowKit

theorem mk_size (l : List UInt8) : (⟨l.toArray⟩ : ByteArray).size = l.length := by
  show l.toArray.size = _
  simp
theorem nil_mk (l : List UInt8) : (⟨#[]⟩ : ByteArray) ++ ⟨l.toArray⟩ = ⟨l.toArray⟩ := mk_append [] l
theorem signed_nil (n : Int) (w : World) (h1 : -1152921504606846976 ≤ n) (h2 : n ≤ 1152921504606846976) :
    Calls Try.prog 13 #[.string ⟨#[]⟩, .int .i64 n] w fun e w' => e = .returned (.tuple #[.string ⟨(Lib.uvarint (fold n)).toArray⟩, .int .i64 0]) ∧ Below w.heap.size w w' := by
  have h := signed_any ⟨#[]⟩ n w (by decide) h1 h2
  rw [nil_mk] at h
  exact h
theorem append_nil (n : Nat) (w : World) (h2 : n ≤ 1152921504606846976) :
    Calls Try.prog 11 #[.string ⟨#[]⟩, .int .i64 n] w fun e w' => e = .returned (.tuple #[.string ⟨(Lib.uvarint n).toArray⟩, .int .i64 0]) ∧ Below w.heap.size w w' := by
  have h := append_any ⟨#[]⟩ n w (by decide) h2
  rw [nil_mk] at h
  exact h
end Go.Proofs.Ytihblhdiheflaaa
