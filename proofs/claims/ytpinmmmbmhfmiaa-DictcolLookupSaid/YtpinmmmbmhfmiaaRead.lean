/- The contracts of Read and ReadSigned. -/
import Derived.Test.YtpinmmmbmhfmiaaUpTo
import Derived.Test.YtpinmmmbmhfmiaaGet
namespace Go.Proofs.Ytpinmmmbmhfmiaa
open Go.RowKit

set_option maxHeartbeats 400000 in
theorem read_any (s : ByteArray) (hs : s.size ≤ 4294967000) (w : World) :
    Calls Try.prog 78 #[.string s] w fun e W' => e = .returned (.tuple #[.int .i64 ((rd 1152921504606846976 0 0 s.data.toList).1 : Nat), .int .i64 ((rd 1152921504606846976 0 0 s.data.toList).2.1 : Nat), .int .i64 ((rd 1152921504606846976 0 0 s.data.toList).2.2 : Nat)]) ∧ Below w.heap.size w W' := by
  have hg := upTo_any s hs 1152921504606846976 w
  generalize rd 1152921504606846976 0 0 s.data.toList = r at *
  have HG := Lib.hid hg
  clear hg
  go_enter Try.func78, Try.ntmps78
  go_wp2_with fail
  refine HG.out.mono ?_
  clear HG
  rintro e' w' ⟨rfl, hb⟩
  go_wp2
  go_ret3
  exact ⟨rfl, hb⟩

end Go.Proofs.Ytpinmmmbmhfmiaa
