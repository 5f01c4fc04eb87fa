/- The contracts of Read and ReadSigned. -/
import Derived.Test.YtmeekciclfgkkaaUpTo
import Derived.Test.YtmeekciclfgkkaaGet
namespace Go.Proofs.Ytmeekciclfgkkaa
open Go.RowKit

set_option maxHeartbeats 400000 in
theorem read_any (s : ByteArray) (hs : s.size ≤ 4294967000) (w : World) :
    Calls Try.prog 33 #[.string s] w fun e W' => e = .returned (.tuple #[.int .i64 ((rd 1152921504606846976 0 0 s.data.toList).1 : Nat), .int .i64 ((rd 1152921504606846976 0 0 s.data.toList).2.1 : Nat), .int .i64 ((rd 1152921504606846976 0 0 s.data.toList).2.2 : Nat)]) ∧ Below w.heap.size w W' := by
  have hg := upTo_any s hs 1152921504606846976 w
  generalize rd 1152921504606846976 0 0 s.data.toList = r at *
  have HG := Lib.hid hg
  clear hg
  go_enter Try.func33, Try.ntmps33
  go_wp2_with fail
  refine HG.out.mono ?_
  clear HG
  rintro e' w' ⟨rfl, hb⟩
  go_wp2
  go_ret3
  exact ⟨rfl, hb⟩

set_option maxHeartbeats 400000 in
theorem readSigned_any (s : ByteArray) (hs : s.size ≤ 4294967000) (w : World) :
    Calls Try.prog 38 #[.string s] w fun e W' => e = .returned (.tuple #[.int .i64 (unfold (rd 2305843009213693952 0 0 s.data.toList).1), .int .i64 ((rd 2305843009213693952 0 0 s.data.toList).2.1 : Nat), .int .i64 ((rd 2305843009213693952 0 0 s.data.toList).2.2 : Nat)]) ∧ Below w.heap.size w W' := by
  have hle := rd_le 2305843009213693952 s.data.toList
  have hg := upTo_any s hs 2305843009213693952 w
  generalize rd 2305843009213693952 0 0 s.data.toList = r at *
  have HG := Lib.hid hg
  clear hg
  go_enter Try.func38, Try.ntmps38
  go_wp2_with fail
  refine HG.out.mono ?_
  clear HG
  rintro e' w' ⟨rfl, hb⟩
  go_wp2_with fail
  refine (unfold_any _ _ hle).mono ?_
  rintro e' w2 ⟨rfl, rfl⟩
  go_wp2
  go_ret3
  exact ⟨rfl, hb⟩
end Go.Proofs.Ytmeekciclfgkkaa
