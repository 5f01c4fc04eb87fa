/- Strings that are put together and cut; reading what was appended; HasPrefix. -/
import Derived.Test.YtihblhdiheflaaaNil
import Derived.Lib.IndexBytes
namespace Go.Proofs.Ytihblhdiheflaaa
open Go.RowKit

theorem ba_ext {a b : ByteArray} (h : a.data.toList = b.data.toList) : a = b := by
  apply ByteArray.ext
  exact Array.toList_inj.1 h
theorem ba_append (a b : ByteArray) : (a ++ b).data.toList = a.data.toList ++ b.data.toList := by simp
theorem ba_size (a : ByteArray) : a.data.toList.length = a.size := Array.length_toList
theorem extract_right (a b : ByteArray) : (a ++ b).extract a.size (a ++ b).size = b := by
  apply ba_ext
  rw [Lib.extract_to_end, ba_append, ← ba_size a, List.drop_left]
theorem extract_left (a b : ByteArray) : (a ++ b).extract 0 a.size = a := by
  apply ba_ext
  rw [Lib.extract_data, ba_append, List.drop_zero, Nat.sub_zero, ← ba_size a, List.take_left]

/-- Reading what AppendSigned has made, whatever follows. -/
theorem readSigned_back (n : Int) (rest : ByteArray) (w : World) (h1 : -1152921504606846976 ≤ n) (h2 : n ≤ 1152921504606846976) (hr : rest.size ≤ 50) :
    Calls Try.prog 19 #[.string (⟨(Lib.uvarint (fold n)).toArray⟩ ++ rest)] w fun e w' => e = .returned (.tuple #[.int .i64 n, .int .i64 ((Lib.uvarint (fold n)).length : Nat), .int .i64 0]) ∧ Below w.heap.size w w' := by
  have hf := fold_le h1 h2
  have hl := uv_len9 (m := fold n) (by omega)
  have h := readSigned_any (⟨(Lib.uvarint (fold n)).toArray⟩ ++ rest) (by rw [ByteArray.size_append, mk_size]; omega) w
  have e : (⟨(Lib.uvarint (fold n)).toArray⟩ ++ rest : ByteArray).data.toList = Lib.uvarint (fold n) ++ rest.data.toList := by rw [ba_append]
  rw [e, rd_uv _ hf (by omega)] at h
  dsimp only at h
  rw [unfold_fold] at h
  exact h
theorem read_back (n : Nat) (rest : ByteArray) (w : World) (h2 : n ≤ 1152921504606846976) (hr : rest.size ≤ 50) :
    Calls Try.prog 17 #[.string (⟨(Lib.uvarint n).toArray⟩ ++ rest)] w fun e w' => e = .returned (.tuple #[.int .i64 n, .int .i64 ((Lib.uvarint n).length : Nat), .int .i64 0]) ∧ Below w.heap.size w w' := by
  have hl := uv_len9 (m := n) (by omega)
  have h := read_any (⟨(Lib.uvarint n).toArray⟩ ++ rest) (by rw [ByteArray.size_append, mk_size]; omega) w
  have e : (⟨(Lib.uvarint n).toArray⟩ ++ rest : ByteArray).data.toList = Lib.uvarint n ++ rest.data.toList := by rw [ba_append]
  rw [e, rd_uv _ h2 (by omega)] at h
  exact h

set_option maxHeartbeats 400000 in
theorem hasPrefix38 (u p : ByteArray) (w : World) (hp : p.size ≤ u.size) (he : u.extract 0 p.size = p) :
    Calls Try.prog 38 #[.string u, .string p] w fun e w' => e = .returned (.bool true) ∧ w = w' := by
  have hb : ((u.extract 0 p.size).toList == p.toList) = true := by rw [he]; exact beq_self_eq_true _
  clear he
  go_enter Try.func38, Try.ntmps38
  go_wp2
  go_ret
  exact ⟨rfl, rfl⟩
set_option maxHeartbeats 400000 in
theorem hasPrefix_any (u p : ByteArray) (w : World) (hp : p.size ≤ u.size) (he : u.extract 0 p.size = p) :
    Calls Try.prog 26 #[.string u, .string p] w fun e w' => e = .returned (.bool true) ∧ w = w' := by
  have H := Lib.hid he
  clear he
  go_enter Try.func26, Try.ntmps26
  go_wp2_with fail
  refine (hasPrefix38 _ _ _ hp H.out).mono ?_
  rintro e w' ⟨rfl, rfl⟩
  go_wp2
  go_ret
  exact ⟨rfl, rfl⟩
theorem hasPrefix_append (a b : ByteArray) (w : World) :
    Calls Try.prog 26 #[.string (a ++ b), .string a] w fun e w' => e = .returned (.bool true) ∧ w = w' :=
  hasPrefix_any (a ++ b) a w (by rw [ByteArray.size_append]; exact Nat.le_add_right _ _) (extract_left a b)
end Go.Proofs.Ytihblhdiheflaaa
