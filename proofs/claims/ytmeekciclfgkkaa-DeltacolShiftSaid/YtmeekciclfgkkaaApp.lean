/- The contracts of Append, AppendSigned, Size, put and their twins of the reference. -/
import Derived.Test.YtmeekciclfgkkaaLow
import Derived.RangeFuncBox
namespace Go.Proofs.Ytmeekciclfgkkaa
open Go.RowKit

/-- 'string(b)' of a row of bytes of the call's own. -/
theorem conv_own {B : Nat} {W : World} {v : Value} {l : List UInt8} (h : W.ownsRow B 5 1 v l.length (Lib.byteCells l)) (h1 : 1 ≤ l.length) :
    ∃ g cap, v = .slice (some ⟨g, 0, none⟩) l.length cap ∧ (convert 47 9 (.slice (some ⟨g, 0, none⟩) l.length cap)).run Try.prog W = .ok (.string ⟨l.toArray⟩) W := by
  obtain ⟨k, hk⟩ : ∃ k, l.length = k + 1 := ⟨l.length - 1, by omega⟩
  have h' := h
  rw [hk] at h'
  obtain ⟨g, cap, rfl⟩ := ownsRow_succ h'
  rw [← hk]
  refine ⟨g, cap, rfl, run_convert_bytes_back W 47 9 5 ⟨g, 0, none⟩ cap l Try.underlying47 Try.underlying5 Try.underlying9 fun j hj => ?_⟩
  rw [h'.cells rfl j (.int .u8 (l[j].toNat : Int)) (by simp [Lib.byteCells, List.getElem?_eq_getElem hj])]

set_option maxHeartbeats 400000 in
theorem append_any (s : ByteArray) (n : Nat) (w : World) (hs : s.size ≤ 4294967000) (hn : n ≤ 1152921504606846976) :
    Calls Try.prog 15 #[.string s, .int .i64 n] w fun e w' => e = .returned (.tuple #[.string (s ++ ⟨(Lib.uvarint n).toArray⟩), .int .i64 0]) ∧ Below w.heap.size w w' := by
  have hl := Lib.uvarint_pos n
  have hlen : (Lib.uvarint n).length ≤ 10 := Lib.uvarint_length64 (by omega)
  go_enter Try.func15, Try.ntmps15
  go_wp2_with fail
  refine (encodable_any _ _).mono ?_
  rintro e w' ⟨rfl, rfl⟩
  rw [decide_eq_true (by omega), decide_eq_true (by omega)]
  go_wp2_with fail
  refine (groups_any w.heap.size 0 n (by omega) (.slice none 0 0) [] w (World.ownsRow_nil _ _ _ _) (Nat.le_refl _) (by omega)).mono ?_
  rintro e w1 ⟨v', rfl, hown, hb⟩
  simp only [Nat.zero_add, List.nil_append] at hown
  obtain ⟨g, cap, rfl, hc⟩ := conv_own hown hl
  go_wp2
  go_ret2
  exact ⟨rfl, hb⟩

set_option maxHeartbeats 400000 in
theorem append_bad (s : ByteArray) (n : Int) (w : World) (hn : n < 0 ∨ 1152921504606846976 < n) :
    Calls Try.prog 15 #[.string s, .int .i64 n] w fun e w' => e = .returned (.tuple #[.string ⟨#[]⟩, .int .i64 2]) ∧ w = w' := by
  go_enter Try.func15, Try.ntmps15
  go_wp2_with fail
  refine (encodable_any _ _).mono ?_
  rintro e w' ⟨rfl, rfl⟩
  rw [show (decide (0 ≤ n) && decide (n ≤ 1152921504606846976)) = false from by simp; omega]
  clear hn
  go_wp2
  go_ret2
  exact ⟨rfl, rfl⟩

set_option maxHeartbeats 400000 in
theorem signed_any (s : ByteArray) (n : Int) (w : World) (hs : s.size ≤ 4294967000) (h1 : -1152921504606846976 ≤ n) (h2 : n ≤ 1152921504606846976) :
    Calls Try.prog 13 #[.string s, .int .i64 n] w fun e w' => e = .returned (.tuple #[.string (s ++ ⟨(Lib.uvarint (fold n)).toArray⟩), .int .i64 0]) ∧ Below w.heap.size w w' := by
  have hf := fold_le h1 h2
  have hl := Lib.uvarint_pos (fold n)
  have hlen : (Lib.uvarint (fold n)).length ≤ 10 := Lib.uvarint_length64 (by omega)
  go_enter Try.func13, Try.ntmps13
  go_wp2_with fail
  refine (signedEncodable_any _ _).mono ?_
  rintro e w' ⟨rfl, rfl⟩
  rw [decide_eq_true h1, decide_eq_true h2]
  go_wp2_with fail
  refine (fold_any n _ h1 h2).mono ?_
  rintro e w' ⟨rfl, rfl⟩
  go_wp2_with fail
  refine (groups_any w.heap.size 0 (fold n) hf (.slice none 0 0) [] w (World.ownsRow_nil _ _ _ _) (Nat.le_refl _) (by omega)).mono ?_
  rintro e w1 ⟨v', rfl, hown, hb⟩
  simp only [Nat.zero_add, List.nil_append] at hown
  obtain ⟨g, cap, rfl, hc⟩ := conv_own hown hl
  go_wp2
  go_ret2
  exact ⟨rfl, hb⟩

set_option maxHeartbeats 400000 in
theorem signed_bad (s : ByteArray) (n : Int) (w : World) (hn : n < -1152921504606846976 ∨ 1152921504606846976 < n) :
    Calls Try.prog 13 #[.string s, .int .i64 n] w fun e w' => e = .returned (.tuple #[.string ⟨#[]⟩, .int .i64 2]) ∧ w = w' := by
  go_enter Try.func13, Try.ntmps13
  go_wp2_with fail
  refine (signedEncodable_any _ _).mono ?_
  rintro e w' ⟨rfl, rfl⟩
  rw [show (decide (-1152921504606846976 ≤ n) && decide (n ≤ 1152921504606846976)) = false from by simp; omega]
  clear hn
  go_wp2
  go_ret2
  exact ⟨rfl, rfl⟩

end Go.Proofs.Ytmeekciclfgkkaa
