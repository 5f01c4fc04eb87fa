/- The contracts of Append, AppendSigned, Size, put and their twins of the reference. -/
import Derived.Test.YtpinmmmbmhfmiaaLow
import Derived.RangeFuncBox
namespace Go.Proofs.Ytpinmmmbmhfmiaa
open Go.RowKit

/-- 'string(b)' of a row of bytes of the call's own. -/
theorem conv_own {B : Nat} {W : World} {v : Value} {l : List UInt8} (h : W.ownsRow B 5 1 v l.length (Lib.byteCells l)) (h1 : 1 ≤ l.length) :
    ∃ g cap, v = .slice (some ⟨g, 0, none⟩) l.length cap ∧ (convert 49 9 (.slice (some ⟨g, 0, none⟩) l.length cap)).run Try.prog W = .ok (.string ⟨l.toArray⟩) W := by
  obtain ⟨k, hk⟩ : ∃ k, l.length = k + 1 := ⟨l.length - 1, by omega⟩
  have h' := h
  rw [hk] at h'
  obtain ⟨g, cap, rfl⟩ := ownsRow_succ h'
  rw [← hk]
  refine ⟨g, cap, rfl, run_convert_bytes_back W 49 9 5 ⟨g, 0, none⟩ cap l Try.underlying49 Try.underlying5 Try.underlying9 fun j hj => ?_⟩
  rw [h'.cells rfl j (.int .u8 (l[j].toNat : Int)) (by simp [Lib.byteCells, List.getElem?_eq_getElem hj])]

set_option maxHeartbeats 400000 in
theorem append_any (s : ByteArray) (n : Nat) (w : World) (hs : s.size ≤ 4294967000) (hn : n ≤ 1152921504606846976) :
    Calls Try.prog 74 #[.string s, .int .i64 n] w fun e w' => e = .returned (.tuple #[.string (s ++ ⟨(Lib.uvarint n).toArray⟩), .int .i64 0]) ∧ Below w.heap.size w w' := by
  have hl := Lib.uvarint_pos n
  have hlen : (Lib.uvarint n).length ≤ 10 := Lib.uvarint_length64 (by omega)
  go_enter Try.func74, Try.ntmps74
  go_wp2_with fail
  refine (encodable_any _ _).mono ?_
  rintro e w' ⟨rfl, rfl⟩
  rw [decide_eq_true (by omega), decide_eq_true (by omega)]
  go_wp2_with fail
  refine (groups_any w.heap.size 0 n (by omega) (.slice none 0 0) [] w (World.ownsRow_nil _ _ _ _) (Nat.le_refl _) (by omega)).mono ?_
  rintro e w1 ⟨v', rfl, hown, hb⟩
  simp only [Nat.zero_add, List.nil_append] at hown
  obtain ⟨g, cap, rfl, hc⟩ := conv_own hown hl
  go_wp2
  go_ret2
  exact ⟨rfl, hb⟩

set_option maxHeartbeats 400000 in
theorem append_bad (s : ByteArray) (n : Int) (w : World) (hn : n < 0 ∨ 1152921504606846976 < n) :
    Calls Try.prog 74 #[.string s, .int .i64 n] w fun e w' => e = .returned (.tuple #[.string ⟨#[]⟩, .int .i64 2]) ∧ w = w' := by
  go_enter Try.func74, Try.ntmps74
  go_wp2_with fail
  refine (encodable_any _ _).mono ?_
  rintro e w' ⟨rfl, rfl⟩
  rw [show (decide (0 ≤ n) && decide (n ≤ 1152921504606846976)) = false from by simp; omega]
  clear hn
  go_wp2
  go_ret2
  exact ⟨rfl, rfl⟩

set_option maxHeartbeats 1000000 in
set_option maxRecDepth 100000 in
/-- put of the reference. -/
theorem put_any (x : Nat) (hx : x ≤ 2305843009213693952) (w : World) :
    Calls Try.prog 77 #[.int .i64 x] w fun e w' => e = .returned (.string ⟨(Lib.uvarint x).toArray⟩) ∧ Below w.heap.size w w' := by
  obtain ⟨i0, hi, hz0, hz1, hz2⟩ := info_parts Try.info5
  have hlen : (Lib.uvarint x).length ≤ 10 := Lib.uvarint_length64 (by omega)
  go_enter Try.func77, Try.ntmps77
  go_wp2
  go_loopw [3, 0] (fun vb vx wr => ∃ (y : Nat) (pre : List UInt8), vx = .int .i64 y ∧ y ≤ x ∧ Lib.uvarint x = pre ++ Lib.uvarint y ∧ wr.ownsRow w.heap.size 5 1 vb pre.length (Lib.byteCells pre) ∧ Below w.heap.size w wr)
    (fun _ vx _ => (intOf vx).toNat)
  case atStart => exact ⟨x, [], rfl, Nat.le_refl _, rfl, World.ownsRow_made w #[] 0 (Nat.le_refl _) (by unfold maxLen; omega) (by simp), (Below.refl _ _).alloc (Nat.le_refl _) _⟩
  case round =>
    obtain ⟨y, pre, rfl, hy, hsplit, hown1, hnx⟩ := hrel
    have hpl : pre.length + (Lib.uvarint y).length ≤ 10 := by
      have h2 := congrArg List.length hsplit
      rw [List.length_append] at h2
      omega
    have hyp := Lib.uvarint_pos y
    by_cases h128 : 128 ≤ y
    · go_wp2_with (at_builtin; refine wpList_append_own _ rfl _ _ 49 rfl w.heap.size 5 i0 (.int .u8 0) 1 1 Try.underlying49 hi hz0 hz1 hz2 rfl (by decide) _ _ _ rfl (hown1.alloc _) ⟨wr.heap.size, 0, none⟩ 1 1 [Value.int .u8 ((y % 128 + 128 : Nat) : Int)] rfl rfl ?c1 ?c2 ?c3 ?c4 ?c5 ?_)
      case c1 =>
        intro j u hj
        match j, hj with
        | 0, hj => simp at hj; subst hj; simp [Addr.add]
      case c2 => intro u hu; simp at hu; subst hu; rfl
      case c3 => unfold maxLen; omega
      case c4 => omega
      case c5 => have := hnx.size; simp; omega
      intro v' w1 hown' hgrow _
      have hnx1 : Below w.heap.size w w1 := (hnx.alloc (by have := hnx.size; omega) _).grown hgrow (by have := hnx.size; simp; omega) (fun k hk => (hown1.lt k hk).1)
      go_wp2
      go_roundw
      case rel =>
        refine ⟨y / 128, pre ++ [(y % 128 + 128).toUInt8], by go_num, by omega, by rw [hsplit, Lib.uvarint_big h128]; simp, ?_, hnx1⟩
        have ec : ((y % 128 + 128 : Nat) : Int) = (y : Int) % 128 + 128 := by omega
        rw [Lib.byteCells_snoc pre (by omega), List.length_append, List.length_singleton, ec]
        exact hown'
      case measure => simp [intOf]; omega
    · have hsm : Lib.uvarint y = [y.toUInt8] := Lib.uvarint_small (by omega)
      go_wp2_with (at_builtin; refine wpList_append_own _ rfl _ _ 49 rfl w.heap.size 5 i0 (.int .u8 0) 1 1 Try.underlying49 hi hz0 hz1 hz2 rfl (by decide) _ _ _ rfl (hown1.alloc _) ⟨wr.heap.size, 0, none⟩ 1 1 [Value.int .u8 (y : Int)] rfl rfl ?c1 ?c2 ?c3 ?c4 ?c5 ?_)
      case c1 =>
        intro j u hj
        match j, hj with
        | 0, hj => simp at hj; subst hj; simp [Addr.add]
      case c2 => intro u hu; simp at hu; subst hu; rfl
      case c3 => unfold maxLen; omega
      case c4 => omega
      case c5 => have := hnx.size; simp; omega
      intro v' w1 hown' hgrow _
      have hnx1 : Below w.heap.size w w1 := (hnx.alloc (by have := hnx.size; omega) _).grown hgrow (by have := hnx.size; simp; omega) (fun k hk => (hown1.lt k hk).1)
      have hown2 : w1.ownsRow w.heap.size 5 1 v' (pre ++ [y.toUInt8]).length (Lib.byteCells (pre ++ [y.toUInt8])) := by
        rw [Lib.byteCells_snoc pre (by omega), List.length_append, List.length_singleton]; exact hown'
      have H1 : Lib.uvarint x = pre ++ [y.toUInt8] := by rw [hsplit, hsm]
      rw [← H1] at hown2
      clear hsplit hsm hown' H1
      obtain ⟨g, cap, rfl, hc⟩ := conv_own hown2 (Lib.uvarint_pos x)
      go_wp2
      go_ret
      exact ⟨rfl, hnx1⟩

set_option maxHeartbeats 400000 in
theorem refAppend_any (s : ByteArray) (n : Nat) (w : World) (hs : s.size ≤ 4294967000) (hn : n ≤ 1152921504606846976) :
    Calls Try.prog 55 #[.string s, .int .i64 n] w fun e w' => e = .returned (.tuple #[.string (s ++ ⟨(Lib.uvarint n).toArray⟩), .int .i64 0]) ∧ Below w.heap.size w w' := by
  have hlen : (Lib.uvarint n).length ≤ 10 := Lib.uvarint_length64 (by omega)
  go_enter Try.func55, Try.ntmps55
  go_wp2_with fail
  refine (put_any n (by omega) _).mono ?_
  rintro e w1 ⟨rfl, hb⟩
  go_wp2
  go_ret2
  exact ⟨rfl, hb⟩

set_option maxHeartbeats 400000 in
theorem refAppend_bad (s : ByteArray) (n : Int) (w : World) (hn : n < 0 ∨ 1152921504606846976 < n) :
    Calls Try.prog 55 #[.string s, .int .i64 n] w fun e w' => e = .returned (.tuple #[.string ⟨#[]⟩, .int .i64 2]) ∧ w = w' := by
  rcases hn with hn | hn
  · go_enter Try.func55, Try.ntmps55
    go_wp2
    go_ret2
    exact ⟨rfl, rfl⟩
  · have h0 : 0 ≤ n := by omega
    go_enter Try.func55, Try.ntmps55
    go_wp2
    go_ret2
    exact ⟨rfl, rfl⟩

end Go.Proofs.Ytpinmmmbmhfmiaa
