/- Layer 9: the reader: its next number, its count, its runs. -/
import Derived.Test.YtmeekciclfgkkaaDcF
import Derived.Test.YtmeekciclfgkkaaRead
set_option linter.unusedVariables false
set_option linter.unusedSimpArgs false
namespace Go.Proofs.Ytmeekciclfgkkaa.Dc
open Go.RowKit
/-- What is still to be read. -/
def Rest (W : World) (r : Nat) (s : List UInt8) : Prop := Boxed W r 42 (.string ⟨s.toArray⟩)
theorem Rest.kept {W W' : World} {r : Nat} {s : List UInt8} {row : Option Nat} (h : Rest W r s) (hg : W.grownBy W' row) (hne : some r ≠ row) : Rest W' r s := Boxed.kept h hg hne
theorem Rest.below {W W' : World} {r : Nat} {s : List UInt8} (h : Rest W r s) (hb : Below W.heap.size W W') : Rest W' r s := boxed_below h hb
theorem mk_size (l : List UInt8) : (⟨l.toArray⟩ : ByteArray).size = l.length := by show l.toArray.size = _; simp
theorem cut_rest (a b : List UInt8) : (⟨(a ++ b).toArray⟩ : ByteArray).extract a.length (⟨(a ++ b).toArray⟩ : ByteArray).size = ⟨b.toArray⟩ := by
  apply of_list
  rw [drop_ext]
  simp
set_option maxHeartbeats 2000000 in
theorem next_signed (x : Int) (rest : List UInt8) (r : Nat) (w : World) (h1 : -1152921504606846976 ≤ x) (h2 : x ≤ 1152921504606846976) (hl : (sB x ++ rest).length ≤ 4294967000) (hR : Rest w r (sB x ++ rest)) :
    Calls Try.prog 32 #[.pointer (some ⟨r, 0, none⟩), .func (.func 38) #[] #[]] w fun e w' => e = .returned (.tuple #[.int .i64 x, .int .i64 0]) ∧ Rest w' r rest ∧ w.grownBy w' (some r) := by
  have HA := Lib.hid (readSigned_any ⟨(sB x ++ rest).toArray⟩ (by rw [mk_size]; exact hl) w)
  have hf := fold_le h1 h2
  have hrd : rd 2305843009213693952 0 0 (sB x ++ rest) = (fold x, (sB x).length, 0) := rd_uv rest hf (by omega)
  have e0 : (⟨(sB x ++ rest).toArray⟩ : ByteArray).data.toList = sB x ++ rest := by simp
  rw [e0, hrd] at HA
  dsimp only at HA
  rw [unfold_fold] at HA
  have hcut := cut_rest (sB x) rest
  have hle : (sB x).length ≤ (⟨(sB x ++ rest).toArray⟩ : ByteArray).size := by rw [mk_size, List.length_append]; omega
  have HR : Hid (Boxed w r 42 (.string ⟨(sB x ++ rest).toArray⟩)) := hR
  clear hrd e0 hf hR hl
  generalize (⟨(sB x ++ rest).toArray⟩ : ByteArray) = t at *
  generalize (sB x).length = k at *
  have HC := Lib.hid hcut
  have hcell := HR.out.cell
  clear hcut
  go_enter Try.func32, Try.ntmps32
  go_wp2_with fail
  refine HA.out.mono ?_
  rintro e w1 ⟨rfl, hb1⟩
  have k1 := boxed_below HR.out hb1
  have G1 := Lib.hid (below_grown hb1 (some r))
  have hc1 := k1.cell
  have hf1 := k1.frozen
  have K1 := Lib.hid k1
  clear hb1 k1 hcell HA
  go_wp2
  go_ret2
  refine ⟨rfl, ?_, G1.out.trans (grownBy_setCell' _ _ _)⟩
  unfold Rest
  rw [← HC.out]
  exact K1.out.set _
set_option maxHeartbeats 2000000 in
theorem next_plain (n : Nat) (rest : List UInt8) (r : Nat) (w : World) (h2 : n ≤ 1152921504606846976) (hl : (Lib.uvarint n ++ rest).length ≤ 4294967000) (hR : Rest w r (Lib.uvarint n ++ rest)) :
    Calls Try.prog 32 #[.pointer (some ⟨r, 0, none⟩), .func (.func 33) #[] #[]] w fun e w' => e = .returned (.tuple #[.int .i64 n, .int .i64 0]) ∧ Rest w' r rest ∧ w.grownBy w' (some r) := by
  have HA := Lib.hid (read_any ⟨(Lib.uvarint n ++ rest).toArray⟩ (by rw [mk_size]; exact hl) w)
  have hrd : rd 1152921504606846976 0 0 (Lib.uvarint n ++ rest) = (n, (Lib.uvarint n).length, 0) := rd_uv rest h2 (by omega)
  have e0 : (⟨(Lib.uvarint n ++ rest).toArray⟩ : ByteArray).data.toList = Lib.uvarint n ++ rest := by simp
  rw [e0, hrd] at HA
  dsimp only at HA
  have hcut := cut_rest (Lib.uvarint n) rest
  have hle : (Lib.uvarint n).length ≤ (⟨(Lib.uvarint n ++ rest).toArray⟩ : ByteArray).size := by rw [mk_size, List.length_append]; omega
  have HR : Hid (Boxed w r 42 (.string ⟨(Lib.uvarint n ++ rest).toArray⟩)) := hR
  clear hrd e0 hR hl
  generalize (⟨(Lib.uvarint n ++ rest).toArray⟩ : ByteArray) = t at *
  generalize (Lib.uvarint n).length = k at *
  have HC := Lib.hid hcut
  have hcell := HR.out.cell
  clear hcut
  go_enter Try.func32, Try.ntmps32
  go_wp2_with fail
  refine HA.out.mono ?_
  rintro e w1 ⟨rfl, hb1⟩
  have k1 := boxed_below HR.out hb1
  have G1 := Lib.hid (below_grown hb1 (some r))
  have hc1 := k1.cell
  have hf1 := k1.frozen
  have K1 := Lib.hid k1
  clear hb1 k1 hcell HA
  go_wp2
  go_ret2
  refine ⟨rfl, ?_, G1.out.trans (grownBy_setCell' _ _ _)⟩
  unfold Rest
  rw [← HC.out]
  exact K1.out.set _
set_option maxHeartbeats 2000000 in
theorem count_any (n : Nat) (rest : List UInt8) (r : Nat) (w : World) (h2 : n ≤ 20000) (hl : (Lib.uvarint n ++ rest).length ≤ 4294967000) (hR : Rest w r (Lib.uvarint n ++ rest)) :
    Calls Try.prog 21 #[.pointer (some ⟨r, 0, none⟩)] w fun e w' => e = .returned (.tuple #[.int .i64 n, .int .i64 0]) ∧ Rest w' r rest ∧ w.grownBy w' (some r) := by
  have HA := Lib.hid (next_plain n rest r w (by omega) hl hR)
  clear hl hR
  go_enter Try.func21, Try.ntmps21
  go_wp2_with fail
  refine HA.out.mono ?_
  rintro e w1 ⟨rfl, hr1, hg1⟩
  have R1 := Lib.hid hr1
  have G1 := Lib.hid hg1
  clear hr1 hg1 HA
  go_wp2
  go_ret2
  exact ⟨rfl, R1.out, G1.out⟩
/-- A reader of its own. -/
theorem rest_new (w : World) (s : List UInt8) : Rest (w.alloc (.cells #[.string ⟨s.toArray⟩] 42)) w.heap.size s := Boxed.new w _ _
theorem new_below {w w1 w2 : World} (h : Below w.heap.size w w1) (hg : w1.grownBy w2 (some w.heap.size)) : Below w.heap.size w w2 := h.grown hg h.size (fun k e => by cases e; exact Nat.le_refl _)
set_option maxHeartbeats 2000000 in
theorem gCount_any (n : Nat) (rest : List UInt8) (w : World) (h2 : n ≤ 20000) (hl : (Lib.uvarint n ++ rest).length ≤ 4294967000) :
    Calls Try.prog 9 #[.string ⟨(Lib.uvarint n ++ rest).toArray⟩] w fun e w' => e = .returned (.tuple #[.int .i64 n, .int .i64 0]) ∧ Below w.heap.size w w' := by
  have HA := Lib.hid (count_any n rest w.heap.size _ h2 hl (rest_new w _))
  have B0 : Hid (Below w.heap.size w (w.alloc (.cells #[.string ⟨(Lib.uvarint n ++ rest).toArray⟩] 42))) := (Below.refl _ _).alloc (Nat.le_refl _) _
  generalize (⟨(Lib.uvarint n ++ rest).toArray⟩ : ByteArray) = t at *
  clear hl
  go_enter Try.func9, Try.ntmps9
  go_wp2_with fail
  refine HA.out.mono ?_
  rintro e w1 ⟨rfl, hr1, hg1⟩
  have B1 := Lib.hid (new_below B0.out hg1)
  clear hr1 hg1 HA
  go_wp2
  go_ret2
  exact ⟨rfl, B1.out⟩
end Go.Proofs.Ytmeekciclfgkkaa.Dc
