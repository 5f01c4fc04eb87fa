/- Sealed strings as strings; what Open hands back for them; the examples of the chapter. -/
import Derived.Test.YtnkaigmonkmedaaProB
import Derived.Test.YtnkaigmonkmedaaProG
namespace Go.Proofs.Ytnkaigmonkmedaa
open Go.RowKit

theorem ba_ext {a b : ByteArray} (h : a.data.toList = b.data.toList) : a = b := by
  apply ByteArray.ext
  exact Array.toList_inj.1 h
theorem ba_append (a b : ByteArray) : (a ++ b).data.toList = a.data.toList ++ b.data.toList := by simp
theorem ba_size (a : ByteArray) : a.data.toList.length = a.size := Array.length_toList
def sealS (t : ByteArray) : ByteArray := ⟨(sealC t.data.toList).toArray⟩
theorem sealS_data (t : ByteArray) : (sealS t).data.toList = sealC t.data.toList := by simp [sealS]
theorem sealS_size (t : ByteArray) : (sealS t).size = t.size + 4 := by rw [← ba_size, sealS_data, sealC_length, ba_size]
theorem seal_eq (t : ByteArray) : t ++ ⟨(le4 (sumC t.data.toList)).toArray⟩ = sealS t := by
  apply ba_ext
  rw [ba_append, sealS_data]
  rfl
theorem sealS_cut (t : ByteArray) : (sealS t).extract 0 ((sealS t).size - 4) = t := by
  apply ba_ext
  rw [Lib.extract_data, sealS_size, sealS_data, List.drop_zero, Nat.sub_zero, Nat.add_sub_cancel, sealC, ← ba_size t, List.take_left]
theorem openOut_ok (t : ByteArray) : openOut (sealS t) = .tuple #[.string t, .int .i64 0] := by
  unfold openOut
  rw [if_neg (by rw [sealS_size]; omega), sealS_cut, seal_eq, if_pos rfl]
theorem openOut_bad (s : ByteArray) (h4 : 4 ≤ s.size) (h : feed ones s.data.toList ≠ residue) : openOut s = .tuple #[.string ⟨#[]⟩, .int .i64 13] := by
  unfold openOut
  rw [if_neg (by omega), if_neg]
  intro he
  rw [seal_eq, ByteArray.toList_eq, ByteArray.toList_eq, sealS_data] at he
  rw [← he, feed_seal] at h
  exact h rfl
theorem openOut_short (s : ByteArray) (h : s.size < 4) : openOut s = .tuple #[.string ⟨#[]⟩, .int .i64 11] := if_pos h
/-- Whatever the string, Open hands back a string and a number. -/
theorem openOut_form (s : ByteArray) : ∃ (t : ByteArray) (e : Nat), openOut s = .tuple #[.string t, .int .i64 e] ∧ e < 14 ∧ t.size ≤ s.size := by
  unfold openOut
  split
  · exact ⟨⟨#[]⟩, 11, rfl, by omega, Nat.zero_le _⟩
  · split
    · exact ⟨_, 0, rfl, by omega, by simp⟩
    · exact ⟨⟨#[]⟩, 13, rfl, by omega, Nat.zero_le _⟩

theorem seal_S (s : ByteArray) (hs : s.size ≤ 100000) (w : World) :
    Calls Try.prog 21 #[.string s] w fun e w' => e = .returned (.string (sealS s)) ∧ Below w.heap.size w w' := by
  rw [← seal_eq]; exact seal_any s hs w
theorem refSeal_S (s : ByteArray) (hs : s.size ≤ 100000) (w : World) :
    Calls Try.prog 22 #[.string s] w fun e w' => e = .returned (.string (sealS s)) ∧ Below w.heap.size w w' := by
  rw [← seal_eq]; exact refSeal_any s hs w

theorem sum_ex : sumC [49, 50, 51, 52, 53, 54, 55, 56, 57] = 3808858755 := by decide +kernel
theorem seal_ex : sealS ⟨#[49, 50, 51, 52, 53, 54, 55, 56, 57]⟩ = ⟨#[49, 50, 51, 52, 53, 54, 55, 56, 57, 131, 146, 6, 227]⟩ := by
  apply ba_ext
  rw [sealS_data]
  show sealC [49, 50, 51, 52, 53, 54, 55, 56, 57] = _
  unfold sealC
  rw [sum_ex]
  rfl
theorem seal_ex0 : sealS ⟨#[]⟩ = ⟨#[0, 0, 0, 0]⟩ := by
  apply ba_ext
  rw [sealS_data]
  show sealC [] = _
  unfold sealC
  rw [sumC_nil]
  rfl
theorem open_ex (w : World) : Calls Try.prog 19 #[.string ⟨#[49, 50, 51, 52, 53, 54, 55, 56, 57, 131, 146, 6, 227]⟩] w fun e w' => e = .returned (.tuple #[.string ⟨#[49, 50, 51, 52, 53, 54, 55, 56, 57]⟩, .int .i64 0]) ∧ Below w.heap.size w w' := by
  rw [← seal_ex, ← openOut_ok]
  exact open_any _ (by rw [sealS_size]; decide) w
theorem sum_ex0 (w : World) : Calls Try.prog 12 #[.string ⟨#[]⟩] w fun e w' => e = .returned (.int .u32 0) ∧ w = w' := by
  have h := sum_any ⟨#[]⟩ w (by decide)
  rw [show (⟨#[]⟩ : ByteArray).data.toList = [] from rfl, sumC_nil] at h
  exact h
theorem sum_ex9 (w : World) : Calls Try.prog 12 #[.string ⟨#[49, 50, 51, 52, 53, 54, 55, 56, 57]⟩] w fun e w' => e = .returned (.int .u32 3808858755) ∧ w = w' := by
  have h := sum_any ⟨#[49, 50, 51, 52, 53, 54, 55, 56, 57]⟩ w (by decide)
  rw [show (⟨#[49, 50, 51, 52, 53, 54, 55, 56, 57]⟩ : ByteArray).data.toList = [49, 50, 51, 52, 53, 54, 55, 56, 57] from rfl, sum_ex] at h
  exact h
theorem seal_x0 (w : World) : Calls Try.prog 21 #[.string ⟨#[]⟩] w fun e w' => e = .returned (.string ⟨#[0, 0, 0, 0]⟩) ∧ Below w.heap.size w w' := by
  rw [← seal_ex0]; exact seal_S ⟨#[]⟩ (by decide) w
theorem comb_ex (w : World) : Calls Try.prog 17 #[.int .u32 3808858755, .int .u32 0, .int .i64 0] w fun e w' => e = .returned (.int .u32 3808858755) ∧ Below w.heap.size w w' := by
  have h := combine_any 3808858755 0 0 (by omega) (by omega) (by omega) w
  exact h

set_option maxHeartbeats 1000000 in
set_option maxRecDepth 100000 in
theorem awake_any (w : World) : Calls Try.prog 16 #[] w fun e w' => e = .returned (.bool true) ∧ Below w.heap.size w w' := by
  go_enter Try.func16, Try.ntmps16
  go_wp2_with fail
  refine (open_ex _).mono ?_
  rintro e w1 ⟨rfl, hb1⟩
  have H1 := Lib.hid hb1
  clear hb1
  go_wp2_with fail
  refine (sum_ex0 _).mono ?_
  rintro e x1 ⟨rfl, rfl⟩
  go_wp2_with fail
  refine (sum_ex9 _).mono ?_
  rintro e x2 ⟨rfl, rfl⟩
  go_wp2_with fail
  refine (seal_x0 _).mono ?_
  rintro e w2 ⟨rfl, hb2⟩
  have H2 : Hid (Below w.heap.size w w2) := H1.out.trans (hb2.mono H1.out.size)
  clear hb2 H1
  go_wp2_with fail
  refine (comb_ex _).mono ?_
  rintro e w3 ⟨rfl, hb3⟩
  have H3 : Hid (Below w.heap.size w w3) := H2.out.trans (hb3.mono H2.out.size)
  clear hb3 H2
  go_wp2
  go_ret
  exact ⟨rfl, H3.out⟩
end Go.Proofs.Ytnkaigmonkmedaa
