/- The walk of the law VarintPrefixes. -/
import Derived.Test.YtihblhdiheflaaaContains
import Derived.Test.YtihblhdiheflaaaLists
import Derived.Test.YtihblhdiheflaaaBackMath
namespace Go.Proofs.Ytihblhdiheflaaa
open Go.RowKit

/-- Decode, of a list's encoding. -/
theorem decode_enc (zs : List Int) (hl : zs.length ≤ 50) (h : ∀ z ∈ zs, inR z) (w : World) :
    Calls Try.prog 23 #[.string ⟨(enc zs).toArray⟩] w fun e w' => ∃ v, e = .returned (.tuple #[v, .int .i64 0]) ∧ IntsAt w'.heap.size w' v zs ∧ Below w.heap.size w w' := by
  have h1 := enc_len zs hl h
  refine (decode_any ⟨(enc zs).toArray⟩ (by rw [mk_size]; omega) w).mono ?_
  rintro e w' ⟨v, rfl, hown, hb⟩
  have hd : dec (⟨(enc zs).toArray⟩ : ByteArray).data.toList = (zs, 0) := dec_enc zs (by omega) h
  rw [hd] at hown ⊢
  exact ⟨v, rfl, intsAt_own hown (Nat.le_refl _), hb⟩
/-- Decode, of what is cut off. -/
theorem decode_cut (zs : List Int) (hl : zs.length ≤ 50) (h : ∀ z ∈ zs, inR z) (j : Nat) (hj : j < (enc zs).length) (w : World) :
    Calls Try.prog 23 #[.string ((⟨(enc zs).toArray⟩ : ByteArray).extract 0 j)] w fun e w' => ∃ a cap, e = .returned (.tuple #[.slice a 0 cap, .int .i64 11]) ∧ Below w.heap.size w w' := by
  have h1 := enc_len zs hl h
  have e0 : ((⟨(enc zs).toArray⟩ : ByteArray).extract 0 j).data.toList = (enc zs).take j := by rw [Lib.extract_data, List.drop_zero, Nat.sub_zero]
  refine (decode_any ((⟨(enc zs).toArray⟩ : ByteArray).extract 0 j) (by rw [← ba_size, e0, List.length_take]; omega) w).mono ?_
  rintro e w' ⟨v, rfl, hown, hb⟩
  have hd : dec ((⟨(enc zs).toArray⟩ : ByteArray).extract 0 j).data.toList = ([], 11) := by rw [e0]; exact dec_cut zs (by omega) h j hj
  rw [hd] at hown ⊢
  obtain ⟨a, cap, rfl, _⟩ := intsAt_own (zs := []) hown (Nat.le_refl _)
  exact ⟨a, cap, rfl, hb⟩

set_option maxHeartbeats 2000000 in
set_option maxRecDepth 100000 in
theorem prefixes_walk (a : Option Addr) (len cap : Nat) (zs : List Int) (at' : Nat) (w : World) (hlm : len ≤ maxLen) (hzl : zs.length = len) (hI : IntsAt w.heap.size w (.slice a len cap) zs) (hat : at' < 65536) :
    Calls Try.prog 9 #[.slice a len cap, .int .u16 at'] w fun e w' => e = .returned (.bool true) ∧ Below w.heap.size w w' := by
  unfold maxLen at hlm
  subst hzl
  have HI := Lib.hid hI
  clear hI
  by_cases h50 : 50 < zs.length
  · go_enter Try.func9, Try.ntmps9
    go_wp2_with fail
    refine (awake_any _).mono ?_
    rintro e w1 ⟨rfl, hb⟩
    go_wp2
    go_ret
    exact ⟨rfl, hb⟩
  · have hl2 : zs.length ≤ 50 := by omega
    by_cases hz : ∀ z ∈ zs, inR z
    · have q1 : ∀ sv w, IntsAt w.heap.size w sv zs → Calls Try.prog 21 #[sv] w fun e w' => e = .returned (.tuple #[.string ⟨(enc zs).toArray⟩, .int .i64 0]) ∧ Below w.heap.size w w' := fun sv w h => by
        rw [← encOut_ok hz]; exact encode_any zs (by omega) sv w h
      have q2 := fun w => decode_enc zs hl2 hz w
      have q3 := fun j hj w => decode_cut zs hl2 hz j hj w
      have hs1 := enc_len zs hl2 hz
      have hs2 : 1 ≤ (enc zs).length := by
        have := Lib.uvarint_pos zs.length
        unfold enc; rw [List.length_append]; omega
      have hsz := mk_size (enc zs)
      rw [← hsz] at hs1 hs2 q3
      clear hsz hz
      generalize (⟨(enc zs).toArray⟩ : ByteArray) = t at *
      have q4 := fun w => q3 (at' % t.size) (Nat.mod_lt _ (by omega)) w
      have hj : at' % t.size < t.size := Nat.mod_lt _ (by omega)
      have hne1 : t.toList.isEmpty = false := by
        rw [List.isEmpty_eq_false_iff]
        intro e
        have := congrArg List.length e
        rw [Lib.toList_data, ba_size, List.length_nil] at this
        omega
      have Q1 := Lib.hid q1
      have Q2 := Lib.hid q2
      have Q4 := Lib.hid q4
      clear q1 q2 q3 q4
      go_enter Try.func9, Try.ntmps9
      go_wp2_with fail
      refine (Q1.out _ _ HI.out).mono ?_
      rintro e w1 ⟨rfl, hb1⟩
      have H1 := Lib.hid hb1
      have I1 := Lib.hid ((HI.out.below hb1).mono hb1.size)
      clear hb1
      go_wp2_with fail
      refine (Q2.out _).mono ?_
      rintro e w2 ⟨v2, rfl, hI2, hb2⟩
      have H2 := Lib.hid (H1.out.trans (hb2.mono H1.out.size))
      have I2 := Lib.hid ((I1.out.below hb2).mono hb2.size)
      have J2 := Lib.hid hI2
      clear hb2 hI2
      go_wp2_with fail
      refine (Q4.out _).mono ?_
      rintro e w3 ⟨a3, cap3, rfl, hb3⟩
      have H3 := Lib.hid (H2.out.trans (hb3.mono H2.out.size))
      have I3 := Lib.hid ((I2.out.below hb3).mono hb3.size)
      have J3 := Lib.hid ((J2.out.below hb3).mono hb3.size)
      clear hb3
      go_wp2_with fail
      refine (equal_any _ zs zs (by omega) _ _ _ (Nat.le_refl _) I3.out J3.out).mono ?_
      rintro e w4 ⟨rfl, hb4⟩
      have H4 := Lib.hid (H3.out.trans (hb4.mono H3.out.size))
      clear hb4
      have hsb : sameB zs zs = true := decide_eq_true rfl
      rw [hsb]
      go_wp2_with fail
      refine (awake_any _).mono ?_
      rintro e w5 ⟨rfl, hb5⟩
      have H5 := Lib.hid (H4.out.trans (hb5.mono H4.out.size))
      clear hb5
      go_wp2
      go_ret
      exact ⟨rfl, H5.out⟩
    · have q1 : ∀ sv w, IntsAt w.heap.size w sv zs → Calls Try.prog 21 #[sv] w fun e w' => e = .returned (.tuple #[.string ⟨#[]⟩, .int .i64 2]) ∧ Below w.heap.size w w' := fun sv w h => by
        rw [← encOut_bad hz]; exact encode_any zs (by omega) sv w h
      have q2 := fun sv w h => contains_any zs hl2 hz sv w h
      have Q1 := Lib.hid q1
      have Q2 := Lib.hid q2
      clear q1 q2 hz
      go_enter Try.func9, Try.ntmps9
      go_wp2_with fail
      refine (Q1.out _ _ HI.out).mono ?_
      rintro e w1 ⟨rfl, hb1⟩
      have H1 := Lib.hid hb1
      have I1 := Lib.hid ((HI.out.below hb1).mono hb1.size)
      clear hb1
      go_wp2_with fail
      refine (Q2.out _ _ I1.out).mono ?_
      rintro e w2 ⟨rfl, rfl⟩
      go_wp2_with fail
      refine (awake_any _).mono ?_
      rintro e w5 ⟨rfl, hb5⟩
      have H5 := Lib.hid (H1.out.trans (hb5.mono H1.out.size))
      clear hb5
      go_wp2
      go_ret
      exact ⟨rfl, H5.out⟩
end Go.Proofs.Ytihblhdiheflaaa
