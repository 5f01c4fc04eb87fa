/- Layer 8: walks of the laws PostingsEncode, PostingsDecode, PostingsMerge, PostingsSets. -/
import Derived.Test.YtejnmjaclhmelaaPM
set_option linter.unusedVariables false
set_option linter.unusedSimpArgs false
namespace Go.Proofs.Ytejnmjaclhmelaa.Po
open Go.RowKit
theorem IntsL.one {w : World} {sx : Value} {xs : List Int} (hX : Ints w.heap.size w sx xs) : IntsL (w.alloc (.cells #[sx] 22)).heap.size (w.alloc (.cells #[sx] 22)) (.slice (some ⟨w.heap.size, 0, none⟩) 1 1) [xs] := by
  have B0 : Below w.heap.size w (w.alloc (.cells #[sx] 22)) := (Below.refl _ _).alloc (Nat.le_refl _) _
  refine ⟨_, 1, rfl, fun _ => sx, fun _ => ⟨_, 0, rfl, by simp, fun j hj => ?_⟩, fun j hj => ?_⟩
  · match j, hj with
    | 0, _ => go_simp
  · match j, hj with
    | 0, _ => exact (hX.below B0).mono (by simp)
theorem IntsL.two {w : World} {sx sy : Value} {xs ys : List Int} (hX : Ints w.heap.size w sx xs) (hY : Ints w.heap.size w sy ys) : IntsL (w.alloc (.cells #[sx, sy] 22)).heap.size (w.alloc (.cells #[sx, sy] 22)) (.slice (some ⟨w.heap.size, 0, none⟩) 2 2) [xs, ys] := by
  have B0 : Below w.heap.size w (w.alloc (.cells #[sx, sy] 22)) := (Below.refl _ _).alloc (Nat.le_refl _) _
  refine ⟨_, 2, rfl, fun j => if j = 0 then sx else sy, fun _ => ⟨_, 0, rfl, by simp, fun j hj => ?_⟩, fun j hj => ?_⟩
  · match j, hj with
    | 0, _ => go_simp
    | 1, _ => go_simp
  · match j, hj with
    | 0, _ => exact (hX.below B0).mono (by simp)
    | 1, _ => exact (hY.below B0).mono (by simp)
theorem decO_len (s : List UInt8) : (decO s).1.length ≤ s.length := by
  unfold decO
  cases h : decP s with
  | none => simp
  | some l =>
    obtain ⟨_, h2, _⟩ := decP_inv h
    have := encP_len l
    rw [h2] at this
    show l.length ≤ s.length
    omega
set_option maxHeartbeats 4000000 in
set_option maxRecDepth 100000 in
theorem encode_walk (zs : List Int) (sv : Value) (w : World) (hl0 : zs.length ≤ maxLen) (hI : Ints w.heap.size w sv zs) :
    Calls Try.prog 5 #[sv] w fun e w' => e = .returned (.bool true) ∧ Below w.heap.size w w' := by
  have CG := Lib.hid (great_any [zs] (by unfold maxLen; simp) _ _ (IntsL.one hI))
  have B0 : Hid (Below w.heap.size w (w.alloc (.cells #[sv] 22))) := Lib.hid ((Below.refl _ _).alloc (Nat.le_refl _) _)
  have CA := Lib.hid awake_any
  cases hg : greatB [zs] with
  | true =>
    rw [hg] at CG
    clear hg
    obtain ⟨a, cap, rfl, _⟩ := hI
    go_enter Try.func5, Try.ntmps5
    go_wp2_with (first
      | (go_at_call 12; (with_reducible refine CG.out.mono ?_); rintro e w1 ⟨rfl, rfl⟩)
      | (go_at_call 13; (with_reducible refine (CA.out _).mono ?_); rintro e w2 ⟨rfl, hb2⟩; have B2 := Lib.hid (B0.out.trans (hb2.mono B0.out.size)); clear hb2))
    go_ret
    exact ⟨rfl, B2.out⟩
  | false =>
    have hl : zs.length ≤ 1000000 := by have := (great_no hg).2 zs (by simp); omega
    have C1 : Hid (∀ v, Below w.heap.size w v → Calls Try.prog 27 #[sv] v (EncPost v (encO zs))) := Lib.hid fun v hb => gEncode_any zs hl sv v ((hI.below hb).mono hb.size)
    have C2 : Hid (∀ v, Below w.heap.size w v → Calls Try.prog 28 #[sv] v (EncPost v (encO zs))) := Lib.hid fun v hb => pEncode_any zs hl sv v ((hI.below hb).mono hb.size)
    generalize encO zs = r at *
    obtain ⟨t, er⟩ := r
    obtain ⟨a, cap, rfl, _⟩ := hI
    rw [hg] at CG
    clear hg
    go_enter Try.func5, Try.ntmps5
    go_wp2_with (first
      | (go_at_call 12; (with_reducible refine CG.out.mono ?_); rintro e w1 ⟨rfl, rfl⟩)
      | (go_at_call 27; (with_reducible refine (C1.out _ B0.out).mono ?_); rintro e w2 ⟨rfl, hb2⟩; have B2 := Lib.hid (B0.out.trans (hb2.mono B0.out.size)); clear hb2)
      | (go_at_call 28; (with_reducible refine (C2.out _ B2.out).mono ?_); rintro e w3 ⟨rfl, hb3⟩; have B3 := Lib.hid (B2.out.trans (hb3.mono B2.out.size)); clear hb3)
      | (go_at_call 13; (with_reducible refine (CA.out _).mono ?_); rintro e w4 ⟨rfl, hb4⟩; have B4 := Lib.hid (B3.out.trans (hb4.mono B3.out.size)); clear hb4))
    go_ret
    exact ⟨rfl, B4.out⟩
set_option maxHeartbeats 4000000 in
set_option maxRecDepth 100000 in
theorem decode_walk (s : ByteArray) (w : World) (hs : s.size ≤ maxLen) :
    Calls Try.prog 6 #[.string s] w fun e w' => e = .returned (.bool true) ∧ Below w.heap.size w w' := by
  unfold maxLen at hs
  have CA := Lib.hid awake_any
  by_cases h3 : 300 < s.size
  · go_enter Try.func6, Try.ntmps6
    go_wp2_with (go_at_call 13; (with_reducible refine (CA.out _).mono ?_); rintro e w2 ⟨rfl, hb2⟩; have B2 := Lib.hid hb2; clear hb2)
    go_ret
    exact ⟨rfl, B2.out⟩
  · have C1 : Hid (∀ v, Calls Try.prog 29 #[.string s] v (DecOut v (decO s.data.toList))) := Lib.hid fun v => gDecode_any s (by omega) v
    have C2 : Hid (∀ v, Calls Try.prog 30 #[.string s] v (DecOut v (decO s.data.toList))) := Lib.hid fun v => pDecode_any s (by omega) v
    have hlen := decO_len s.data.toList
    have hsl : s.data.toList.length = s.size := Array.length_toList
    rw [hsl] at hlen
    generalize decO s.data.toList = r at *
    obtain ⟨l, er⟩ := r
    dsimp only at hlen
    have CS : Hid (∀ v sx sy, Ints v.heap.size v sx l → Ints v.heap.size v sy l → Calls Try.prog 16 #[sx, sy] v fun e w' => e = .returned (.bool true) ∧ Below v.heap.size v w') := Lib.hid fun v sx sy h1 h2 => same_yes l l rfl (by omega) sx sy v h1 h2
    clear hsl
    go_enter Try.func6, Try.ntmps6
    go_wp2_with (first
      | (go_at_call 29; (with_reducible refine (C1.out _).mono ?_); rintro e w2 ⟨v2, rfl, h2, hb2⟩; have B2 := Lib.hid hb2; have I2 := Lib.hid h2; clear hb2 h2)
      | (go_at_call 30; (with_reducible refine (C2.out _).mono ?_); rintro e w3 ⟨v3, rfl, h3', hb3⟩; have B3 := Lib.hid (B2.out.trans (hb3.mono B2.out.size)); have I3 := Lib.hid h3'; have J3 := Lib.hid ((I2.out.below hb3).mono hb3.size); clear hb3 h3')
      | (go_at_call 16; (with_reducible refine (CS.out _ _ _ J3.out I3.out).mono ?_); rintro e w4 ⟨rfl, hb4⟩; have B4 := Lib.hid (B3.out.trans (hb4.mono B3.out.size)); clear hb4)
      | (go_at_call 13; (with_reducible refine (CA.out _).mono ?_); rintro e w5 ⟨rfl, hb5⟩; have B5 := Lib.hid (B4.out.trans (hb5.mono B4.out.size)); clear hb5))
    go_ret
    exact ⟨rfl, B5.out⟩
set_option maxHeartbeats 4000000 in
set_option maxRecDepth 100000 in
theorem merge_walk (ls : List (List Int)) (sv : Value) (w : World) (hl0 : ls.length ≤ maxLen) (hM : IntsM w.heap.size w sv ls) :
    Calls Try.prog 4 #[sv] w fun e w' => e = .returned (.bool true) ∧ Below w.heap.size w w' := by
  have hI := hM.2
  have CG := Lib.hid (great_any ls hl0 _ _ hI)
  have CA := Lib.hid awake_any
  have B0 := Lib.hid (Below.refl w.heap.size w)
  cases hg : greatB ls with
  | true =>
    rw [hg] at CG
    clear hg
    obtain ⟨a, cap, rfl, _⟩ := hI
    go_enter Try.func4, Try.ntmps4
    go_wp2_with (first
      | (go_at_call 12; (with_reducible refine CG.out.mono ?_); rintro e w1 ⟨rfl, rfl⟩)
      | (go_at_call 13; (with_reducible refine (CA.out _).mono ?_); rintro e w2 ⟨rfl, hb2⟩; have B2 := Lib.hid hb2; clear hb2))
    go_ret
    exact ⟨rfl, B2.out⟩
  | false =>
    have ht := great_tot hg
    have hl : ls.length ≤ 1000000 := by have := (great_no hg).1; omega
    have hm : (mrgO ls).length ≤ 320 := by
      unfold mrgO
      split
      · have := mrg_len ls []
        unfold mrgL
        simp only [List.length_nil] at this
        omega
      · simp
    rw [hg] at CG
    have C1 : Hid (∀ v, Below w.heap.size w v → Calls Try.prog 25 #[sv] v (IntsOut v (mrgO ls))) := Lib.hid fun v hb => gMerge_any ls hl (by omega) sv v (hM.onto hb)
    have C2 : Hid (∀ v, Below w.heap.size w v → Calls Try.prog 26 #[sv] v (IntsOut v (mrgO ls))) := Lib.hid fun v hb => pMerge_any ls hl (by omega) sv v (hI.onto hb)
    generalize mrgO ls = l at *
    have CS : Hid (∀ v sx sy, Ints v.heap.size v sx l → Ints v.heap.size v sy l → Calls Try.prog 16 #[sx, sy] v fun e w' => e = .returned (.bool true) ∧ Below v.heap.size v w') := Lib.hid fun v sx sy h1 h2 => same_yes l l rfl (by omega) sx sy v h1 h2
    clear hg
    obtain ⟨a, cap, rfl, _⟩ := hI
    go_enter Try.func4, Try.ntmps4
    go_wp2_with (first
      | (go_at_call 12; (with_reducible refine CG.out.mono ?_); rintro e w1 ⟨rfl, rfl⟩)
      | (go_at_call 25; (with_reducible refine (C1.out _ B0.out).mono ?_); rintro e w2 ⟨v2, rfl, h2, hb2⟩; have B2 := Lib.hid hb2; have I2 := Lib.hid h2; clear hb2 h2)
      | (go_at_call 26; (with_reducible refine (C2.out _ B2.out).mono ?_); rintro e w3 ⟨v3, rfl, h3', hb3⟩; have B3 := Lib.hid (B2.out.trans (hb3.mono B2.out.size)); have I3 := Lib.hid h3'; have J3 := Lib.hid ((I2.out.below hb3).mono hb3.size); clear hb3 h3')
      | (go_at_call 16; (with_reducible refine (CS.out _ _ _ J3.out I3.out).mono ?_); rintro e w4 ⟨rfl, hb4⟩; have B4 := Lib.hid (B3.out.trans (hb4.mono B3.out.size)); clear hb4)
      | (go_at_call 13; (with_reducible refine (CA.out _).mono ?_); rintro e w5 ⟨rfl, hb5⟩; have B5 := Lib.hid (B4.out.trans (hb5.mono B4.out.size)); clear hb5))
    go_ret
    exact ⟨rfl, B5.out⟩
end Go.Proofs.Ytejnmjaclhmelaa.Po
