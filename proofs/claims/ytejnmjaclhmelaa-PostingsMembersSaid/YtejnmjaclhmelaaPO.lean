/- Layer 8: the walk of the law PostingsSets. -/
import Derived.Test.YtejnmjaclhmelaaPN
set_option linter.unusedVariables false
set_option linter.unusedSimpArgs false
namespace Go.Proofs.Ytejnmjaclhmelaa.Po
open Go.RowKit
theorem flt_len2 (want : Bool) (a b : List Int) : (fltO want a b).length ≤ a.length := by
  unfold fltO
  split
  · exact flt_len want a b
  · simp
theorem orO_len (a b : List Int) : (orO a b).length ≤ a.length + b.length := by
  unfold orO mrgO
  split
  · have := mrg_len [a, b] []
    unfold mrgL
    simp [tot] at this ⊢
    omega
  · simp
set_option maxHeartbeats 8000000 in
set_option maxRecDepth 100000 in
theorem sets_walk (xs : List Int) (sx : Value) (ys : List Int) (sy : Value) (x : Int) (w : World) (hx : xs.length ≤ maxLen) (hy : ys.length ≤ maxLen) (hx0 : (Lit.int .i64 x).wf = true) (hX : Ints w.heap.size w sx xs) (hY : Ints w.heap.size w sy ys) :
    Calls Try.prog 3 #[sx, sy, .int .i64 x] w fun e w' => e = .returned (.bool true) ∧ Below w.heap.size w w' := by
  have CG := Lib.hid (great_any [xs, ys] (by unfold maxLen; simp) _ _ (IntsL.two hX hY))
  have B0 : Hid (Below w.heap.size w (w.alloc (.cells #[sx, sy] 22))) := Lib.hid ((Below.refl _ _).alloc (Nat.le_refl _) _)
  have CA := Lib.hid awake_any
  cases hg : greatB [xs, ys] with
  | true =>
    rw [hg] at CG
    clear hg
    obtain ⟨a, cap, rfl, _⟩ := hX
    obtain ⟨b, cap2, rfl, _⟩ := hY
    go_enter Try.func3, Try.ntmps3
    go_wp2_with (first
      | (go_at_call 12; (with_reducible refine CG.out.mono ?_); rintro e w1 ⟨rfl, rfl⟩)
      | (go_at_call 13; (with_reducible refine (CA.out _).mono ?_); rintro e w2 ⟨rfl, hb2⟩; have B2 := Lib.hid (B0.out.trans (hb2.mono B0.out.size)); clear hb2))
    go_ret
    exact ⟨rfl, B2.out⟩
  | false =>
    obtain ⟨_, hle⟩ := great_no hg
    have hx4 : xs.length ≤ 40 := hle xs (by simp)
    have hy4 : ys.length ≤ 40 := hle ys (by simp)
    rw [hg] at CG
    have C1 : Hid (∀ v, Below w.heap.size w v → Calls Try.prog 14 #[sx] v fun e w' => e = .returned (.int .i64 (chk xs)) ∧ Below v.heap.size v w') := Lib.hid fun v hb => gCheck_any xs (by omega) sx v ((hX.below hb).mono hb.size)
    have C2 : Hid (∀ v, Below w.heap.size w v → Calls Try.prog 15 #[sx] v fun e w' => e = .returned (.int .i64 (chk xs)) ∧ Below v.heap.size v w') := Lib.hid fun v hb => pCheck_any xs (by omega) sx v (hX.at_below hb hb.size)
    have C3 : Hid (∀ v, Below w.heap.size w v → Calls Try.prog 17 #[sx, sy] v (IntsOut v (fltO true xs ys))) := Lib.hid fun v hb => gAnd_any xs ys (by omega) (by omega) sx sy v ((hX.below hb).mono hb.size) ((hY.below hb).mono hb.size)
    have C4 : Hid (∀ v, Below w.heap.size w v → Calls Try.prog 18 #[sx, sy] v (IntsOut v (fltO true xs ys))) := Lib.hid fun v hb => pAnd_any xs ys (by omega) (by omega) sx sy v ((hX.below hb).mono hb.size) ((hY.below hb).mono hb.size)
    have C5 : Hid (∀ v, Below w.heap.size w v → Calls Try.prog 19 #[sx, sy] v (IntsOut v (orO xs ys))) := Lib.hid fun v hb => gOr_any xs ys (by omega) (by omega) sx sy v ((hX.below hb).mono hb.size) ((hY.below hb).mono hb.size)
    have C6 : Hid (∀ v, Below w.heap.size w v → Calls Try.prog 20 #[sx, sy] v (IntsOut v (orO xs ys))) := Lib.hid fun v hb => pOr_any xs ys (by omega) (by omega) sx sy v ((hX.below hb).mono hb.size) ((hY.below hb).mono hb.size)
    have C7 : Hid (∀ v, Below w.heap.size w v → Calls Try.prog 21 #[sx, sy] v (IntsOut v (fltO false xs ys))) := Lib.hid fun v hb => gWithout_any xs ys (by omega) (by omega) sx sy v ((hX.below hb).mono hb.size) ((hY.below hb).mono hb.size)
    have C8 : Hid (∀ v, Below w.heap.size w v → Calls Try.prog 22 #[sx, sy] v (IntsOut v (fltO false xs ys))) := Lib.hid fun v hb => pWithout_any xs ys (by omega) (by omega) sx sy v ((hX.below hb).mono hb.size) ((hY.below hb).mono hb.size)
    have C9 : Hid (∀ v, Below w.heap.size w v → Calls Try.prog 23 #[sx, .int .i64 x] v fun e w' => e = .returned (.int .i64 (seekO xs x : Nat)) ∧ Below v.heap.size v w') := Lib.hid fun v hb => gSeek_any xs (by omega) sx x v ((hX.below hb).mono hb.size)
    have Ca : Hid (∀ v, Below w.heap.size w v → Calls Try.prog 24 #[sx, .int .i64 x] v fun e w' => e = .returned (.int .i64 (seekO xs x : Nat)) ∧ Below v.heap.size v w') := Lib.hid fun v hb => pSeek_any xs (by omega) sx x v (hX.at_below hb hb.size)
    have h1 := flt_len2 true xs ys
    have h2 := orO_len xs ys
    have h3 := flt_len2 false xs ys
    generalize fltO true xs ys = l1 at *
    generalize orO xs ys = l2 at *
    generalize fltO false xs ys = l3 at *
    generalize seekO xs x = k at *
    generalize chk xs = c at *
    have S1 : Hid (∀ v sx sy, Ints v.heap.size v sx l1 → Ints v.heap.size v sy l1 → Calls Try.prog 16 #[sx, sy] v fun e w' => e = .returned (.bool true) ∧ Below v.heap.size v w') := Lib.hid fun v sx sy h1 h2 => same_yes l1 l1 rfl (by omega) sx sy v h1 h2
    have S2 : Hid (∀ v sx sy, Ints v.heap.size v sx l2 → Ints v.heap.size v sy l2 → Calls Try.prog 16 #[sx, sy] v fun e w' => e = .returned (.bool true) ∧ Below v.heap.size v w') := Lib.hid fun v sx sy h1 h2 => same_yes l2 l2 rfl (by omega) sx sy v h1 h2
    have S3 : Hid (∀ v sx sy, Ints v.heap.size v sx l3 → Ints v.heap.size v sy l3 → Calls Try.prog 16 #[sx, sy] v fun e w' => e = .returned (.bool true) ∧ Below v.heap.size v w') := Lib.hid fun v sx sy h1 h2 => same_yes l3 l3 rfl (by omega) sx sy v h1 h2
    clear hg h1 h2 h3 hle
    obtain ⟨a, cap, rfl, _⟩ := hX
    obtain ⟨b, cap2, rfl, _⟩ := hY
    go_enter Try.func3, Try.ntmps3
    go_wp2_with fail
    refine CG.out.mono ?_
    rintro e w0 ⟨rfl, rfl⟩
    go_wp2_with fail
    refine (C1.out _ B0.out).mono ?_
    rintro e w1 ⟨rfl, hb1⟩
    have B1x := Lib.hid (B0.out.trans (hb1.mono B0.out.size))
    clear hb1
    go_wp2_with fail
    refine (C2.out _ B1x.out).mono ?_
    rintro e w2 ⟨rfl, hb2⟩
    have B2x := Lib.hid (B1x.out.trans (hb2.mono B1x.out.size))
    clear hb2   B1x
    go_wp2_with fail
    refine (C3.out _ B2x.out).mono ?_
    rintro e w3 ⟨v3, rfl, h3, hb3⟩
    have I3 := Lib.hid h3
    have B3x := Lib.hid (B2x.out.trans (hb3.mono B2x.out.size))
    clear hb3  h3 B2x
    go_wp2_with fail
    refine (C4.out _ B3x.out).mono ?_
    rintro e w4 ⟨v4, rfl, h4, hb4⟩
    have I3' := Lib.hid ((I3.out.below hb4).mono hb4.size)
    have I4 := Lib.hid h4
    have B4x := Lib.hid (B3x.out.trans (hb4.mono B3x.out.size))
    clear hb4 I3 h4 B3x
    go_wp2_with fail
    refine (S1.out _ _ _ I3'.out I4.out).mono ?_
    rintro e w5 ⟨rfl, hb5⟩
    have I3'' := Lib.hid ((I3'.out.below hb5).mono hb5.size)
    have I4' := Lib.hid ((I4.out.below hb5).mono hb5.size)
    have B5x := Lib.hid (B4x.out.trans (hb5.mono B4x.out.size))
    clear hb5 I3' I4 I3'' I4'  B4x
    go_wp2_with fail
    refine (C5.out _ B5x.out).mono ?_
    rintro e w6 ⟨v6, rfl, h6, hb6⟩
    have I6 := Lib.hid h6
    have B6x := Lib.hid (B5x.out.trans (hb6.mono B5x.out.size))
    clear hb6  h6 B5x
    go_wp2_with fail
    refine (C6.out _ B6x.out).mono ?_
    rintro e w7 ⟨v7, rfl, h7, hb7⟩
    have I6' := Lib.hid ((I6.out.below hb7).mono hb7.size)
    have I7 := Lib.hid h7
    have B7x := Lib.hid (B6x.out.trans (hb7.mono B6x.out.size))
    clear hb7 I6 h7 B6x
    go_wp2_with fail
    refine (S2.out _ _ _ I6'.out I7.out).mono ?_
    rintro e w8 ⟨rfl, hb8⟩
    have I6'' := Lib.hid ((I6'.out.below hb8).mono hb8.size)
    have I7' := Lib.hid ((I7.out.below hb8).mono hb8.size)
    have B8x := Lib.hid (B7x.out.trans (hb8.mono B7x.out.size))
    clear hb8 I6' I7 I6'' I7'  B7x
    go_wp2_with fail
    refine (C7.out _ B8x.out).mono ?_
    rintro e w9 ⟨v9, rfl, h9, hb9⟩
    have I9 := Lib.hid h9
    have B9x := Lib.hid (B8x.out.trans (hb9.mono B8x.out.size))
    clear hb9  h9 B8x
    go_wp2_with fail
    refine (C8.out _ B9x.out).mono ?_
    rintro e w10 ⟨v10, rfl, h10, hb10⟩
    have I9' := Lib.hid ((I9.out.below hb10).mono hb10.size)
    have I10 := Lib.hid h10
    have B10x := Lib.hid (B9x.out.trans (hb10.mono B9x.out.size))
    clear hb10 I9 h10 B9x
    go_wp2_with fail
    refine (S3.out _ _ _ I9'.out I10.out).mono ?_
    rintro e w11 ⟨rfl, hb11⟩
    have I9'' := Lib.hid ((I9'.out.below hb11).mono hb11.size)
    have I10' := Lib.hid ((I10.out.below hb11).mono hb11.size)
    have B11x := Lib.hid (B10x.out.trans (hb11.mono B10x.out.size))
    clear hb11 I9' I10 I9'' I10'  B10x
    go_wp2_with fail
    refine (C9.out _ B11x.out).mono ?_
    rintro e w12 ⟨rfl, hb12⟩
    have B12x := Lib.hid (B11x.out.trans (hb12.mono B11x.out.size))
    clear hb12   B11x
    go_wp2_with fail
    refine (Ca.out _ B12x.out).mono ?_
    rintro e w13 ⟨rfl, hb13⟩
    have B13x := Lib.hid (B12x.out.trans (hb13.mono B12x.out.size))
    clear hb13   B12x
    go_wp2_with fail
    refine (CA.out _).mono ?_
    rintro e w14 ⟨rfl, hb14⟩
    have B14x := Lib.hid (B13x.out.trans (hb14.mono B13x.out.size))
    clear hb14   B13x
    go_wp2
    go_ret
    exact ⟨rfl, B14x.out⟩
end Go.Proofs.Ytejnmjaclhmelaa.Po
