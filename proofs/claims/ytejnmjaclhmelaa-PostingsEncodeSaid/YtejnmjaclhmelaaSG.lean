/- Layer 8: the program's And, Without. -/
import Derived.Test.YtejnmjaclhmelaaSF
set_option linter.unusedVariables false
set_option linter.unusedSimpArgs false
namespace Go.Proofs.Ytejnmjaclhmelaa.Po
open Go.RowKit
theorem Ints.nil_ (B : Nat) (w : World) : Ints B w (.slice none 0 0) [] :=
  ⟨none, 0, rfl, ⟨by simp [ic], fun hn => absurd hn (by simp)⟩, Nat.le_refl _, fun hn => absurd hn (by simp), fun _ => rfl⟩
theorem Ints.onto {w v : World} {sv : Value} {l : List Int} (h : Ints w.heap.size w sv l) (hb : Below w.heap.size w v) : Ints v.heap.size v sv l := (h.below hb).mono hb.size
theorem bne_yes {c : Int} (h : c ≠ 0) : (c != 0) = true := by rw [bne_iff_ne]; exact h
set_option maxHeartbeats 2000000 in
set_option maxRecDepth 100000 in
theorem comb_and (xs ys : List Int) (hx : xs.length ≤ 1000000) (hy : ys.length ≤ 1000000) (sx sy : Value) (w : World) (hX : Ints w.heap.size w sx xs) (hY : Ints w.heap.size w sy ys) :
    Calls Try.prog 38 #[sx, sy, .func (.func 39) #[] #[]] w (IntsOut w (fltO true xs ys)) := by
  have CX : Hid (∀ v, Below w.heap.size w v → Calls Try.prog 42 #[sx] v fun e w' => e = .returned (.bool (chk xs != 0)) ∧ Below v.heap.size v w') := Lib.hid fun v hb => gInvalid_any xs hx sx v (hX.onto hb)
  have CY : Hid (∀ v, Below w.heap.size w v → Calls Try.prog 42 #[sy] v fun e w' => e = .returned (.bool (chk ys != 0)) ∧ Below v.heap.size v w') := Lib.hid fun v hb => gInvalid_any ys hy sy v (hY.onto hb)
  have B0 := Lib.hid (Below.refl w.heap.size w)
  by_cases h1 : chk xs = 0
  · by_cases h2 : chk ys = 0
    · have CC : Hid (∀ v, Below w.heap.size w v → Calls Try.prog 53 #[sx, sy, .func (.func 39) #[] #[]] v (IntsOut v (fltO true xs ys))) := Lib.hid fun v hb => by
        rw [fltO_ok h1 h2, ← sel_and (chk_zero.1 h1) (chk_zero.1 h2)]
        exact chosen_and xs ys hx hy (chk_zero.1 h1) (chk_zero.1 h2) sx sy v (hX.onto hb) (hY.onto hb)
      rw [h1, show ((0 : Int) != 0) = false from rfl] at CX
      rw [h2, show ((0 : Int) != 0) = false from rfl] at CY
      generalize fltO true xs ys = l at *
      obtain ⟨a, ca, rfl, _⟩ := hX
      obtain ⟨b, cb, rfl, _⟩ := hY
      clear h1 h2
      go_enter Try.func38, Try.ntmps38
      go_wp2_with fail
      refine (CX.out _ B0.out).mono ?_
      rintro e w1 ⟨rfl, hb1⟩
      have B1 := Lib.hid hb1
      clear hb1
      go_wp2_with fail
      refine (CY.out _ B1.out).mono ?_
      rintro e w2 ⟨rfl, hb2⟩
      have B2 := Lib.hid (B1.out.trans (hb2.mono B1.out.size))
      clear hb2 B1
      go_wp2_with fail
      refine (CC.out _ B2.out).mono ?_
      rintro e w3 ⟨v3, rfl, h3, hb3⟩
      have B3 := Lib.hid (B2.out.trans (hb3.mono B2.out.size))
      have I3 := Lib.hid h3
      clear hb3 h3 B2
      go_wp2
      go_ret
      exact ⟨_, rfl, I3.out, B3.out⟩
    · have HE := Lib.hid (fltO_bad2 (want := true) (a := xs) h2)
      rw [h1, show ((0 : Int) != 0) = false from rfl] at CX
      rw [bne_yes h2] at CY
      obtain ⟨a, ca, rfl, _⟩ := hX
      obtain ⟨b, cb, rfl, _⟩ := hY
      clear h1 h2
      go_enter Try.func38, Try.ntmps38
      go_wp2_with fail
      refine (CX.out _ B0.out).mono ?_
      rintro e w1 ⟨rfl, hb1⟩
      have B1 := Lib.hid hb1
      clear hb1
      go_wp2_with fail
      refine (CY.out _ B1.out).mono ?_
      rintro e w2 ⟨rfl, hb2⟩
      have B2 := Lib.hid (B1.out.trans (hb2.mono B1.out.size))
      clear hb2 B1
      go_wp2
      go_ret
      rw [HE.out]
      exact ⟨_, rfl, Ints.nil_ _ _, B2.out⟩
  · have HE := Lib.hid (fltO_bad1 (want := true) (b := ys) h1)
    rw [bne_yes h1] at CX
    obtain ⟨a, ca, rfl, _⟩ := hX
    obtain ⟨b, cb, rfl, _⟩ := hY
    clear h1
    go_enter Try.func38, Try.ntmps38
    go_wp2_with fail
    refine (CX.out _ B0.out).mono ?_
    rintro e w1 ⟨rfl, hb1⟩
    have B1 := Lib.hid hb1
    clear hb1
    go_wp2
    go_ret
    rw [HE.out]
    exact ⟨_, rfl, Ints.nil_ _ _, B1.out⟩
theorem gAnd_any (xs ys : List Int) (hx : xs.length ≤ 1000000) (hy : ys.length ≤ 1000000) (sx sy : Value) (w : World) (hX : Ints w.heap.size w sx xs) (hY : Ints w.heap.size w sy ys) :
    Calls Try.prog 17 #[sx, sy] w (IntsOut w (fltO true xs ys)) := by
  have HM := Lib.hid (comb_and xs ys hx hy sx sy w hX hY)
  obtain ⟨a, ca, rfl, _⟩ := hX
  obtain ⟨b, cb, rfl, _⟩ := hY
  go_enter Try.func17, Try.ntmps17
  go_wp2_with fail
  refine HM.out.mono ?_
  rintro e w4 ⟨v4, rfl, ho4, hb4⟩
  have O4 := Lib.hid ho4
  have B4 := Lib.hid hb4
  clear ho4 hb4
  go_wp2
  go_ret
  exact ⟨_, rfl, O4.out, B4.out⟩
set_option maxHeartbeats 2000000 in
set_option maxRecDepth 100000 in
theorem comb_wi (xs ys : List Int) (hx : xs.length ≤ 1000000) (hy : ys.length ≤ 1000000) (sx sy : Value) (w : World) (hX : Ints w.heap.size w sx xs) (hY : Ints w.heap.size w sy ys) :
    Calls Try.prog 38 #[sx, sy, .func (.func 41) #[] #[]] w (IntsOut w (fltO false xs ys)) := by
  have CX : Hid (∀ v, Below w.heap.size w v → Calls Try.prog 42 #[sx] v fun e w' => e = .returned (.bool (chk xs != 0)) ∧ Below v.heap.size v w') := Lib.hid fun v hb => gInvalid_any xs hx sx v (hX.onto hb)
  have CY : Hid (∀ v, Below w.heap.size w v → Calls Try.prog 42 #[sy] v fun e w' => e = .returned (.bool (chk ys != 0)) ∧ Below v.heap.size v w') := Lib.hid fun v hb => gInvalid_any ys hy sy v (hY.onto hb)
  have B0 := Lib.hid (Below.refl w.heap.size w)
  by_cases h1 : chk xs = 0
  · by_cases h2 : chk ys = 0
    · have CC : Hid (∀ v, Below w.heap.size w v → Calls Try.prog 53 #[sx, sy, .func (.func 41) #[] #[]] v (IntsOut v (fltO false xs ys))) := Lib.hid fun v hb => by
        rw [fltO_ok h1 h2, ← sel_wi (chk_zero.1 h1) (chk_zero.1 h2)]
        exact chosen_wi xs ys hx hy (chk_zero.1 h1) (chk_zero.1 h2) sx sy v (hX.onto hb) (hY.onto hb)
      rw [h1, show ((0 : Int) != 0) = false from rfl] at CX
      rw [h2, show ((0 : Int) != 0) = false from rfl] at CY
      generalize fltO false xs ys = l at *
      obtain ⟨a, ca, rfl, _⟩ := hX
      obtain ⟨b, cb, rfl, _⟩ := hY
      clear h1 h2
      go_enter Try.func38, Try.ntmps38
      go_wp2_with fail
      refine (CX.out _ B0.out).mono ?_
      rintro e w1 ⟨rfl, hb1⟩
      have B1 := Lib.hid hb1
      clear hb1
      go_wp2_with fail
      refine (CY.out _ B1.out).mono ?_
      rintro e w2 ⟨rfl, hb2⟩
      have B2 := Lib.hid (B1.out.trans (hb2.mono B1.out.size))
      clear hb2 B1
      go_wp2_with fail
      refine (CC.out _ B2.out).mono ?_
      rintro e w3 ⟨v3, rfl, h3, hb3⟩
      have B3 := Lib.hid (B2.out.trans (hb3.mono B2.out.size))
      have I3 := Lib.hid h3
      clear hb3 h3 B2
      go_wp2
      go_ret
      exact ⟨_, rfl, I3.out, B3.out⟩
    · have HE := Lib.hid (fltO_bad2 (want := false) (a := xs) h2)
      rw [h1, show ((0 : Int) != 0) = false from rfl] at CX
      rw [bne_yes h2] at CY
      obtain ⟨a, ca, rfl, _⟩ := hX
      obtain ⟨b, cb, rfl, _⟩ := hY
      clear h1 h2
      go_enter Try.func38, Try.ntmps38
      go_wp2_with fail
      refine (CX.out _ B0.out).mono ?_
      rintro e w1 ⟨rfl, hb1⟩
      have B1 := Lib.hid hb1
      clear hb1
      go_wp2_with fail
      refine (CY.out _ B1.out).mono ?_
      rintro e w2 ⟨rfl, hb2⟩
      have B2 := Lib.hid (B1.out.trans (hb2.mono B1.out.size))
      clear hb2 B1
      go_wp2
      go_ret
      rw [HE.out]
      exact ⟨_, rfl, Ints.nil_ _ _, B2.out⟩
  · have HE := Lib.hid (fltO_bad1 (want := false) (b := ys) h1)
    rw [bne_yes h1] at CX
    obtain ⟨a, ca, rfl, _⟩ := hX
    obtain ⟨b, cb, rfl, _⟩ := hY
    clear h1
    go_enter Try.func38, Try.ntmps38
    go_wp2_with fail
    refine (CX.out _ B0.out).mono ?_
    rintro e w1 ⟨rfl, hb1⟩
    have B1 := Lib.hid hb1
    clear hb1
    go_wp2
    go_ret
    rw [HE.out]
    exact ⟨_, rfl, Ints.nil_ _ _, B1.out⟩
theorem gWithout_any (xs ys : List Int) (hx : xs.length ≤ 1000000) (hy : ys.length ≤ 1000000) (sx sy : Value) (w : World) (hX : Ints w.heap.size w sx xs) (hY : Ints w.heap.size w sy ys) :
    Calls Try.prog 21 #[sx, sy] w (IntsOut w (fltO false xs ys)) := by
  have HM := Lib.hid (comb_wi xs ys hx hy sx sy w hX hY)
  obtain ⟨a, ca, rfl, _⟩ := hX
  obtain ⟨b, cb, rfl, _⟩ := hY
  go_enter Try.func21, Try.ntmps21
  go_wp2_with fail
  refine HM.out.mono ?_
  rintro e w4 ⟨v4, rfl, ho4, hb4⟩
  have O4 := Lib.hid ho4
  have B4 := Lib.hid hb4
  clear ho4 hb4
  go_wp2
  go_ret
  exact ⟨_, rfl, O4.out, B4.out⟩
end Go.Proofs.Ytejnmjaclhmelaa.Po
