/- Layer 8: the reference's And, Without. -/
import Derived.Test.YtejnmjaclhmelaaPD
import Derived.Test.YtejnmjaclhmelaaPW
set_option linter.unusedVariables false
set_option linter.unusedSimpArgs false
namespace Go.Proofs.Ytejnmjaclhmelaa.Po
open Go.RowKit
theorem Ints.at_below {B : Nat} {w w' : World} {v : Value} {l : List Int} (h : Ints B w v l) (hb : Below B w w') (hB : B ≤ w'.heap.size) : IntsAt w'.heap.size w' v l := (h.below hb).at.mono hB
/-- The numbers of a list that b has, or has not. -/
def fltL (want : Bool) (a b : List Int) : List Int := a.filter fun x => hasB x b == want
theorem and_flt (a b : List Int) : andL a b = fltL true a b := by unfold andL fltL hasB; congr; funext x; simp
theorem wi_flt (a b : List Int) : wiL a b = fltL false a b := by unfold wiL fltL hasB; congr; funext x; simp
theorem flt_len (want : Bool) (a b : List Int) : (fltL want a b).length ≤ a.length := List.length_filter_le ..
theorem flt_yes {want : Bool} {a b : List Int} {k : Nat} (hk : k < a.length) (h : hasB (a[k]?.getD 0) b = want) : fltL want (a.take (k + 1)) b = fltL want (a.take k) b ++ [a[k]?.getD 0] := by
  unfold fltL
  rw [take_snoc a k hk, List.filter_append]
  simp [h]
theorem flt_no {want : Bool} {a b : List Int} {k : Nat} (hk : k < a.length) (h : hasB (a[k]?.getD 0) b = !want) : fltL want (a.take (k + 1)) b = fltL want (a.take k) b := by
  unfold fltL
  rw [take_snoc a k hk, List.filter_append]
  cases want <;> simp_all
def fltO (want : Bool) (a b : List Int) : List Int := if chk a = 0 ∧ chk b = 0 then fltL want a b else []
theorem fltO_ok {want : Bool} {a b : List Int} (h1 : chk a = 0) (h2 : chk b = 0) : fltO want a b = fltL want a b := if_pos ⟨h1, h2⟩
theorem fltO_bad1 {want : Bool} {a b : List Int} (h1 : chk a ≠ 0) : fltO want a b = [] := if_neg fun h => h1 h.1
theorem fltO_bad2 {want : Bool} {a b : List Int} (h1 : chk b ≠ 0) : fltO want a b = [] := if_neg fun h => h1 h.2
def andO (a b : List Int) : List Int := fltO true a b
def wiO (a b : List Int) : List Int := fltO false a b
theorem Ints.empty {B C : Nat} {w : World} (hB : B ≤ w.heap.size) (hC : w.heap.size + 1 ≤ C) : Ints C (w.alloc (.cells #[] 3)) (.slice (some ⟨w.heap.size, 0, none⟩) 0 0) [] :=
  ⟨_, 0, rfl, ⟨by simp [ic], fun hn => absurd hn (by simp)⟩, Nat.le_refl _, fun hn => absurd hn (by simp), fun e => by cases e⟩

set_option maxHeartbeats 2000000 in
set_option maxRecDepth 100000 in
theorem pAnd_any (xs ys : List Int) (hx : xs.length ≤ 1000000) (hy : ys.length ≤ 1000000) (sx sy : Value) (w : World) (hX : Ints w.heap.size w sx xs) (hY : Ints w.heap.size w sy ys) :
    Calls Try.prog 18 #[sx, sy] w (IntsOut w (fltO true xs ys)) := by
  obtain ⟨i0, hi, hz0, hz1, hz2⟩ := info_parts infoI
  have CX : Hid (∀ v, Below w.heap.size w v → Calls Try.prog 15 #[sx] v fun e w' => e = .returned (.int .i64 (chk xs)) ∧ Below v.heap.size v w') := Lib.hid fun v hb => pCheck_any xs hx sx v (hX.at_below hb hb.size)
  have CY : Hid (∀ v, Below w.heap.size w v → Calls Try.prog 15 #[sy] v fun e w' => e = .returned (.int .i64 (chk ys)) ∧ Below v.heap.size v w') := Lib.hid fun v hb => pCheck_any ys hy sy v (hY.at_below hb hb.size)
  have CH : Hid (∀ x v, Below w.heap.size w v → Calls Try.prog 40 #[sy, .int .i64 x] v fun e w' => e = .returned (.bool (hasB x ys)) ∧ Below v.heap.size v w') := Lib.hid fun x v hb => pHas_any ys hy sy x v (hY.at_below hb hb.size)
  have B0 : Hid (Below w.heap.size w (w.alloc (.cells #[] 3))) := (Below.refl _ _).alloc (Nat.le_refl _) _
  have E0 : Hid (Ints (w.heap.size + 1) (w.alloc (.cells #[] 3)) (.slice (some ⟨w.heap.size, 0, none⟩) 0 0) []) := Lib.hid (Ints.empty (Nat.le_refl _) (Nat.le_refl _))
  have hXa := hX.at
  obtain ⟨a, cap, rfl, hcx⟩ := hXa
  have HX := Lib.hid hcx
  clear hcx hX hY
  by_cases h1 : chk xs = 0
  · by_cases h2 : chk ys = 0
    · have HE := Lib.hid (fltO_ok (want := true) h1 h2)
      rw [h1] at CX
      rw [h2] at CY
      clear h1 h2
      go_enter Try.func18, Try.ntmps18
      go_wp2_with (go_at_call 15; first
        | (with_reducible refine (CX.out _ B0.out).mono ?_; rintro e w1 ⟨rfl, hb1⟩; have B1 := Lib.hid (B0.out.trans (hb1.mono B0.out.size)); have K1 := Lib.hid hb1; clear hb1)
        | (with_reducible refine (CY.out _ B1.out).mono ?_; rintro e w2 ⟨rfl, hb2⟩; have B2 := Lib.hid (B1.out.trans (hb2.mono B1.out.size)); have K2 := Lib.hid (K1.out.trans (hb2.mono K1.out.size)); clear hb2))
      have O2 : Hid (w2.ownsRow w.heap.size 3 1 (.slice (some ⟨w.heap.size, 0, none⟩) 0 0) 0 []) := Lib.hid (own_belowP (World.ownsRow_made w #[] 0 (Nat.le_refl _) (by unfold maxLen; omega) (by simp)) K2.out)
      clear B0 B1 K1 K2 E0 CX CY
      go_loopw [5, 6] (fun vo vi wr => ∃ (k : Nat) (acc : List Int), k ≤ xs.length ∧ acc.length ≤ k ∧ vi = .int .i64 k ∧ Hid (acc = fltL true (xs.take k) ys) ∧ Hid (wr.ownsRow w.heap.size 3 1 vo acc.length (ic acc)) ∧ Hid (Below w.heap.size w wr))
        (fun _ vi _ => xs.length - (intOf vi).toNat)
      case atStart => exact ⟨0, [], Nat.zero_le _, Nat.zero_le _, rfl, Lib.hid (by simp [fltL]), O2, B2⟩
      case round =>
        clear O2 B2
        obtain ⟨k, acc, hk, hal, rfl, HQ, HO, HB⟩ := hrel
        by_cases hlt : k < xs.length
        · obtain ⟨b, o, rfl, hb, hc⟩ := HX.out (List.ne_nil_of_length_pos (by omega))
          have hcell := (HB.out.cell (p := ⟨b, o + k, none⟩) (by simp; omega)).trans (hc k hlt)
          have hi' : (k : Int) < xs.length := by omega
          have HY := Lib.hid (@flt_yes true xs ys k hlt)
          have HN := Lib.hid (@flt_no true xs ys k hlt)
          clear hc
          generalize xs[k]?.getD 0 = x at *
          have CB := Lib.hid (CH.out x _ HB.out)
          by_cases hh : hasB x ys = true
          · have HE2 := Lib.hid (HY.out hh)
            rw [hh] at CB
            clear hh HY HN
            go_wp2_with (first
              | (go_at_call 40; with_reducible refine CB.out.mono ?_; rintro e w3 ⟨rfl, hb3⟩; have hcell3 := (hb3.cell (p := ⟨b, o + k, none⟩) (by have := HB.out.size; simp; omega)).trans hcell; have B3 := Lib.hid (HB.out.trans (hb3.mono HB.out.size)); have O3 := Lib.hid (own_belowP HO.out hb3); clear hb3)
              | (at_builtin; refine wpList_append_own _ rfl _ _ 22 rfl w.heap.size 3 i0 (.int .i64 0) 1 8 Try.underlying22 hi hz0 hz1 hz2 rfl (by decide) _ _ _ rfl (O3.out.alloc _) ⟨w3.heap.size, 0, none⟩ 1 1 [Value.int .i64 x] rfl rfl (fun j u hj => by (match j, hj with | 0, hj => (simp at hj; subst hj; simp [Addr.add]))) (fun u hu => by (simp at hu; subst hu; rfl)) (by unfold maxLen; omega) (by omega) (by have := B3.out.size; simp; omega) ?_; intro v4 w4 hown4 hgrow4 _; have B4 := Lib.hid ((B3.out.alloc (by have := B3.out.size; omega) _).grown hgrow4 (by have := B3.out.size; simp; omega) (fun k hk => (O3.out.lt k hk).1)); have O4 := Lib.hid hown4; clear hown4 hgrow4))
            go_roundw
            case rel => exact ⟨k + 1, acc ++ [x], by omega, by simp; omega, by go_num, Lib.hid (by rw [HE2.out, HQ.out]), Lib.hid (by simpa [ic] using O4.out), B4⟩
            case measure => simp [intOf]; omega
          · have hh2 : hasB x ys = !true := by cases hq : hasB x ys <;> simp_all
            have HE2 := Lib.hid (HN.out hh2)
            rw [hh2] at CB
            clear hh hh2 HY HN
            go_wp2_with (go_at_call 40; with_reducible refine CB.out.mono ?_; rintro e w3 ⟨rfl, hb3⟩; have B3 := Lib.hid (HB.out.trans (hb3.mono HB.out.size)); have O3 := Lib.hid (own_belowP HO.out hb3); clear hb3)
            go_roundw
            case rel => exact ⟨k + 1, acc, by omega, by omega, by go_num, Lib.hid (by rw [HE2.out, HQ.out]), O3, B3⟩
            case measure => simp [intOf]; omega
        · have HE2 : Hid (acc = fltO true xs ys) := Lib.hid (by rw [HE.out, HQ.out, List.take_of_length_le (by omega)])
          go_wp2
          go_ret
          rw [← HE2.out]
          exact ⟨_, rfl, Ints.of_own HO.out (Nat.le_refl _), HB.out⟩
    · have HE := Lib.hid (fltO_bad2 (want := true) (a := xs) h2)
      rw [h1] at CX
      have hne : (chk ys != 0) = true := by rw [bne_iff_ne]; exact h2
      clear h1 h2
      generalize chk ys = c at *
      go_enter Try.func18, Try.ntmps18
      go_wp2_with (go_at_call 15; first
        | (with_reducible refine (CX.out _ B0.out).mono ?_; rintro e w1 ⟨rfl, hb1⟩; have B1 := Lib.hid (B0.out.trans (hb1.mono B0.out.size)); have K1 := Lib.hid hb1; clear hb1)
        | (with_reducible refine (CY.out _ B1.out).mono ?_; rintro e w2 ⟨rfl, hb2⟩; have B2 := Lib.hid (B1.out.trans (hb2.mono B1.out.size)); have K2 := Lib.hid (K1.out.trans (hb2.mono K1.out.size)); clear hb2))
      go_ret
      rw [HE.out]
      exact ⟨_, rfl, (E0.out.below (K2.out.mono (by simp))).mono (by have := K2.out.size; simp at this; omega), B2.out⟩
  · have HE := Lib.hid (fltO_bad1 (want := true) (b := ys) h1)
    have hne : (chk xs != 0) = true := by rw [bne_iff_ne]; exact h1
    clear h1
    generalize chk xs = c at *
    go_enter Try.func18, Try.ntmps18
    go_wp2_with (go_at_call 15; (with_reducible refine (CX.out _ B0.out).mono ?_; rintro e w1 ⟨rfl, hb1⟩; have B1 := Lib.hid (B0.out.trans (hb1.mono B0.out.size)); have K1 := Lib.hid hb1; clear hb1))
    go_ret
    rw [HE.out]
    exact ⟨_, rfl, (E0.out.below (K1.out.mono (by simp))).mono (by have := K1.out.size; simp at this; omega), B1.out⟩

set_option maxHeartbeats 2000000 in
set_option maxRecDepth 100000 in
theorem pWithout_any (xs ys : List Int) (hx : xs.length ≤ 1000000) (hy : ys.length ≤ 1000000) (sx sy : Value) (w : World) (hX : Ints w.heap.size w sx xs) (hY : Ints w.heap.size w sy ys) :
    Calls Try.prog 22 #[sx, sy] w (IntsOut w (fltO false xs ys)) := by
  obtain ⟨i0, hi, hz0, hz1, hz2⟩ := info_parts infoI
  have CX : Hid (∀ v, Below w.heap.size w v → Calls Try.prog 15 #[sx] v fun e w' => e = .returned (.int .i64 (chk xs)) ∧ Below v.heap.size v w') := Lib.hid fun v hb => pCheck_any xs hx sx v (hX.at_below hb hb.size)
  have CY : Hid (∀ v, Below w.heap.size w v → Calls Try.prog 15 #[sy] v fun e w' => e = .returned (.int .i64 (chk ys)) ∧ Below v.heap.size v w') := Lib.hid fun v hb => pCheck_any ys hy sy v (hY.at_below hb hb.size)
  have CH : Hid (∀ x v, Below w.heap.size w v → Calls Try.prog 40 #[sy, .int .i64 x] v fun e w' => e = .returned (.bool (hasB x ys)) ∧ Below v.heap.size v w') := Lib.hid fun x v hb => pHas_any ys hy sy x v (hY.at_below hb hb.size)
  have B0 : Hid (Below w.heap.size w (w.alloc (.cells #[] 3))) := (Below.refl _ _).alloc (Nat.le_refl _) _
  have E0 : Hid (Ints (w.heap.size + 1) (w.alloc (.cells #[] 3)) (.slice (some ⟨w.heap.size, 0, none⟩) 0 0) []) := Lib.hid (Ints.empty (Nat.le_refl _) (Nat.le_refl _))
  have hXa := hX.at
  obtain ⟨a, cap, rfl, hcx⟩ := hXa
  have HX := Lib.hid hcx
  clear hcx hX hY
  by_cases h1 : chk xs = 0
  · by_cases h2 : chk ys = 0
    · have HE := Lib.hid (fltO_ok (want := false) h1 h2)
      rw [h1] at CX
      rw [h2] at CY
      clear h1 h2
      go_enter Try.func22, Try.ntmps22
      go_wp2_with (go_at_call 15; first
        | (with_reducible refine (CX.out _ B0.out).mono ?_; rintro e w1 ⟨rfl, hb1⟩; have B1 := Lib.hid (B0.out.trans (hb1.mono B0.out.size)); have K1 := Lib.hid hb1; clear hb1)
        | (with_reducible refine (CY.out _ B1.out).mono ?_; rintro e w2 ⟨rfl, hb2⟩; have B2 := Lib.hid (B1.out.trans (hb2.mono B1.out.size)); have K2 := Lib.hid (K1.out.trans (hb2.mono K1.out.size)); clear hb2))
      have O2 : Hid (w2.ownsRow w.heap.size 3 1 (.slice (some ⟨w.heap.size, 0, none⟩) 0 0) 0 []) := Lib.hid (own_belowP (World.ownsRow_made w #[] 0 (Nat.le_refl _) (by unfold maxLen; omega) (by simp)) K2.out)
      clear B0 B1 K1 K2 E0 CX CY
      go_loopw [5, 6] (fun vo vi wr => ∃ (k : Nat) (acc : List Int), k ≤ xs.length ∧ acc.length ≤ k ∧ vi = .int .i64 k ∧ Hid (acc = fltL false (xs.take k) ys) ∧ Hid (wr.ownsRow w.heap.size 3 1 vo acc.length (ic acc)) ∧ Hid (Below w.heap.size w wr))
        (fun _ vi _ => xs.length - (intOf vi).toNat)
      case atStart => exact ⟨0, [], Nat.zero_le _, Nat.zero_le _, rfl, Lib.hid (by simp [fltL]), O2, B2⟩
      case round =>
        clear O2 B2
        obtain ⟨k, acc, hk, hal, rfl, HQ, HO, HB⟩ := hrel
        by_cases hlt : k < xs.length
        · obtain ⟨b, o, rfl, hb, hc⟩ := HX.out (List.ne_nil_of_length_pos (by omega))
          have hcell := (HB.out.cell (p := ⟨b, o + k, none⟩) (by simp; omega)).trans (hc k hlt)
          have hi' : (k : Int) < xs.length := by omega
          have HY := Lib.hid (@flt_yes false xs ys k hlt)
          have HN := Lib.hid (@flt_no false xs ys k hlt)
          clear hc
          generalize xs[k]?.getD 0 = x at *
          have CB := Lib.hid (CH.out x _ HB.out)
          by_cases hh : hasB x ys = false
          · have HE2 := Lib.hid (HY.out hh)
            rw [hh] at CB
            clear hh HY HN
            go_wp2_with (first
              | (go_at_call 40; with_reducible refine CB.out.mono ?_; rintro e w3 ⟨rfl, hb3⟩; have hcell3 := (hb3.cell (p := ⟨b, o + k, none⟩) (by have := HB.out.size; simp; omega)).trans hcell; have B3 := Lib.hid (HB.out.trans (hb3.mono HB.out.size)); have O3 := Lib.hid (own_belowP HO.out hb3); clear hb3)
              | (at_builtin; refine wpList_append_own _ rfl _ _ 22 rfl w.heap.size 3 i0 (.int .i64 0) 1 8 Try.underlying22 hi hz0 hz1 hz2 rfl (by decide) _ _ _ rfl (O3.out.alloc _) ⟨w3.heap.size, 0, none⟩ 1 1 [Value.int .i64 x] rfl rfl (fun j u hj => by (match j, hj with | 0, hj => (simp at hj; subst hj; simp [Addr.add]))) (fun u hu => by (simp at hu; subst hu; rfl)) (by unfold maxLen; omega) (by omega) (by have := B3.out.size; simp; omega) ?_; intro v4 w4 hown4 hgrow4 _; have B4 := Lib.hid ((B3.out.alloc (by have := B3.out.size; omega) _).grown hgrow4 (by have := B3.out.size; simp; omega) (fun k hk => (O3.out.lt k hk).1)); have O4 := Lib.hid hown4; clear hown4 hgrow4))
            go_roundw
            case rel => exact ⟨k + 1, acc ++ [x], by omega, by simp; omega, by go_num, Lib.hid (by rw [HE2.out, HQ.out]), Lib.hid (by simpa [ic] using O4.out), B4⟩
            case measure => simp [intOf]; omega
          · have hh2 : hasB x ys = !false := by cases hq : hasB x ys <;> simp_all
            have HE2 := Lib.hid (HN.out hh2)
            rw [hh2] at CB
            clear hh hh2 HY HN
            go_wp2_with (go_at_call 40; with_reducible refine CB.out.mono ?_; rintro e w3 ⟨rfl, hb3⟩; have B3 := Lib.hid (HB.out.trans (hb3.mono HB.out.size)); have O3 := Lib.hid (own_belowP HO.out hb3); clear hb3)
            go_roundw
            case rel => exact ⟨k + 1, acc, by omega, by omega, by go_num, Lib.hid (by rw [HE2.out, HQ.out]), O3, B3⟩
            case measure => simp [intOf]; omega
        · have HE2 : Hid (acc = fltO false xs ys) := Lib.hid (by rw [HE.out, HQ.out, List.take_of_length_le (by omega)])
          go_wp2
          go_ret
          rw [← HE2.out]
          exact ⟨_, rfl, Ints.of_own HO.out (Nat.le_refl _), HB.out⟩
    · have HE := Lib.hid (fltO_bad2 (want := false) (a := xs) h2)
      rw [h1] at CX
      have hne : (chk ys != 0) = true := by rw [bne_iff_ne]; exact h2
      clear h1 h2
      generalize chk ys = c at *
      go_enter Try.func22, Try.ntmps22
      go_wp2_with (go_at_call 15; first
        | (with_reducible refine (CX.out _ B0.out).mono ?_; rintro e w1 ⟨rfl, hb1⟩; have B1 := Lib.hid (B0.out.trans (hb1.mono B0.out.size)); have K1 := Lib.hid hb1; clear hb1)
        | (with_reducible refine (CY.out _ B1.out).mono ?_; rintro e w2 ⟨rfl, hb2⟩; have B2 := Lib.hid (B1.out.trans (hb2.mono B1.out.size)); have K2 := Lib.hid (K1.out.trans (hb2.mono K1.out.size)); clear hb2))
      go_ret
      rw [HE.out]
      exact ⟨_, rfl, (E0.out.below (K2.out.mono (by simp))).mono (by have := K2.out.size; simp at this; omega), B2.out⟩
  · have HE := Lib.hid (fltO_bad1 (want := false) (b := ys) h1)
    have hne : (chk xs != 0) = true := by rw [bne_iff_ne]; exact h1
    clear h1
    generalize chk xs = c at *
    go_enter Try.func22, Try.ntmps22
    go_wp2_with (go_at_call 15; (with_reducible refine (CX.out _ B0.out).mono ?_; rintro e w1 ⟨rfl, hb1⟩; have B1 := Lib.hid (B0.out.trans (hb1.mono B0.out.size)); have K1 := Lib.hid hb1; clear hb1))
    go_ret
    rw [HE.out]
    exact ⟨_, rfl, (E0.out.below (K1.out.mono (by simp))).mono (by have := K1.out.size; simp at this; omega), B1.out⟩
end Go.Proofs.Ytejnmjaclhmelaa.Po
