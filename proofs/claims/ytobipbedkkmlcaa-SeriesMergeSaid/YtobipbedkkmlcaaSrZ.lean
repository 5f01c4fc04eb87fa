/- Layer 11: the reference's Insert, into nil. -/
import Derived.Test.YtobipbedkkmlcaaSrY
set_option linter.unusedVariables false
set_option linter.unusedSimpArgs false
namespace Go.Proofs.Ytobipbedkkmlcaa.Sr
open Go.RowKit
set_option maxHeartbeats 8000000 in
set_option maxRecDepth 100000 in
/-- Into nil. -/
theorem refInsert_nil (x : S) (w : World) (hx : okS x = true) :
    Calls Try.prog 22 #[.slice none 0 0, smpV x] w (OwnPost2 (insL [] x, 0) w) := by
  have B0 : Hid (Below w.heap.size w (w.alloc (.cells #[.int .i64 x.1, .int .i64 x.2] 33))) := (Below.refl _ _).alloc (Nat.le_refl _) _
  have gx1' : (w.alloc (.cells #[.int .i64 x.1, .int .i64 x.2] 33)).cell? ⟨w.heap.size, 0, none⟩ = some (.int .i64 x.1) := by go_simp
  have gx2' : (w.alloc (.cells #[.int .i64 x.1, .int .i64 x.2] 33)).cell? ⟨w.heap.size, 1, none⟩ = some (.int .i64 x.2) := by go_simp
  have C := Lib.hid (valid_any [] (by simp) none 0 (w.alloc (.cells #[.int .i64 x.1, .int .i64 x.2] 33)) (LS.nil _ _ _))
  have CS := Lib.hid (sample_any x)
  have PP := Lib.hid fun w1 (hb : Below w.heap.size w w1) => place_any [] (by simp) x.1 none 0 w.heap.size w1 (LS.nil _ _ _)
  rw [decide_eq_true (chk_one.2 ⟨by simp, good_nil⟩)] at C
  rw [hx] at CS
  have HINS : Hid (insL [] x = [].take 0 ++ x :: [].drop 0) := rfl
  simp only [plc, List.length_nil] at C PP
  clear hx
  obtain ⟨i0, hi, hz0, hz1, hz2⟩ := info_parts infoS
  have RA : Hid (∀ w1, Reads w1 w.heap.size 2 none 0 []) := fun w1 => Reads.none_
  go_enter Try.func22, Try.ntmps22
  go_wp2_with (first | (go_at_call 28; (with_reducible refine C.out.mono ?_); rintro e w1 ⟨rfl, hb1⟩; have gx1 := (hb1.cell (p := ⟨w.heap.size, 0, none⟩) (by simp)).trans gx1'; have gx2 := (hb1.cell (p := ⟨w.heap.size, 1, none⟩) (by simp)).trans gx2'; have hbx := Nat.lt_of_lt_of_le (show w.heap.size < (w.alloc (.cells #[.int .i64 x.1, .int .i64 x.2] 33)).heap.size by simp) hb1.size; have HB1 := Lib.hid (B0.out.trans (hb1.mono (by simp))); clear hb1) | (go_at_call 35; (with_reducible refine (CS.out _).mono ?_); rintro e w2 ⟨rfl, hb2⟩; have hy1 := (hb2.cell (p := ⟨w.heap.size, 0, none⟩) hbx).trans gx1; have hy2 := (hb2.cell (p := ⟨w.heap.size, 1, none⟩) hbx).trans gx2; have hby := Nat.lt_of_lt_of_le hbx hb2.size; have HB2 := Lib.hid (HB1.out.trans (hb2.mono HB1.out.size)); clear hb2) | (go_at_call 41; (with_reducible refine (PP.out _ HB2.out).mono ?_); rintro e w3 ⟨rfl, rfl⟩))
  have hszw := HB2.out.size
  go_quiet (fail)
  go_wp2
  have BW : Hid (∀ w1, Below w2.heap.size w2 w1 → Below w.heap.size w w1) := fun w1 h => HB2.out.trans (h.mono hszw)
  have O1 : Hid (∀ m, ((w2.drewN m).alloc (.cells #[] 33)).ownsRow w2.heap.size 33 2 (.slice (some ⟨w2.heap.size, 0, none⟩) 0 0) 0 []) := fun m => made_own (w := w2.drewN m) (Nat.le_refl _)
  have B1 : Hid (∀ m, Below w2.heap.size w2 ((w2.drewN m).alloc (.cells #[] 33))) := fun m => (below_drewN (Below.refl _ w2) m).alloc (Nat.le_refl _) _
  have O2 : Hid (∀ m, (((w2.drewN m).alloc (.cells #[.int .i64 x.1, .int .i64 x.2] 33)).alloc (.cells #[] 33)).ownsRow w2.heap.size 33 2 (.slice (some ⟨w2.heap.size + 1, 0, none⟩) 0 0) 0 []) := fun m => by
    have h := made_own (w := (w2.drewN m).alloc (.cells #[.int .i64 x.1, .int .i64 x.2] 33)) (B := w2.heap.size) (by simp)
    simp at h
    exact h
  have B2 : Hid (∀ m, Below w2.heap.size w2 (((w2.drewN m).alloc (.cells #[.int .i64 x.1, .int .i64 x.2] 33)).alloc (.cells #[] 33))) := fun m => ((below_drewN (Below.refl _ w2) m).alloc (Nat.le_refl _) _).alloc (by simp) _
  have X2 : Hid (∀ m, Reads (((w2.drewN m).alloc (.cells #[.int .i64 x.1, .int .i64 x.2] 33)).alloc (.cells #[] 33)) (w2.heap.size + 1) 2 (some ⟨w2.heap.size, 0, none⟩) 1 [.int .i64 x.1, .int .i64 x.2]) := fun m => (two_reads (w2.drewN m) x.1 x.2 (w2.heap.size + 1) (by simp)).alloc (by simp) _
  have O3 : Hid (∀ m, (((w2.drewN m).alloc (.cells #[] 33)).alloc (.cells #[.int .i64 x.1, .int .i64 x.2] 33)).ownsRow w2.heap.size 33 2 (.slice (some ⟨w2.heap.size, 0, none⟩) 0 0) 0 []) := fun m => (O1.out m).alloc _
  have B3 : Hid (∀ m, Below w2.heap.size w2 (((w2.drewN m).alloc (.cells #[] 33)).alloc (.cells #[.int .i64 x.1, .int .i64 x.2] 33))) := fun m => (B1.out m).alloc (by simp) _
  have c11 : ∀ m, ((w2.drewN m).alloc (.cells #[] 33)).cell? ⟨w.heap.size, 0, none⟩ = some (.int .i64 x.1) := fun m => ((B1.out m).cell (p := ⟨w.heap.size, 0, none⟩) hby).trans hy1
  have c12 : ∀ m, ((w2.drewN m).alloc (.cells #[] 33)).cell? ⟨w.heap.size, 1, none⟩ = some (.int .i64 x.2) := fun m => ((B1.out m).cell (p := ⟨w.heap.size, 1, none⟩) hby).trans hy2
  have X3 : Hid (∀ m, Reads (((w2.drewN m).alloc (.cells #[] 33)).alloc (.cells #[.int .i64 x.1, .int .i64 x.2] 33)) (w2.heap.size + 2) 2 (some ⟨w2.heap.size + 1, 0, none⟩) 1 [.int .i64 x.1, .int .i64 x.2]) := fun m => by
    have h := two_reads ((w2.drewN m).alloc (.cells #[] 33)) x.1 x.2 (w2.heap.size + 2) (by simp)
    rw [show ((w2.drewN m).alloc (.cells #[] 33)).heap.size = w2.heap.size + 1 by simp] at h
    exact h
  go_region_law (first
    | (refine step_append_any _ (by rfl) (.tmp 48) (.tmp 51) 22 (by rfl) w2.heap.size 33 i0 _ 2 16 Try.underlying22 hi hz0 hz1 hz2 rfl (by decide) (.slice (some ⟨w2.heap.size, 0, none⟩) 0 0) 0 [] (by rfl) (O1.out _) w.heap.size none 0 0 [] (by rfl) (RA.out _) (by simp) (by simp only [maxLen]; omega) (by omega) (by simp; try omega) ?_; intro va wa hoa hga hata; have OA := Lib.hid hoa; have BA : Hid (Below w2.heap.size w2 wa) := app_below (B1.out _) hga (by simp; try omega) (fun g e => by cases e; simp); have TA := Lib.hid (row_ge (B := w2.heap.size) hata (fun g e => by cases e; simp) (by simp; try omega)); have ya1 := (BA.out.cell (p := ⟨w.heap.size, 0, none⟩) hby).trans hy1; have ya2 := (BA.out.cell (p := ⟨w.heap.size, 1, none⟩) hby).trans hy2; have hya := Nat.lt_of_lt_of_le hby BA.out.size; clear hoa hga hata)
    | (refine step_append_any _ (by rfl) (.tmp 48) (.tmp 51) 22 (by rfl) w2.heap.size 33 i0 _ 2 16 Try.underlying22 hi hz0 hz1 hz2 rfl (by decide) (.slice (some ⟨w2.heap.size + 1, 0, none⟩) 0 0) 0 [] (by rfl) (O2.out _) w.heap.size none 0 0 [] (by rfl) (RA.out _) (by simp) (by simp only [maxLen]; omega) (by omega) (by simp; try omega) ?_; intro va wa hoa hga hata; have OA := Lib.hid hoa; have BA : Hid (Below w2.heap.size w2 wa) := app_below (B2.out _) hga (by simp; try omega) (fun g e => by cases e; simp); have TA := Lib.hid (row_ge (B := w2.heap.size) hata (fun g e => by cases e; simp) (by simp; try omega)); have ya1 := (BA.out.cell (p := ⟨w.heap.size, 0, none⟩) hby).trans hy1; have ya2 := (BA.out.cell (p := ⟨w.heap.size, 1, none⟩) hby).trans hy2; have hya := Nat.lt_of_lt_of_le hby BA.out.size; have RX := Lib.hid ((X2.out _).beside hga (by simp; try omega) (fun e => by have e2 : w2.heap.size + 1 = w2.heap.size := Option.some.inj e; omega)); clear hoa hga hata)
    | (refine step_append_any _ (by rfl) (.tmp 48) (.tmp 51) 22 (by rfl) w2.heap.size 33 i0 _ 2 16 Try.underlying22 hi hz0 hz1 hz2 rfl (by decide) (.slice (some ⟨w2.heap.size, 0, none⟩) 0 0) 0 [] (by rfl) (O3.out _) w.heap.size none 0 0 [] (by rfl) (RA.out _) (by simp) (by simp only [maxLen]; omega) (by omega) (by simp; try omega) ?_; intro va wa hoa hga hata; have OA := Lib.hid hoa; have BA : Hid (Below w2.heap.size w2 wa) := app_below (B3.out _) hga (by simp; try omega) (fun g e => by cases e; simp); have TA := Lib.hid (row_ge (B := w2.heap.size) hata (fun g e => by cases e; simp) (by simp; try omega)); have ya1 := (BA.out.cell (p := ⟨w.heap.size, 0, none⟩) hby).trans hy1; have ya2 := (BA.out.cell (p := ⟨w.heap.size, 1, none⟩) hby).trans hy2; have hya := Nat.lt_of_lt_of_le hby BA.out.size; have RX := Lib.hid ((X3.out _).beside hga (by simp; try omega) (fun e => by have e2 : w2.heap.size = w2.heap.size + 1 := Option.some.inj e; omega)); clear hoa hga hata)
    | (refine step_append_any _ (by rfl) (.tmp 52) (.tmp 54) 22 (by rfl) w2.heap.size 33 i0 _ 2 16 Try.underlying22 hi hz0 hz1 hz2 rfl (by decide) va _ _ (by rfl) OA.out _ _ 1 1 [.int .i64 x.1, .int .i64 x.2] (by rfl) RX.out (by simp [Value.oneCell']) (by simp only [maxLen]; omega) (by omega) (by have := BA.out.size; simp; try omega) ?_; intro vb wb hob hgb hatb; have OB := Lib.hid hob; have BB : Hid (Below w2.heap.size w2 wb) := app_below BA.out hgb (by have := BA.out.size; simp; try omega) TA.out; have TB := Lib.hid (row_ge (B := w2.heap.size) hatb TA.out (by have := BA.out.size; simp; try omega)); clear hob hgb hatb)
    | (refine step_append_any _ (by rfl) (.tmp 52) (.tmp 54) 22 (by rfl) w2.heap.size 33 i0 _ 2 16 Try.underlying22 hi hz0 hz1 hz2 rfl (by decide) va _ _ (by rfl) (OA.out.alloc _) _ _ 1 1 [.int .i64 x.1, .int .i64 x.2] (by rfl) (two_reads _ _ _ (wa.heap.size + 1) (by simp)) (by simp [Value.oneCell']) (by simp only [maxLen]; omega) (by omega) (by have := BA.out.size; simp; try omega) ?_; intro vb wb hob hgb hatb; have OB := Lib.hid hob; have BB : Hid (Below w2.heap.size w2 wb) := app_below (BA.out.alloc BA.out.size _) hgb (by have := BA.out.size; simp; try omega) TA.out; have TB := Lib.hid (row_ge (B := w2.heap.size) hatb TA.out (by have := BA.out.size; simp; try omega)); clear hob hgb hatb))
  all_goals
    go_wp2_with (at_builtin; refine wpList_append_any _ rfl (.tmp 56) (.tmp 59) 22 rfl w2.heap.size 33 i0 _ 2 16 Try.underlying22 hi hz0 hz1 hz2 rfl (by decide) vb _ _ rfl OB.out w.heap.size none 0 0 [] rfl (RA.out _) (by simp) (by simp only [maxLen]; omega) (by omega) BB.out.size ?_; intro vc wc hoc hgc hatc; have OC := Lib.hid hoc; have BC := Lib.hid (app_below BB.out hgc BB.out.size TB.out); clear hoc hgc hatc)
    go_ret2
    rw [HINS.out]
    exact ⟨_, rfl, (ins_own (l := []) (k := 0) (m := 0) rfl OC.out).more hszw, BW.out _ BC.out⟩
end Go.Proofs.Ytobipbedkkmlcaa.Sr
