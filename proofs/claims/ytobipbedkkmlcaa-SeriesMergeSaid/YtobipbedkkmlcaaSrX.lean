/- Layer 11: the reference's Insert, where it inserts. -/
import Derived.Test.YtobipbedkkmlcaaSrW
set_option linter.unusedVariables false
set_option linter.unusedSimpArgs false
namespace Go.Proofs.Ytobipbedkkmlcaa.Sr
open Go.RowKit
theorem ins_own {W : World} {B : Nat} {v : Value} {l : List S} {k m : Nat} {x : S} (hk : k + m = l.length) (h : W.ownsRow B 33 2 v (0 + k + 1 + m) ([] ++ (cellsL l).take (k * 2) ++ [.int .i64 x.1, .int .i64 x.2] ++ (cellsL l).drop (k * 2))) : OwnS W B v (l.take k ++ x :: l.drop k) := by
  unfold OwnS
  rw [cellsL_append, cellsL_cons, cellsL_take, cellsL_drop, List.length_append, List.length_cons, List.length_take, List.length_drop, show min k l.length + (l.length - k + 1) = 0 + k + 1 + m by omega]
  rw [List.append_assoc] at h
  exact h
theorem two_reads (w : World) (a b : Int) (B : Nat) (hB : w.heap.size < B) : Reads (w.alloc (.cells #[.int .i64 a, .int .i64 b] 33)) B 2 (some ⟨w.heap.size, 0, none⟩) 1 [.int .i64 a, .int .i64 b] := ⟨rfl, fun _ => ⟨_, rfl, hB, cell_two_new _ _ _ _⟩⟩
theorem Reads.beside {w w' : World} {B size n bx : Nat} {xs : List Value} {row : Option Nat} (h : Reads w B size (some ⟨bx, 0, none⟩) n xs) (hg : w.grownBy w' row) (hb : bx < w.heap.size) (hr : row ≠ some bx) : Reads w' B size (some ⟨bx, 0, none⟩) n xs :=
  ⟨h.1, fun hn => by
    obtain ⟨ad, e, hbb, hc⟩ := h.2 hn
    cases e
    refine ⟨_, rfl, hbb, fun j u hu => (World.cell?_of_block ?_).trans (hc j u hu)⟩
    rw [block_of_add]
    exact hg.block bx hb (fun e => hr e.symm)⟩
set_option maxHeartbeats 8000000 in
set_option maxRecDepth 100000 in
/-- Ahead of a sample of the list. -/
theorem refInsert_in (l : List S) (hl : l.length < 2000) (A : Option Addr) (c : Nat) (hcap : l.length ≤ c) (x : S) (w : World) (hA : LS w w.heap.size A l) (hc : chk 1 l = 0) (hx : okS x = true) (hnone : hit l x.1 = none) (hlt0 : plc l x.1 < l.length) :
    Calls Try.prog 22 #[.slice A l.length c, smpV x] w (OwnPost2 (insL l x, 0) w) := by
  have B0 : Hid (Below w.heap.size w (w.alloc (.cells #[.int .i64 x.1, .int .i64 x.2] 33))) := (Below.refl _ _).alloc (Nat.le_refl _) _
  have hA1 : LS (w.alloc (.cells #[.int .i64 x.1, .int .i64 x.2] 33)) (w.alloc (.cells #[.int .i64 x.1, .int .i64 x.2] 33)).heap.size A l := (hA.below B0.out).more (by simp)
  have gx1' : (w.alloc (.cells #[.int .i64 x.1, .int .i64 x.2] 33)).cell? ⟨w.heap.size, 0, none⟩ = some (.int .i64 x.1) := by go_simp
  have gx2' : (w.alloc (.cells #[.int .i64 x.1, .int .i64 x.2] 33)).cell? ⟨w.heap.size, 1, none⟩ = some (.int .i64 x.2) := by go_simp
  have C := Lib.hid (valid_any l (by omega) A c _ hA1)
  have CS := Lib.hid (sample_any x)
  have PP := Lib.hid fun w1 (hb : Below w.heap.size w w1) => place_any l (by omega) x.1 A c w.heap.size w1 (hA.below hb)
  have HA := Lib.hid hA
  clear hA hA1
  rw [decide_eq_true hc] at C
  rw [hx] at CS
  obtain ⟨k, hkk⟩ : ∃ k, plc l x.1 = k := ⟨_, rfl⟩
  have HINS : Hid (insL l x = l.take k ++ x :: l.drop k) := by unfold insL; rw [hkk]; exact rfl
  simp only [hkk] at PP
  have hlt : k < l.length := by omega
  have hne := (hit_none (chk_asc hc)).1 hnone l[k] (List.getElem_mem hlt)
  obtain ⟨b, off, rfl, hb, h1', h2'⟩ := HA.out.at_ hlt
  have HC : Hid (∀ w1, Below w.heap.size w w1 → w1.cell? ⟨b, off + k * 2, none⟩ = some (.int .i64 l[k].1)) := fun w1 h => (h.cell (p := ⟨b, off + k * 2, none⟩) hb).trans h1'
  have hki : (k : Int) < (l.length : Int) := by omega
  have hkd : decide (k < l.length) = true := decide_eq_true hlt
  have htb : (l[k].1 == x.1) = false := by simpa using hne
  obtain ⟨y, hy⟩ : ∃ y, l[k].1 = y := ⟨_, rfl⟩
  rw [hy] at HC htb
  have hsm : ¬ (2000 ≤ (l.length : Int)) := by omega
  have hkc : k ≤ c := by omega
  have hkn : ¬ c = k := by omega
  have hkl : k ≤ l.length := by omega
  have hki0 : 0 ≤ (k : Int) := by omega
  have hki1 : (k : Int) ≤ (l.length : Int) := by omega
  clear h1' h2' hkk hy hne hlt0 hc hx hnone
  obtain ⟨i0, hi, hz0, hz1, hz2⟩ := info_parts infoS
  have tk := Lib.hid (cellsL_one' l)
  have RA : Hid (∀ w1, Below w.heap.size w w1 → Reads w1 w.heap.size 2 (some ⟨b, off, none⟩) l.length (cellsL l)) := fun w1 h => HA.out.reads.below h
  have RD : Hid (∀ w1, Below w.heap.size w w1 → Reads w1 w.heap.size 2 (some ⟨b, off + k * 2, none⟩) (l.length - k) ((cellsL l).drop (k * 2))) := fun w1 h => by
    have h3 := ((RA.out w1 h).cut (k := k) (cap := c) (by omega) hcap)
    rw [Option.map_some, add_lit, if_neg hkn] at h3
    exact h3
  go_enter Try.func22, Try.ntmps22
  go_wp2_with (first | (go_at_call 28; (with_reducible refine C.out.mono ?_); rintro e w1 ⟨rfl, hb1⟩; have gx1 := (hb1.cell (p := ⟨w.heap.size, 0, none⟩) (by simp)).trans gx1'; have gx2 := (hb1.cell (p := ⟨w.heap.size, 1, none⟩) (by simp)).trans gx2'; have hbx := Nat.lt_of_lt_of_le (show w.heap.size < (w.alloc (.cells #[.int .i64 x.1, .int .i64 x.2] 33)).heap.size by simp) hb1.size; have HB1 := Lib.hid (B0.out.trans (hb1.mono (by simp))); clear hb1) | (go_at_call 35; (with_reducible refine (CS.out _).mono ?_); rintro e w2 ⟨rfl, hb2⟩; have hy1 := (hb2.cell (p := ⟨w.heap.size, 0, none⟩) hbx).trans gx1; have hy2 := (hb2.cell (p := ⟨w.heap.size, 1, none⟩) hbx).trans gx2; have hby := Nat.lt_of_lt_of_le hbx hb2.size; have HB2 := Lib.hid (HB1.out.trans (hb2.mono HB1.out.size)); clear hb2) | (go_at_call 41; (with_reducible refine (PP.out _ HB2.out).mono ?_); rintro e w3 ⟨rfl, rfl⟩))
  have k1 := HC.out _ HB2.out
  have hbw := Nat.lt_of_lt_of_le hb HB2.out.size
  have hszw := HB2.out.size
  go_quiet (fail)
  go_wp2
  have BW : Hid (∀ w1, Below w2.heap.size w2 w1 → Below w.heap.size w w1) := fun w1 h => HB2.out.trans (h.mono hszw)
  have O1 : Hid (∀ m, ((w2.drewN m).alloc (.cells #[] 33)).ownsRow w2.heap.size 33 2 (.slice (some ⟨w2.heap.size, 0, none⟩) 0 0) 0 []) := fun m => made_own (w := w2.drewN m) (Nat.le_refl _)
  have B1 : Hid (∀ m, Below w2.heap.size w2 ((w2.drewN m).alloc (.cells #[] 33))) := fun m => (below_drewN (Below.refl _ w2) m).alloc (Nat.le_refl _) _
  have O2 : Hid (∀ m, (((w2.drewN m).alloc (.cells #[.int .i64 x.1, .int .i64 x.2] 33)).alloc (.cells #[] 33)).ownsRow w2.heap.size 33 2 (.slice (some ⟨w2.heap.size + 1, 0, none⟩) 0 0) 0 []) := fun m => by
    have h := made_own (w := (w2.drewN m).alloc (.cells #[.int .i64 x.1, .int .i64 x.2] 33)) (B := w2.heap.size) (by simp)
    simp at h
    exact h
  have B2 : Hid (∀ m, Below w2.heap.size w2 (((w2.drewN m).alloc (.cells #[.int .i64 x.1, .int .i64 x.2] 33)).alloc (.cells #[] 33))) := fun m => ((below_drewN (Below.refl _ w2) m).alloc (Nat.le_refl _) _).alloc (by simp) _
  have X2 : Hid (∀ m, Reads (((w2.drewN m).alloc (.cells #[.int .i64 x.1, .int .i64 x.2] 33)).alloc (.cells #[] 33)) (w2.heap.size + 1) 2 (some ⟨w2.heap.size, 0, none⟩) 1 [.int .i64 x.1, .int .i64 x.2]) := fun m => (two_reads (w2.drewN m) x.1 x.2 (w2.heap.size + 1) (by simp)).alloc (by simp) _
  have O3 : Hid (∀ m, (((w2.drewN m).alloc (.cells #[] 33)).alloc (.cells #[.int .i64 x.1, .int .i64 x.2] 33)).ownsRow w2.heap.size 33 2 (.slice (some ⟨w2.heap.size, 0, none⟩) 0 0) 0 []) := fun m => (O1.out m).alloc _
  have B3 : Hid (∀ m, Below w2.heap.size w2 (((w2.drewN m).alloc (.cells #[] 33)).alloc (.cells #[.int .i64 x.1, .int .i64 x.2] 33))) := fun m => (B1.out m).alloc (by simp) _
  have c11 : ∀ m, ((w2.drewN m).alloc (.cells #[] 33)).cell? ⟨w.heap.size, 0, none⟩ = some (.int .i64 x.1) := fun m => ((B1.out m).cell (p := ⟨w.heap.size, 0, none⟩) hby).trans hy1
  have c12 : ∀ m, ((w2.drewN m).alloc (.cells #[] 33)).cell? ⟨w.heap.size, 1, none⟩ = some (.int .i64 x.2) := fun m => ((B1.out m).cell (p := ⟨w.heap.size, 1, none⟩) hby).trans hy2
  have X3 : Hid (∀ m, Reads (((w2.drewN m).alloc (.cells #[] 33)).alloc (.cells #[.int .i64 x.1, .int .i64 x.2] 33)) (w2.heap.size + 2) 2 (some ⟨w2.heap.size + 1, 0, none⟩) 1 [.int .i64 x.1, .int .i64 x.2]) := fun m => by
    have h := two_reads ((w2.drewN m).alloc (.cells #[] 33)) x.1 x.2 (w2.heap.size + 2) (by simp)
    rw [show ((w2.drewN m).alloc (.cells #[] 33)).heap.size = w2.heap.size + 1 by simp] at h
    exact h
  go_region_law (first
    | (refine step_append_any _ (by rfl) (.tmp 48) (.tmp 51) 22 (by rfl) w2.heap.size 33 i0 _ 2 16 Try.underlying22 hi hz0 hz1 hz2 rfl (by decide) (.slice (some ⟨w2.heap.size, 0, none⟩) 0 0) 0 [] (by rfl) (O1.out _) w.heap.size (some ⟨b, off, none⟩) k c _ (by rfl) ((RA.out _ (BW.out _ (B1.out _))).take hkl) (one_of tk.out _) (by simp only [maxLen]; omega) (by omega) (by simp; try omega) ?_; intro va wa hoa hga hata; have OA := Lib.hid hoa; have BA : Hid (Below w2.heap.size w2 wa) := app_below (B1.out _) hga (by simp; try omega) (fun g e => by cases e; simp); have TA := Lib.hid (row_ge (B := w2.heap.size) hata (fun g e => by cases e; simp) (by simp; try omega)); have ya1 := (BA.out.cell (p := ⟨w.heap.size, 0, none⟩) hby).trans hy1; have ya2 := (BA.out.cell (p := ⟨w.heap.size, 1, none⟩) hby).trans hy2; have hya := Nat.lt_of_lt_of_le hby BA.out.size; clear hoa hga hata)
    | (refine step_append_any _ (by rfl) (.tmp 48) (.tmp 51) 22 (by rfl) w2.heap.size 33 i0 _ 2 16 Try.underlying22 hi hz0 hz1 hz2 rfl (by decide) (.slice (some ⟨w2.heap.size + 1, 0, none⟩) 0 0) 0 [] (by rfl) (O2.out _) w.heap.size (some ⟨b, off, none⟩) k c _ (by rfl) ((RA.out _ (BW.out _ (B2.out _))).take hkl) (one_of tk.out _) (by simp only [maxLen]; omega) (by omega) (by simp; try omega) ?_; intro va wa hoa hga hata; have OA := Lib.hid hoa; have BA : Hid (Below w2.heap.size w2 wa) := app_below (B2.out _) hga (by simp; try omega) (fun g e => by cases e; simp); have TA := Lib.hid (row_ge (B := w2.heap.size) hata (fun g e => by cases e; simp) (by simp; try omega)); have ya1 := (BA.out.cell (p := ⟨w.heap.size, 0, none⟩) hby).trans hy1; have ya2 := (BA.out.cell (p := ⟨w.heap.size, 1, none⟩) hby).trans hy2; have hya := Nat.lt_of_lt_of_le hby BA.out.size; have RX := Lib.hid ((X2.out _).beside hga (by simp; try omega) (fun e => by have e2 : w2.heap.size + 1 = w2.heap.size := Option.some.inj e; omega)); clear hoa hga hata)
    | (refine step_append_any _ (by rfl) (.tmp 48) (.tmp 51) 22 (by rfl) w2.heap.size 33 i0 _ 2 16 Try.underlying22 hi hz0 hz1 hz2 rfl (by decide) (.slice (some ⟨w2.heap.size, 0, none⟩) 0 0) 0 [] (by rfl) (O3.out _) w.heap.size (some ⟨b, off, none⟩) k c _ (by rfl) ((RA.out _ (BW.out _ (B3.out _))).take hkl) (one_of tk.out _) (by simp only [maxLen]; omega) (by omega) (by simp; try omega) ?_; intro va wa hoa hga hata; have OA := Lib.hid hoa; have BA : Hid (Below w2.heap.size w2 wa) := app_below (B3.out _) hga (by simp; try omega) (fun g e => by cases e; simp); have TA := Lib.hid (row_ge (B := w2.heap.size) hata (fun g e => by cases e; simp) (by simp; try omega)); have ya1 := (BA.out.cell (p := ⟨w.heap.size, 0, none⟩) hby).trans hy1; have ya2 := (BA.out.cell (p := ⟨w.heap.size, 1, none⟩) hby).trans hy2; have hya := Nat.lt_of_lt_of_le hby BA.out.size; have RX := Lib.hid ((X3.out _).beside hga (by simp; try omega) (fun e => by have e2 : w2.heap.size = w2.heap.size + 1 := Option.some.inj e; omega)); clear hoa hga hata)
    | (refine step_append_any _ (by rfl) (.tmp 52) (.tmp 54) 22 (by rfl) w2.heap.size 33 i0 _ 2 16 Try.underlying22 hi hz0 hz1 hz2 rfl (by decide) va _ _ (by rfl) OA.out _ _ 1 1 [.int .i64 x.1, .int .i64 x.2] (by rfl) RX.out (by simp [Value.oneCell']) (by simp only [maxLen]; omega) (by omega) (by have := BA.out.size; simp; try omega) ?_; intro vb wb hob hgb hatb; have OB := Lib.hid hob; have BB : Hid (Below w2.heap.size w2 wb) := app_below BA.out hgb (by have := BA.out.size; simp; try omega) TA.out; have TB := Lib.hid (row_ge (B := w2.heap.size) hatb TA.out (by have := BA.out.size; simp; try omega)); clear hob hgb hatb)
    | (refine step_append_any _ (by rfl) (.tmp 52) (.tmp 54) 22 (by rfl) w2.heap.size 33 i0 _ 2 16 Try.underlying22 hi hz0 hz1 hz2 rfl (by decide) va _ _ (by rfl) (OA.out.alloc _) _ _ 1 1 [.int .i64 x.1, .int .i64 x.2] (by rfl) (two_reads _ _ _ (wa.heap.size + 1) (by simp)) (by simp [Value.oneCell']) (by simp only [maxLen]; omega) (by omega) (by have := BA.out.size; simp; try omega) ?_; intro vb wb hob hgb hatb; have OB := Lib.hid hob; have BB : Hid (Below w2.heap.size w2 wb) := app_below (BA.out.alloc BA.out.size _) hgb (by have := BA.out.size; simp; try omega) TA.out; have TB := Lib.hid (row_ge (B := w2.heap.size) hatb TA.out (by have := BA.out.size; simp; try omega)); clear hob hgb hatb))
  all_goals
    go_wp2_with (at_builtin; refine wpList_append_any _ rfl (.tmp 56) (.tmp 59) 22 rfl w2.heap.size 33 i0 _ 2 16 Try.underlying22 hi hz0 hz1 hz2 rfl (by decide) vb _ _ rfl OB.out w.heap.size (some ⟨b, off + k * 2, none⟩) (l.length - k) _ _ rfl (RD.out _ (BW.out _ BB.out)) (one_ofd tk.out _) (by simp only [maxLen]; omega) (by omega) BB.out.size ?_; intro vc wc hoc hgc hatc; have OC := Lib.hid hoc; have BC := Lib.hid (app_below BB.out hgc BB.out.size TB.out); clear hoc hgc hatc)
    go_ret2
    rw [HINS.out]
    exact ⟨_, rfl, (ins_own (by omega) OC.out).more hszw, BW.out _ BC.out⟩
end Go.Proofs.Ytobipbedkkmlcaa.Sr
