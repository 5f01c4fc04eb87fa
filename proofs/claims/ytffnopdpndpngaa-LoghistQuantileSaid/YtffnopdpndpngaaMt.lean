/- Layer 12: the program's Add. -/
import Derived.Test.YtffnopdpndpngaaMs
set_option linter.unusedVariables false
set_option linter.unusedSimpArgs false
namespace Go.Proofs.Ytffnopdpndpngaa.Lh
open Go.RowKit
set_option maxHeartbeats 4000000 in
theorem pAdd_any (p c s mn mx v n : Int) (l : List B) (hlen : l.length ≤ 140737488355328) (hs : inI s) (hmn : inI mn) (hmx : inI mx) (A : Option Addr) (k : Nat) (w : World) (hL : LS w w.heap.size A l) :
    Calls Try.prog 21 #[hV p c s mn mx A l.length k, .int .i64 v, .int .i64 n] w (HOut w (addO ⟨p, c, s, mn, mx, l⟩ v n)) := by
  obtain ⟨W1, hW1⟩ : ∃ W1, W1 = (w.alloc (.cells #[.int .i64 p, .int .i64 c, .int .i64 s, .int .i64 mn, .int .i64 mx, .slice A l.length k] 29)).alloc (.cells #[.int .i64 0, .int .i64 0, .int .i64 0, .int .i64 0, .int .i64 0, .slice none 0 0] 29) := ⟨_, rfl⟩
  have B0 : Hid (Below w.heap.size w W1) := by show Below _ _ _; rw [hW1]; exact ((Below.refl _ w).alloc (Nat.le_refl _) _).alloc (by simp) _
  have C0 : Hid (HC W1 w.heap.size p c s mn mx A l.length k) := by
    show HC _ _ _ _ _ _ _ _ _ _
    rw [hW1]
    exact (HC.new w 29 p c s mn mx A l.length k).keep (Nat.lt_succ_self _) ((Below.refl _ _).alloc (by simp) _)
  have Z0 : Hid (W1.heap.size = w.heap.size + 2) := by show _ = _; rw [hW1]; simp
  have R0 : Hid (W1.heap[w.heap.size + 1]? = some (.cells #[.int .i64 0, .int .i64 0, .int .i64 0, .int .i64 0, .int .i64 0, .slice none 0 0] 29 (0, 0))) := by
    show _ = _
    rw [hW1]
    have h := heap_alloc_new (w.alloc (.cells #[.int .i64 p, .int .i64 c, .int .i64 s, .int .i64 mn, .int .i64 mx, .slice A l.length k] 29)) (.cells #[.int .i64 0, .int .i64 0, .int .i64 0, .int .i64 0, .int .i64 0, .slice none 0 0] 29)
    simpa only [World.size_alloc] using h
  have HW1 := Lib.hid hW1.symm
  have HB : Hid (Below (w.heap.size + 2) W1 W1) := Below.refl _ _
  clear hW1
  have BB : Hid (∀ V', Below (w.heap.size + 2) W1 V' → Below w.heap.size w V') := Lib.hid fun V' h => B0.out.trans (h.mono (by omega))
  have LL : Hid (∀ V', Below (w.heap.size + 2) W1 V' → LS V' V'.heap.size A l) := Lib.hid fun V' h => ((hL.below B0.out).below (h.mono (by omega))).more (by have h1 := h.size; have h2 := Z0.out; omega)
  have CK : Hid (∀ V', Below (w.heap.size + 2) W1 V' → Calls Try.prog 25 #[hV p c s mn mx A l.length k] V' fun e w' => e = .returned (.int .i64 (chk ⟨p, c, s, mn, mx, l⟩ : Nat)) ∧ Below V'.heap.size V' w') := Lib.hid fun V' h => pCheck_any p c s mn mx l hlen hmn hmx A k V' (LL.out V' h)
  have IX := Lib.hid (fun w => pIndex_any p v w)
  by_cases h1 : chk ⟨p, c, s, mn, mx, l⟩ ≠ 0
  · have HE : Hid (addO ⟨p, c, s, mn, mx, l⟩ v n = (zeroH, 1)) := if_pos h1
    have h1b : ((chk ⟨p, c, s, mn, mx, l⟩ : Nat) : Int) ≠ 0 := by omega
    have h1c : (((chk ⟨p, c, s, mn, mx, l⟩ : Nat) : Int) != 0) = true := by simpa using h1
    have h1d : (chk ⟨p, c, s, mn, mx, l⟩ != 0) = true := by simpa using h1
    generalize chk ⟨p, c, s, mn, mx, l⟩ = zz at *
    go_enter Try.func21, Try.ntmps21
    go_wp2_with (go_at_call 25; rw [HW1.out]; (with_reducible refine (CK.out _ HB.out).mono ?_); rintro e w2 ⟨rfl, hb⟩; have HB2 := Lib.hid (HB.out.trans (hb.mono (by have h2 := Z0.out; omega))); have HR2 := Lib.hid ((HB2.out.block (w.heap.size + 1) (by omega)).trans R0.out); obtain ⟨r0, r1, r2, r3, r4, r5⟩ := hist_cells HR2.out; have rf0 := row_free HR2.out 0; have rf1 := row_free HR2.out 1; have rf2 := row_free HR2.out 2; have rf3 := row_free HR2.out 3; have rf4 := row_free HR2.out 4; have rf5 := row_free HR2.out 5; clear hb)
    obtain ⟨z0, z1, z2, z3, z4, z5⟩ := hist_cells (six_heap HR2.out (.int .i64 0) (.int .i64 0) (.int .i64 0) (.int .i64 0) (.int .i64 0) (.slice none 0 0))
    refine bodyPost_ret (v := .tuple #[hV 0 0 0 0 0 none 0 0, .int .i64 1]) (by simp [results, Try.f21, go_sem, z0, z1, z2, z3, z4, z5]) rfl ?_
    rw [HE.out]
    exact HOut.zero 1 (six_below (BB.out _ HB2.out) (Nat.le_succ _) _ _ _ _ _ _)
  have h1 : chk ⟨p, c, s, mn, mx, l⟩ = 0 := by omega
  have ok := chk_iff.1 h1
  rw [h1] at CK
  have hp0 : 0 ≤ p := ok.p0
  have hp8 : p ≤ 8 := ok.p8
  by_cases hv : v < 0 ∨ 1099511627776 < v
  · have HE : Hid (addO ⟨p, c, s, mn, mx, l⟩ v n = (zeroH, 2)) := by show _ = _; unfold addO; rw [if_neg (by omega), if_pos (by omega)]
    have he : idxOut p v = .tuple #[.int .i64 0, .int .i64 2] := if_pos (by omega)
    rw [he] at IX
    clear ok h1 he
    go_enter Try.func21, Try.ntmps21
    go_wp2_with (first | (go_at_call 25; rw [HW1.out]; (with_reducible refine (CK.out _ HB.out).mono ?_); rintro e w2 ⟨rfl, hb⟩; have HB2 := Lib.hid (HB.out.trans (hb.mono (by have h2 := Z0.out; omega))); obtain ⟨m0, m1, m2, m3, m4, m5⟩ := C0.out.keep (N := w.heap.size + 2) (by omega) HB2.out; clear hb) | (go_at_call 12; (with_reducible refine (IX.out _).mono ?_); rintro e w3 ⟨rfl, hb⟩; have hs2 := HB2.out.size; have HB3 := Lib.hid (HB2.out.trans (hb.mono (by have h2 := Z0.out; omega))); have HR2 := Lib.hid ((HB3.out.block (w.heap.size + 1) (by omega)).trans R0.out); obtain ⟨r0, r1, r2, r3, r4, r5⟩ := hist_cells HR2.out; have rf0 := row_free HR2.out 0; have rf1 := row_free HR2.out 1; have rf2 := row_free HR2.out 2; have rf3 := row_free HR2.out 3; have rf4 := row_free HR2.out 4; have rf5 := row_free HR2.out 5; clear hb hs2))
    obtain ⟨z0, z1, z2, z3, z4, z5⟩ := hist_cells (six_heap HR2.out (.int .i64 0) (.int .i64 0) (.int .i64 0) (.int .i64 0) (.int .i64 0) (.slice none 0 0))
    refine bodyPost_ret (v := .tuple #[hV 0 0 0 0 0 none 0 0, .int .i64 2]) (by simp [results, Try.f21, go_sem, z0, z1, z2, z3, z4, z5]) rfl ?_
    rw [HE.out]
    exact HOut.zero 2 (six_below (BB.out _ HB3.out) (Nat.le_succ _) _ _ _ _ _ _)
  have he : idxOut p v = .tuple #[.int .i64 (ixI p v), .int .i64 0] := if_neg (by omega)
  rw [he] at IX
  clear he
  by_cases hn : n < 0
  · have HE : Hid (addO ⟨p, c, s, mn, mx, l⟩ v n = (zeroH, 2)) := by show _ = _; unfold addO; rw [if_neg (by omega), if_pos (by omega)]
    clear ok h1
    go_enter Try.func21, Try.ntmps21
    go_wp2_with (first | (go_at_call 25; rw [HW1.out]; (with_reducible refine (CK.out _ HB.out).mono ?_); rintro e w2 ⟨rfl, hb⟩; have HB2 := Lib.hid (HB.out.trans (hb.mono (by have h2 := Z0.out; omega))); obtain ⟨m0, m1, m2, m3, m4, m5⟩ := C0.out.keep (N := w.heap.size + 2) (by omega) HB2.out; clear hb) | (go_at_call 12; (with_reducible refine (IX.out _).mono ?_); rintro e w3 ⟨rfl, hb⟩; have hs2 := HB2.out.size; have HB3 := Lib.hid (HB2.out.trans (hb.mono (by have h2 := Z0.out; omega))); have HR2 := Lib.hid ((HB3.out.block (w.heap.size + 1) (by omega)).trans R0.out); obtain ⟨r0, r1, r2, r3, r4, r5⟩ := hist_cells HR2.out; have rf0 := row_free HR2.out 0; have rf1 := row_free HR2.out 1; have rf2 := row_free HR2.out 2; have rf3 := row_free HR2.out 3; have rf4 := row_free HR2.out 4; have rf5 := row_free HR2.out 5; clear hb hs2))
    obtain ⟨z0, z1, z2, z3, z4, z5⟩ := hist_cells (six_heap HR2.out (.int .i64 0) (.int .i64 0) (.int .i64 0) (.int .i64 0) (.int .i64 0) (.slice none 0 0))
    refine bodyPost_ret (v := .tuple #[hV 0 0 0 0 0 none 0 0, .int .i64 2]) (by simp [results, Try.f21, go_sem, z0, z1, z2, z3, z4, z5]) rfl ?_
    rw [HE.out]
    exact HOut.zero 2 (six_below (BB.out _ HB3.out) (Nat.le_succ _) _ _ _ _ _ _)
  by_cases hn2 : 1048576 < n
  · have HE : Hid (addO ⟨p, c, s, mn, mx, l⟩ v n = (zeroH, 4)) := by show _ = _; unfold addO; rw [if_neg (by omega), if_neg (by omega), if_pos hn2]
    clear ok h1
    go_enter Try.func21, Try.ntmps21
    go_wp2_with (first | (go_at_call 25; rw [HW1.out]; (with_reducible refine (CK.out _ HB.out).mono ?_); rintro e w2 ⟨rfl, hb⟩; have HB2 := Lib.hid (HB.out.trans (hb.mono (by have h2 := Z0.out; omega))); obtain ⟨m0, m1, m2, m3, m4, m5⟩ := C0.out.keep (N := w.heap.size + 2) (by omega) HB2.out; clear hb) | (go_at_call 12; (with_reducible refine (IX.out _).mono ?_); rintro e w3 ⟨rfl, hb⟩; have hs2 := HB2.out.size; have HB3 := Lib.hid (HB2.out.trans (hb.mono (by have h2 := Z0.out; omega))); have HR2 := Lib.hid ((HB3.out.block (w.heap.size + 1) (by omega)).trans R0.out); obtain ⟨r0, r1, r2, r3, r4, r5⟩ := hist_cells HR2.out; have rf0 := row_free HR2.out 0; have rf1 := row_free HR2.out 1; have rf2 := row_free HR2.out 2; have rf3 := row_free HR2.out 3; have rf4 := row_free HR2.out 4; have rf5 := row_free HR2.out 5; clear hb hs2))
    obtain ⟨z0, z1, z2, z3, z4, z5⟩ := hist_cells (six_heap HR2.out (.int .i64 0) (.int .i64 0) (.int .i64 0) (.int .i64 0) (.int .i64 0) (.slice none 0 0))
    refine bodyPost_ret (v := .tuple #[hV 0 0 0 0 0 none 0 0, .int .i64 4]) (by simp [results, Try.f21, go_sem, z0, z1, z2, z3, z4, z5]) rfl ?_
    rw [HE.out]
    exact HOut.zero 4 (six_below (BB.out _ HB3.out) (Nat.le_succ _) _ _ _ _ _ _)
  by_cases hn0 : n = 0
  · subst hn0
    have HE : Hid (addO ⟨p, c, s, mn, mx, l⟩ v 0 = (⟨p, c, s, mn, mx, l⟩, 0)) := by show _ = _; unfold addO; rw [if_neg (by omega), if_neg (by omega), if_neg (by omega), if_pos rfl]
    have hj := join_red ok hp0 (Int.le_refl p)
    rw [show redH ⟨p, c, s, mn, mx, l⟩ p = ⟨p, c, s, mn, mx, l⟩ from red_same ok] at hj
    have nok := newH_ok hp0 hp8
    have J0 : Hid (∀ V', Below (w.heap.size + 2) W1 V' → Calls Try.prog 42 #[hV p c s mn mx A l.length k, hV p 0 0 0 0 none 0 0] V' fun e w' => ∃ A2 c2, e = .returned (.tuple #[hV p c s mn mx A2 l.length c2, .int .i64 0]) ∧ LS w' w'.heap.size A2 l ∧ (l ≠ [] → ∃ b o, A2 = some ⟨b, o, none⟩ ∧ V'.heap.size ≤ b) ∧ Below V'.heap.size V' w') := Lib.hid fun V' h => by
      have C := joined_any ⟨p, c, s, mn, mx, l⟩ (newH p) ok nok hs (by show inI 0; unfold inI; omega) (by show inI (s + 0); rw [Int.add_zero]; exact hs) A none k 0 V' (LL.out V' h) (LS.nil _ _ _)
      rw [hj] at C
      exact C
    clear hj nok ok h1
    go_enter Try.func21, Try.ntmps21
    go_wp2_with (go_at_call 25; rw [HW1.out]; (with_reducible refine (CK.out _ HB.out).mono ?_); rintro e w2 ⟨rfl, hb⟩; have HB2 := Lib.hid (HB.out.trans (hb.mono (by have h2 := Z0.out; omega))); obtain ⟨m0, m1, m2, m3, m4, m5⟩ := C0.out.keep (N := w.heap.size + 2) (by omega) HB2.out; clear hb)
    go_at_call 12
    with_reducible refine (IX.out _).mono ?_
    rintro e w3 ⟨rfl, hb⟩
    have hs2 := HB2.out.size
    have HB3 := Lib.hid (HB2.out.trans (hb.mono (by have h2 := Z0.out; omega)))
    clear m0 m1 m2 m3 m4 m5
    obtain ⟨m0, m1, m2, m3, m4, m5⟩ := C0.out.keep (N := w.heap.size + 2) (by omega) HB3.out
    have hlt3 : w.heap.size < w3.heap.size := by
      have h2 := Z0.out
      have h3 := HB3.out.size
      omega
    clear hb hs2
    go_wp2_with fail
    with_reducible refine (J0.out _ (HB3.out.alloc (by have h2 := Z0.out; have h3 := HB3.out.size; omega) _)).mono ?_
    rintro e w4 ⟨A2, c2, rfl, hLS, hge, hb⟩
    have HG3 := Lib.hid (And.intro hLS hge)
    have HB4 := Lib.hid ((HB3.out.alloc (by have h2 := Z0.out; have h3 := HB3.out.size; omega) _).trans (hb.mono (by have h2 := Z0.out; have h3 := HB3.out.size; simp; omega)))
    have HR3 := Lib.hid ((HB4.out.block (w.heap.size + 1) (by omega)).trans R0.out)
    obtain ⟨r0, r1, r2, r3, r4, r5⟩ := hist_cells HR3.out
    have rf0 := row_free HR3.out 0
    have rf1 := row_free HR3.out 1
    have rf2 := row_free HR3.out 2
    have rf3 := row_free HR3.out 3
    have rf4 := row_free HR3.out 4
    have rf5 := row_free HR3.out 5
    clear hb hLS hge m0 m1 m2 m3 m4 m5
    go_wp2_with fail
    obtain ⟨z0, z1, z2, z3, z4, z5⟩ := hist_cells (six_heap HR3.out (.int .i64 p) (.int .i64 c) (.int .i64 s) (.int .i64 mn) (.int .i64 mx) (.slice A2 l.length c2))
    refine bodyPost_ret (v := .tuple #[hV p c s mn mx A2 l.length c2, .int .i64 0]) (by simp [results, Try.f21, go_sem, z0, z1, z2, z3, z4, z5]) rfl ?_
    rw [HE.out]
    refine ⟨A2, c2, rfl, ls_past (r := w.heap.size + 1) HG3.out.1 (fun hne => ?_) (fun q hq => six_other hq _ _ _ _ _ _) (by simp), fun hne => ?_, six_below (BB.out _ HB4.out) (Nat.le_succ _) _ _ _ _ _ _⟩
    · obtain ⟨b, o, e, g⟩ := HG3.out.2 hne
      exact ⟨b, o, e, by have h2 := Z0.out; have h3 := HB3.out.size; simp only [World.size_alloc] at g; omega⟩
    · obtain ⟨b, o, e, g⟩ := HG3.out.2 hne
      exact ⟨b, o, e, by have h2 := Z0.out; have h3 := HB3.out.size; simp only [World.size_alloc] at g; omega⟩
  have hn1 : 1 ≤ n := by omega
  have hn3 : n ≤ 1048576 := by omega
  have hv1 : 0 ≤ v ∧ v ≤ 1099511627776 := by omega
  have hnv : 0 ≤ n * v ∧ n * v ≤ 1152921504606846976 := by
    have h1 := Int.mul_nonneg (show 0 ≤ n by omega) hv1.1
    have h2 : n * v ≤ 1048576 * 1099511627776 := Int.mul_le_mul hn3 hv1.2 hv1.1 (by omega)
    omega
  have hj := join_add ok hv1 hn1 hn3
  have ok2 := oneH_ok (p := p) ⟨hp0, hp8⟩ hv1 hn1 hn3
  have q1 := ok.sum
  dsimp only at q1
  have ha : addO ⟨p, c, s, mn, mx, l⟩ v n = limH (addH ⟨p, c, s, mn, mx, l⟩ v n) := by unfold addO; rw [if_neg (by omega), if_neg (by omega), if_neg (by omega), if_neg (by omega)]
  obtain ⟨G, g, hG⟩ : ∃ G g, (G, g) = addO ⟨p, c, s, mn, mx, l⟩ v n := ⟨_, _, rfl⟩
  have HE : Hid (addO ⟨p, c, s, mn, mx, l⟩ v n = (G, g)) := hG.symm
  rw [← ha, ← hG] at hj
  have J0 : Hid (∀ V' b, Below (w.heap.size + 2) W1 V' → LS V' V'.heap.size (some ⟨b, 0, none⟩) [(ixI p v, n)] → Calls Try.prog 42 #[hV p c s mn mx A l.length k, hV p n (n * v) v v (some ⟨b, 0, none⟩) 1 1] V' fun e w' => ∃ A3 c3, e = .returned (.tuple #[hV G.p G.c G.s G.mn G.mx A3 G.bs.length c3, .int .i64 (g : Nat)]) ∧ LS w' w'.heap.size A3 G.bs ∧ (G.bs ≠ [] → ∃ b o, A3 = some ⟨b, o, none⟩ ∧ V'.heap.size ≤ b) ∧ Below V'.heap.size V' w') := Lib.hid fun V' b h hb => by
    have C := joined_any ⟨p, c, s, mn, mx, l⟩ (oneH p v n) ok ok2 hs (by show inI (n * v); unfold inI; omega) (by show inI (s + n * v); unfold inI; omega) A (some ⟨b, 0, none⟩) k 1 V' (LL.out V' h) hb
    rw [hj] at C
    exact C
  have hw1 : wrap64 (n * v) = n * v := wrap_in (by omega)
  clear hj ok2 ok q1 ha hG h1
  generalize ixI p v = i at *
  go_enter Try.func21, Try.ntmps21
  go_wp2_with (go_at_call 25; rw [HW1.out]; (with_reducible refine (CK.out _ HB.out).mono ?_); rintro e w2 ⟨rfl, hb⟩; have HB2 := Lib.hid (HB.out.trans (hb.mono (by have h2 := Z0.out; omega))); obtain ⟨m0, m1, m2, m3, m4, m5⟩ := C0.out.keep (N := w.heap.size + 2) (by omega) HB2.out; clear hb)
  go_at_call 12
  with_reducible refine (IX.out _).mono ?_
  rintro e w3 ⟨rfl, hb⟩
  have hs2 := HB2.out.size
  have HB3 := Lib.hid (HB2.out.trans (hb.mono (by have h2 := Z0.out; omega)))
  clear m0 m1 m2 m3 m4 m5
  obtain ⟨m0, m1, m2, m3, m4, m5⟩ := C0.out.keep (N := w.heap.size + 2) (by omega) HB3.out
  have hlt3 : w.heap.size < w3.heap.size := by
    have h2 := Z0.out
    have h3 := HB3.out.size
    omega
  clear hb hs2
  go_wp2_with fail
  have hb3 := HB3.out.size
  have hz1 := Z0.out
  have BX : Below (w.heap.size + 2) W1 ((w3.alloc (.cells #[.int .i64 p, .int .i64 n, .int .i64 (n * v), .int .i64 v, .int .i64 v, .slice (some ⟨w3.heap.size + 1, 0, none⟩) 1 1] 29)).alloc (.cells #[.int .i64 i, .int .i64 n] 65)) := (HB3.out.alloc (by omega) _).alloc (by simp; omega) _
  have LX : LS ((w3.alloc (.cells #[.int .i64 p, .int .i64 n, .int .i64 (n * v), .int .i64 v, .int .i64 v, .slice (some ⟨w3.heap.size + 1, 0, none⟩) 1 1] 29)).alloc (.cells #[.int .i64 i, .int .i64 n] 65)) ((w3.alloc (.cells #[.int .i64 p, .int .i64 n, .int .i64 (n * v), .int .i64 v, .int .i64 v, .slice (some ⟨w3.heap.size + 1, 0, none⟩) 1 1] 29)).alloc (.cells #[.int .i64 i, .int .i64 n] 65)).heap.size (some ⟨w3.heap.size + 1, 0, none⟩) [(i, n)] := fun _ => ⟨w3.heap.size + 1, 0, rfl, by simp, fun j hj => by
    match j, hj with
    | 0, _ => exact ⟨by simp, by simp⟩⟩
  have SX : w3.heap.size ≤ ((w3.alloc (.cells #[.int .i64 p, .int .i64 n, .int .i64 (n * v), .int .i64 v, .int .i64 v, .slice (some ⟨w3.heap.size + 1, 0, none⟩) 1 1] 29)).alloc (.cells #[.int .i64 i, .int .i64 n] 65)).heap.size := by simp; omega
  generalize ((w3.alloc (.cells #[.int .i64 p, .int .i64 n, .int .i64 (n * v), .int .i64 v, .int .i64 v, .slice (some ⟨w3.heap.size + 1, 0, none⟩) 1 1] 29)).alloc (.cells #[.int .i64 i, .int .i64 n] 65)) = WX at *
  with_reducible refine (J0.out _ _ BX LX).mono ?_
  rintro e w4 ⟨A3, c3, rfl, hLS, hge, hb⟩
  have HG3 := Lib.hid (And.intro hLS hge)
  have hwx := BX.size
  have HB4 := Lib.hid (BX.trans (hb.mono (by omega)))
  have HR3 := Lib.hid ((HB4.out.block (w.heap.size + 1) (by omega)).trans R0.out)
  obtain ⟨r0, r1, r2, r3, r4, r5⟩ := hist_cells HR3.out
  have rf0 := row_free HR3.out 0
  have rf1 := row_free HR3.out 1
  have rf2 := row_free HR3.out 2
  have rf3 := row_free HR3.out 3
  have rf4 := row_free HR3.out 4
  have rf5 := row_free HR3.out 5
  clear hb hLS hge m0 m1 m2 m3 m4 m5 LX BX
  go_wp2_with fail
  obtain ⟨z0, z1, z2, z3, z4, z5⟩ := hist_cells (six_heap HR3.out (.int .i64 G.p) (.int .i64 G.c) (.int .i64 G.s) (.int .i64 G.mn) (.int .i64 G.mx) (.slice A3 G.bs.length c3))
  refine bodyPost_ret (v := .tuple #[hV G.p G.c G.s G.mn G.mx A3 G.bs.length c3, .int .i64 (g : Nat)]) (by simp [results, Try.f21, go_sem, z0, z1, z2, z3, z4, z5]) rfl ?_
  rw [HE.out]
  refine ⟨A3, c3, rfl, ls_past (r := w.heap.size + 1) HG3.out.1 (fun hne => ?_) (fun q hq => six_other hq _ _ _ _ _ _) (by simp), fun hne => ?_, six_below (BB.out _ HB4.out) (Nat.le_succ _) _ _ _ _ _ _⟩
  · obtain ⟨b, o, e, g⟩ := HG3.out.2 hne
    exact ⟨b, o, e, by omega⟩
  · obtain ⟨b, o, e, g⟩ := HG3.out.2 hne
    exact ⟨b, o, e, by omega⟩
end Go.Proofs.Ytffnopdpndpngaa.Lh
