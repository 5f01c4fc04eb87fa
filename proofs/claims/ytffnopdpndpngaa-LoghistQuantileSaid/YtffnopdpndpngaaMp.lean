/- Layer 12: the program's Merge. -/
import Derived.Test.YtffnopdpndpngaaMo
set_option linter.unusedVariables false
set_option linter.unusedSimpArgs false
namespace Go.Proofs.Ytffnopdpndpngaa.Lh
open Go.RowKit
set_option maxHeartbeats 4000000 in
theorem pMerge_any (p1 c1 s1 n1 m1 : Int) (p2 c2 s2 n2 m2 : Int) (l1 l2 : List B) (hlen1 : l1.length ≤ 140737488355328) (hlen2 : l2.length ≤ 140737488355328) (hn1 : inI n1) (hm1 : inI m1) (hn2 : inI n2) (hm2 : inI m2) (A1 A2 : Option Addr) (k1 k2 : Nat) (w : World) (hL1 : LS w w.heap.size A1 l1) (hL2 : LS w w.heap.size A2 l2) :
    Calls Try.prog 27 #[hV p1 c1 s1 n1 m1 A1 l1.length k1, hV p2 c2 s2 n2 m2 A2 l2.length k2] w (HOut w (mrgO ⟨p1, c1, s1, n1, m1, l1⟩ ⟨p2, c2, s2, n2, m2, l2⟩)) := by
  obtain ⟨W1, hW1⟩ : ∃ W1, W1 = ((w.alloc (.cells #[.int .i64 p1, .int .i64 c1, .int .i64 s1, .int .i64 n1, .int .i64 m1, .slice A1 l1.length k1] 29)).alloc (.cells #[.int .i64 p2, .int .i64 c2, .int .i64 s2, .int .i64 n2, .int .i64 m2, .slice A2 l2.length k2] 29)).alloc (.cells #[.int .i64 0, .int .i64 0, .int .i64 0, .int .i64 0, .int .i64 0, .slice none 0 0] 29) := ⟨_, rfl⟩
  have B0 : Hid (Below w.heap.size w W1) := by show Below _ _ _; rw [hW1]; exact (((Below.refl _ w).alloc (Nat.le_refl _) _).alloc (by simp) _).alloc (by simp; omega) _
  have C0 : Hid (HC W1 w.heap.size p1 c1 s1 n1 m1 A1 l1.length k1) := by
    show HC _ _ _ _ _ _ _ _ _ _
    rw [hW1]
    exact (HC.new w 29 p1 c1 s1 n1 m1 A1 l1.length k1).keep (Nat.lt_succ_self _) (((Below.refl _ _).alloc (by simp) _).alloc (by simp) _)
  have D0 : Hid (HC W1 (w.heap.size + 1) p2 c2 s2 n2 m2 A2 l2.length k2) := by
    show HC _ _ _ _ _ _ _ _ _ _
    rw [hW1]
    have h := HC.new (w.alloc (.cells #[.int .i64 p1, .int .i64 c1, .int .i64 s1, .int .i64 n1, .int .i64 m1, .slice A1 l1.length k1] 29)) 29 p2 c2 s2 n2 m2 A2 l2.length k2
    rw [World.size_alloc] at h
    exact h.keep (N := w.heap.size + 2) (by omega) ((Below.refl _ _).alloc (by simp) _)
  have Z0 : Hid (W1.heap.size = w.heap.size + 3) := by show _ = _; rw [hW1]; simp
  have R0 : Hid (W1.heap[w.heap.size + 1 + 1]? = some (.cells #[.int .i64 0, .int .i64 0, .int .i64 0, .int .i64 0, .int .i64 0, .slice none 0 0] 29 (0, 0))) := by
    show _ = _
    rw [hW1]
    have h := heap_alloc_new ((w.alloc (.cells #[.int .i64 p1, .int .i64 c1, .int .i64 s1, .int .i64 n1, .int .i64 m1, .slice A1 l1.length k1] 29)).alloc (.cells #[.int .i64 p2, .int .i64 c2, .int .i64 s2, .int .i64 n2, .int .i64 m2, .slice A2 l2.length k2] 29)) (.cells #[.int .i64 0, .int .i64 0, .int .i64 0, .int .i64 0, .int .i64 0, .slice none 0 0] 29)
    simpa only [World.size_alloc] using h
  have HW1 := Lib.hid hW1.symm
  have HB : Hid (Below (w.heap.size + 3) W1 W1) := Below.refl _ _
  clear hW1
  have BB : Hid (∀ V', Below (w.heap.size + 3) W1 V' → Below w.heap.size w V') := Lib.hid fun V' h => B0.out.trans (h.mono (by omega))
  have LL1 : Hid (∀ V', Below (w.heap.size + 3) W1 V' → LS V' V'.heap.size A1 l1) := Lib.hid fun V' h => ((hL1.below B0.out).below (h.mono (by omega))).more (by have h1 := h.size; have h2 := Z0.out; omega)
  have LL2 : Hid (∀ V', Below (w.heap.size + 3) W1 V' → LS V' V'.heap.size A2 l2) := Lib.hid fun V' h => ((hL2.below B0.out).below (h.mono (by omega))).more (by have h1 := h.size; have h2 := Z0.out; omega)
  have CK1 : Hid (∀ V', Below (w.heap.size + 3) W1 V' → Calls Try.prog 25 #[hV p1 c1 s1 n1 m1 A1 l1.length k1] V' fun e w' => e = .returned (.int .i64 (chk ⟨p1, c1, s1, n1, m1, l1⟩ : Nat)) ∧ Below V'.heap.size V' w') := Lib.hid fun V' h => pCheck_any p1 c1 s1 n1 m1 l1 hlen1 hn1 hm1 A1 k1 V' (LL1.out V' h)
  have CK2 : Hid (∀ V', Below (w.heap.size + 3) W1 V' → Calls Try.prog 25 #[hV p2 c2 s2 n2 m2 A2 l2.length k2] V' fun e w' => e = .returned (.int .i64 (chk ⟨p2, c2, s2, n2, m2, l2⟩ : Nat)) ∧ Below V'.heap.size V' w') := Lib.hid fun V' h => pCheck_any p2 c2 s2 n2 m2 l2 hlen2 hn2 hm2 A2 k2 V' (LL2.out V' h)
  by_cases h1 : chk ⟨p1, c1, s1, n1, m1, l1⟩ ≠ 0
  · have HE : Hid (mrgO ⟨p1, c1, s1, n1, m1, l1⟩ ⟨p2, c2, s2, n2, m2, l2⟩ = (zeroH, 1)) := if_pos (.inl h1)
    have h1b : ((chk ⟨p1, c1, s1, n1, m1, l1⟩ : Nat) : Int) ≠ 0 := by omega
    have h1c : (((chk ⟨p1, c1, s1, n1, m1, l1⟩ : Nat) : Int) != 0) = true := by simpa using h1
    have h1d : (chk ⟨p1, c1, s1, n1, m1, l1⟩ != 0) = true := by simpa using h1
    generalize chk ⟨p1, c1, s1, n1, m1, l1⟩ = zz at *
    go_enter Try.func27, Try.ntmps27
    go_wp2_with (go_at_call 25; (try rw [HW1.out]); (with_reducible refine (CK1.out _ HB.out).mono ?_); rintro e w2 ⟨rfl, hb⟩; have HB2 := Lib.hid (HB.out.trans (hb.mono (by have h1 := HB.out.size; have h2 := Z0.out; omega))); have HR2 := Lib.hid ((HB2.out.block (w.heap.size + 1 + 1) (by omega)).trans R0.out); obtain ⟨m0, m1, m2, m3, m4, m5⟩ := C0.out.keep (N := w.heap.size + 3) (by omega) HB2.out; obtain ⟨x0, x1, x2, x3, x4, x5⟩ := D0.out.keep (N := w.heap.size + 3) (by omega) HB2.out; obtain ⟨r0, r1, r2, r3, r4, r5⟩ := hist_cells HR2.out; have rf0 := row_free HR2.out 0; have rf1 := row_free HR2.out 1; have rf2 := row_free HR2.out 2; have rf3 := row_free HR2.out 3; have rf4 := row_free HR2.out 4; have rf5 := row_free HR2.out 5; clear hb)
    obtain ⟨z0, z1, z2, z3, z4, z5⟩ := hist_cells (six_heap HR2.out (.int .i64 0) (.int .i64 0) (.int .i64 0) (.int .i64 0) (.int .i64 0) (.slice none 0 0))
    refine bodyPost_ret (v := .tuple #[hV 0 0 0 0 0 none 0 0, .int .i64 1]) (by simp [results, Try.f27, go_sem, z0, z1, z2, z3, z4, z5]) rfl ?_
    rw [HE.out]
    exact HOut.zero 1 (six_below (BB.out _ HB2.out) (by omega) _ _ _ _ _ _)
  have h1 : chk ⟨p1, c1, s1, n1, m1, l1⟩ = 0 := by omega
  have ok1 := chk_iff.1 h1
  rw [h1] at CK1
  by_cases h2 : chk ⟨p2, c2, s2, n2, m2, l2⟩ ≠ 0
  · have HE : Hid (mrgO ⟨p1, c1, s1, n1, m1, l1⟩ ⟨p2, c2, s2, n2, m2, l2⟩ = (zeroH, 1)) := if_pos (.inr h2)
    clear ok1 h1
    have h1b : ((chk ⟨p2, c2, s2, n2, m2, l2⟩ : Nat) : Int) ≠ 0 := by omega
    have h1c : (((chk ⟨p2, c2, s2, n2, m2, l2⟩ : Nat) : Int) != 0) = true := by simpa using h2
    have h1d : (chk ⟨p2, c2, s2, n2, m2, l2⟩ != 0) = true := by simpa using h2
    generalize chk ⟨p2, c2, s2, n2, m2, l2⟩ = zz at *
    go_enter Try.func27, Try.ntmps27
    go_wp2_with (first | (go_at_call 25; (try rw [HW1.out]); (with_reducible refine (CK1.out _ HB.out).mono ?_); rintro e w2 ⟨rfl, hb⟩; have HB2 := Lib.hid (HB.out.trans (hb.mono (by have h1 := HB.out.size; have h2 := Z0.out; omega))); have HR2 := Lib.hid ((HB2.out.block (w.heap.size + 1 + 1) (by omega)).trans R0.out); obtain ⟨m0, m1, m2, m3, m4, m5⟩ := C0.out.keep (N := w.heap.size + 3) (by omega) HB2.out; obtain ⟨x0, x1, x2, x3, x4, x5⟩ := D0.out.keep (N := w.heap.size + 3) (by omega) HB2.out; obtain ⟨r0, r1, r2, r3, r4, r5⟩ := hist_cells HR2.out; have rf0 := row_free HR2.out 0; have rf1 := row_free HR2.out 1; have rf2 := row_free HR2.out 2; have rf3 := row_free HR2.out 3; have rf4 := row_free HR2.out 4; have rf5 := row_free HR2.out 5; clear hb) | (go_at_call 25; (try rw [HW1.out]); (with_reducible refine (CK2.out _ HB2.out).mono ?_); rintro e w3 ⟨rfl, hb⟩; have HB3 := Lib.hid (HB2.out.trans (hb.mono (by have h1 := HB2.out.size; have h2 := Z0.out; omega))); have HR2 := Lib.hid ((HB3.out.block (w.heap.size + 1 + 1) (by omega)).trans R0.out); obtain ⟨m0, m1, m2, m3, m4, m5⟩ := C0.out.keep (N := w.heap.size + 3) (by omega) HB3.out; obtain ⟨x0, x1, x2, x3, x4, x5⟩ := D0.out.keep (N := w.heap.size + 3) (by omega) HB3.out; obtain ⟨r0, r1, r2, r3, r4, r5⟩ := hist_cells HR2.out; have rf0 := row_free HR2.out 0; have rf1 := row_free HR2.out 1; have rf2 := row_free HR2.out 2; have rf3 := row_free HR2.out 3; have rf4 := row_free HR2.out 4; have rf5 := row_free HR2.out 5; clear hb))
    obtain ⟨z0, z1, z2, z3, z4, z5⟩ := hist_cells (six_heap HR2.out (.int .i64 0) (.int .i64 0) (.int .i64 0) (.int .i64 0) (.int .i64 0) (.slice none 0 0))
    refine bodyPost_ret (v := .tuple #[hV 0 0 0 0 0 none 0 0, .int .i64 1]) (by simp [results, Try.f27, go_sem, z0, z1, z2, z3, z4, z5]) rfl ?_
    rw [HE.out]
    exact HOut.zero 1 (six_below (BB.out _ HB3.out) (by omega) _ _ _ _ _ _)
  have h2 : chk ⟨p2, c2, s2, n2, m2, l2⟩ = 0 := by omega
  have ok2 := chk_iff.1 h2
  rw [h2] at CK2
  have hj := join_mrg ok1 ok2
  have q1 := ok1.sum
  have q2 := ok2.sum
  dsimp only at q1 q2
  obtain ⟨G, g, hG⟩ : ∃ G g, (G, g) = mrgO ⟨p1, c1, s1, n1, m1, l1⟩ ⟨p2, c2, s2, n2, m2, l2⟩ := ⟨_, _, rfl⟩
  have HE : Hid (mrgO ⟨p1, c1, s1, n1, m1, l1⟩ ⟨p2, c2, s2, n2, m2, l2⟩ = (G, g)) := hG.symm
  rw [← hG] at hj
  have J0 : Hid (∀ V', Below (w.heap.size + 3) W1 V' → Calls Try.prog 42 #[hV p1 c1 s1 n1 m1 A1 l1.length k1, hV p2 c2 s2 n2 m2 A2 l2.length k2] V' fun e w' => ∃ A3 c3, e = .returned (.tuple #[hV G.p G.c G.s G.mn G.mx A3 G.bs.length c3, .int .i64 (g : Nat)]) ∧ LS w' w'.heap.size A3 G.bs ∧ (G.bs ≠ [] → ∃ b o, A3 = some ⟨b, o, none⟩ ∧ V'.heap.size ≤ b) ∧ Below V'.heap.size V' w') := Lib.hid fun V' h => by
    have C := joined_any ⟨p1, c1, s1, n1, m1, l1⟩ ⟨p2, c2, s2, n2, m2, l2⟩ ok1 ok2 (by show inI s1; unfold inI; omega) (by show inI s2; unfold inI; omega) (by show inI (s1 + s2); unfold inI; omega) A1 A2 k1 k2 V' (LL1.out V' h) (LL2.out V' h)
    rw [hj] at C
    exact C
  clear hj ok1 ok2 h1 h2 hG q1 q2
  go_enter Try.func27, Try.ntmps27
  go_wp2_with (first | (go_at_call 25; (try rw [HW1.out]); (with_reducible refine (CK1.out _ HB.out).mono ?_); rintro e w2 ⟨rfl, hb⟩; have HB2 := Lib.hid (HB.out.trans (hb.mono (by have h1 := HB.out.size; have h2 := Z0.out; omega))); have HR2 := Lib.hid ((HB2.out.block (w.heap.size + 1 + 1) (by omega)).trans R0.out); obtain ⟨m0, m1, m2, m3, m4, m5⟩ := C0.out.keep (N := w.heap.size + 3) (by omega) HB2.out; obtain ⟨x0, x1, x2, x3, x4, x5⟩ := D0.out.keep (N := w.heap.size + 3) (by omega) HB2.out; obtain ⟨r0, r1, r2, r3, r4, r5⟩ := hist_cells HR2.out; have rf0 := row_free HR2.out 0; have rf1 := row_free HR2.out 1; have rf2 := row_free HR2.out 2; have rf3 := row_free HR2.out 3; have rf4 := row_free HR2.out 4; have rf5 := row_free HR2.out 5; clear hb) | (go_at_call 25; (try rw [HW1.out]); (with_reducible refine (CK2.out _ HB2.out).mono ?_); rintro e w3 ⟨rfl, hb⟩; have HB3 := Lib.hid (HB2.out.trans (hb.mono (by have h1 := HB2.out.size; have h2 := Z0.out; omega))); have HR2 := Lib.hid ((HB3.out.block (w.heap.size + 1 + 1) (by omega)).trans R0.out); obtain ⟨m0, m1, m2, m3, m4, m5⟩ := C0.out.keep (N := w.heap.size + 3) (by omega) HB3.out; obtain ⟨x0, x1, x2, x3, x4, x5⟩ := D0.out.keep (N := w.heap.size + 3) (by omega) HB3.out; obtain ⟨r0, r1, r2, r3, r4, r5⟩ := hist_cells HR2.out; have rf0 := row_free HR2.out 0; have rf1 := row_free HR2.out 1; have rf2 := row_free HR2.out 2; have rf3 := row_free HR2.out 3; have rf4 := row_free HR2.out 4; have rf5 := row_free HR2.out 5; clear hb) | (go_at_call 42; (with_reducible refine (J0.out _ HB3.out).mono ?_); rintro e w4 ⟨A3, c3, rfl, hLS, hge, hb⟩; have HG3 := Lib.hid (And.intro hLS hge); have hs2 := HB3.out.size; have HB4 := Lib.hid (HB3.out.trans (hb.mono (by have h2 := Z0.out; omega))); have HR3 := Lib.hid ((HB4.out.block (w.heap.size + 1 + 1) (by omega)).trans R0.out); obtain ⟨r0, r1, r2, r3, r4, r5⟩ := hist_cells HR3.out; have rf0 := row_free HR3.out 0; have rf1 := row_free HR3.out 1; have rf2 := row_free HR3.out 2; have rf3 := row_free HR3.out 3; have rf4 := row_free HR3.out 4; have rf5 := row_free HR3.out 5; clear hb hLS hge))
  obtain ⟨z0, z1, z2, z3, z4, z5⟩ := hist_cells (six_heap HR3.out (.int .i64 G.p) (.int .i64 G.c) (.int .i64 G.s) (.int .i64 G.mn) (.int .i64 G.mx) (.slice A3 G.bs.length c3))
  refine bodyPost_ret (v := .tuple #[hV G.p G.c G.s G.mn G.mx A3 G.bs.length c3, .int .i64 (g : Nat)]) (by simp [results, Try.f27, go_sem, z0, z1, z2, z3, z4, z5]) rfl ?_
  rw [HE.out]
  refine ⟨A3, c3, rfl, ls_past (r := w.heap.size + 1 + 1) HG3.out.1 (fun hne => ?_) (fun q hq => six_other hq _ _ _ _ _ _) (by simp), fun hne => ?_, six_below (BB.out _ HB4.out) (by omega) _ _ _ _ _ _⟩
  · obtain ⟨b, o, e, g⟩ := HG3.out.2 hne
    exact ⟨b, o, e, by have h2 := Z0.out; omega⟩
  · obtain ⟨b, o, e, g⟩ := HG3.out.2 hne
    exact ⟨b, o, e, by have h2 := Z0.out; omega⟩
end Go.Proofs.Ytffnopdpndpngaa.Lh
