/- Layer 12: the program's Reduce. -/
import Derived.Test.YtffnopdpndpngaaMn
set_option linter.unusedVariables false
set_option linter.unusedSimpArgs false
namespace Go.Proofs.Ytffnopdpndpngaa.Lh
open Go.RowKit
theorem six_below {w Z : World} {r : Nat} (hB : Below w.heap.size w Z) (hg : w.heap.size ≤ r) (v0 v1 v2 v3 v4 v5 : Value) :
    Below w.heap.size w ((((((Z.setCell ⟨r, 0, none⟩ v0).setCell ⟨r, 1, none⟩ v1).setCell ⟨r, 2, none⟩ v2).setCell ⟨r, 3, none⟩ v3).setCell ⟨r, 4, none⟩ v4).setCell ⟨r, 5, none⟩ v5) :=
  (((((hB.setCell (p := ⟨r, 0, none⟩) hg v0).setCell (p := ⟨r, 1, none⟩) hg v1).setCell (p := ⟨r, 2, none⟩) hg v2).setCell (p := ⟨r, 3, none⟩) hg v3).setCell (p := ⟨r, 4, none⟩) hg v4).setCell (p := ⟨r, 5, none⟩) hg v5
/-- Buckets that lie beyond the result's cells stay as they are. -/
theorem ls_past {Z W' : World} {r : Nat} {A : Option Addr} {l : List B} (h : LS Z Z.heap.size A l) (hne : l ≠ [] → ∃ b o, A = some ⟨b, o, none⟩ ∧ r < b) (hk : ∀ q, q ≠ r → W'.heap[q]? = Z.heap[q]?) (hsz : Z.heap.size ≤ W'.heap.size) : LS W' W'.heap.size A l := fun hn => by
  obtain ⟨b, off, e, hb, hc⟩ := h hn
  obtain ⟨b', o', e', hr⟩ := hne hn
  rw [e] at e'
  have hbb : b = b' := by injection e' with e2; injection e2
  have hq := hk b (by omega)
  exact ⟨b, off, e, Nat.lt_of_lt_of_le hb hsz, fun j hj => ⟨(World.cell?_of_block hq).trans (hc j hj).1, (World.cell?_of_block hq).trans (hc j hj).2⟩⟩
set_option maxHeartbeats 4000000 in
theorem pReduce_any (p c s mn mx q : Int) (l : List B) (hlen : l.length ≤ 140737488355328) (hs : inI s) (hmn : inI mn) (hmx : inI mx) (A : Option Addr) (k : Nat) (w : World) (hL : LS w w.heap.size A l) :
    Calls Try.prog 23 #[hV p c s mn mx A l.length k, .int .i64 q] w (HOut w (redO ⟨p, c, s, mn, mx, l⟩ q)) := by
  obtain ⟨W1, hW1⟩ : ∃ W1, W1 = (w.alloc (.cells #[.int .i64 p, .int .i64 c, .int .i64 s, .int .i64 mn, .int .i64 mx, .slice A l.length k] 29)).alloc (.cells #[.int .i64 0, .int .i64 0, .int .i64 0, .int .i64 0, .int .i64 0, .slice none 0 0] 29) := ⟨_, rfl⟩
  have B0 : Hid (Below w.heap.size w W1) := by show Below _ _ _; rw [hW1]; exact ((Below.refl _ w).alloc (Nat.le_refl _) _).alloc (by simp) _
  have C0 : Hid (HC W1 w.heap.size p c s mn mx A l.length k) := by
    show HC _ _ _ _ _ _ _ _ _ _
    rw [hW1]
    exact (HC.new w 29 p c s mn mx A l.length k).keep (Nat.lt_succ_self _) ((Below.refl _ _).alloc (by simp) _)
  have Z0 : Hid (W1.heap.size = w.heap.size + 2) := by show _ = _; rw [hW1]; simp
  have R0 : Hid (W1.heap[w.heap.size + 1]? = some (.cells #[.int .i64 0, .int .i64 0, .int .i64 0, .int .i64 0, .int .i64 0, .slice none 0 0] 29 (0, 0))) := by
    show _ = _
    rw [hW1]
    have h := heap_alloc_new (w.alloc (.cells #[.int .i64 p, .int .i64 c, .int .i64 s, .int .i64 mn, .int .i64 mx, .slice A l.length k] 29)) (.cells #[.int .i64 0, .int .i64 0, .int .i64 0, .int .i64 0, .int .i64 0, .slice none 0 0] 29)
    simpa only [World.size_alloc] using h
  have HW1 := Lib.hid hW1.symm
  have HB : Hid (Below (w.heap.size + 2) W1 W1) := Below.refl _ _
  clear hW1
  have BB : Hid (∀ V', Below (w.heap.size + 2) W1 V' → Below w.heap.size w V') := Lib.hid fun V' h => B0.out.trans (h.mono (by omega))
  have LL : Hid (∀ V', Below (w.heap.size + 2) W1 V' → LS V' V'.heap.size A l) := Lib.hid fun V' h => ((hL.below B0.out).below (h.mono (by omega))).more (by have h1 := h.size; have h2 := Z0.out; omega)
  have CK : Hid (∀ V', Below (w.heap.size + 2) W1 V' → Calls Try.prog 25 #[hV p c s mn mx A l.length k] V' fun e w' => e = .returned (.int .i64 (chk ⟨p, c, s, mn, mx, l⟩ : Nat)) ∧ Below V'.heap.size V' w') := Lib.hid fun V' h => pCheck_any p c s mn mx l hlen hmn hmx A k V' (LL.out V' h)
  by_cases h1 : chk ⟨p, c, s, mn, mx, l⟩ ≠ 0
  · have HE : Hid (redO ⟨p, c, s, mn, mx, l⟩ q = (zeroH, 1)) := if_pos h1
    have h1b : ((chk ⟨p, c, s, mn, mx, l⟩ : Nat) : Int) ≠ 0 := by omega
    have h1c : (((chk ⟨p, c, s, mn, mx, l⟩ : Nat) : Int) != 0) = true := by simpa using h1
    have h1d : (chk ⟨p, c, s, mn, mx, l⟩ != 0) = true := by simpa using h1
    generalize chk ⟨p, c, s, mn, mx, l⟩ = zz at *
    go_enter Try.func23, Try.ntmps23
    go_wp2_with (go_at_call 25; rw [HW1.out]; (with_reducible refine (CK.out _ HB.out).mono ?_); rintro e w2 ⟨rfl, hb⟩; have HB2 := Lib.hid (HB.out.trans (hb.mono (by have h2 := Z0.out; omega))); have HR2 := Lib.hid ((HB2.out.block (w.heap.size + 1) (by omega)).trans R0.out); obtain ⟨r0, r1, r2, r3, r4, r5⟩ := hist_cells HR2.out; have rf0 := row_free HR2.out 0; have rf1 := row_free HR2.out 1; have rf2 := row_free HR2.out 2; have rf3 := row_free HR2.out 3; have rf4 := row_free HR2.out 4; have rf5 := row_free HR2.out 5; clear hb)
    obtain ⟨z0, z1, z2, z3, z4, z5⟩ := hist_cells (six_heap HR2.out (.int .i64 0) (.int .i64 0) (.int .i64 0) (.int .i64 0) (.int .i64 0) (.slice none 0 0))
    refine bodyPost_ret (v := .tuple #[hV 0 0 0 0 0 none 0 0, .int .i64 1]) (by simp [results, Try.f23, go_sem, z0, z1, z2, z3, z4, z5]) rfl ?_
    rw [HE.out]
    exact HOut.zero 1 (six_below (BB.out _ HB2.out) (Nat.le_succ _) _ _ _ _ _ _)
  have h1 : chk ⟨p, c, s, mn, mx, l⟩ = 0 := by omega
  have ok := chk_iff.1 h1
  rw [h1] at CK
  by_cases h2 : q < 0
  · have HE : Hid (redO ⟨p, c, s, mn, mx, l⟩ q = (zeroH, 2)) := by show _ = _; unfold redO; rw [if_neg (by omega), if_pos (.inl h2)]
    clear ok h1
    go_enter Try.func23, Try.ntmps23
    go_wp2_with (go_at_call 25; rw [HW1.out]; (with_reducible refine (CK.out _ HB.out).mono ?_); rintro e w2 ⟨rfl, hb⟩; have HB2 := Lib.hid (HB.out.trans (hb.mono (by have h2 := Z0.out; omega))); have HR2 := Lib.hid ((HB2.out.block (w.heap.size + 1) (by omega)).trans R0.out); obtain ⟨m0, m1, m2, m3, m4, m5⟩ := C0.out.keep (N := w.heap.size + 2) (by omega) HB2.out; obtain ⟨r0, r1, r2, r3, r4, r5⟩ := hist_cells HR2.out; have rf0 := row_free HR2.out 0; have rf1 := row_free HR2.out 1; have rf2 := row_free HR2.out 2; have rf3 := row_free HR2.out 3; have rf4 := row_free HR2.out 4; have rf5 := row_free HR2.out 5; clear hb)
    obtain ⟨z0, z1, z2, z3, z4, z5⟩ := hist_cells (six_heap HR2.out (.int .i64 0) (.int .i64 0) (.int .i64 0) (.int .i64 0) (.int .i64 0) (.slice none 0 0))
    refine bodyPost_ret (v := .tuple #[hV 0 0 0 0 0 none 0 0, .int .i64 2]) (by simp [results, Try.f23, go_sem, z0, z1, z2, z3, z4, z5]) rfl ?_
    rw [HE.out]
    exact HOut.zero 2 (six_below (BB.out _ HB2.out) (Nat.le_succ _) _ _ _ _ _ _)
  by_cases h3 : p < q
  · have HE : Hid (redO ⟨p, c, s, mn, mx, l⟩ q = (zeroH, 2)) := by show _ = _; unfold redO; rw [if_neg (by omega), if_pos (.inr h3)]
    clear ok h1
    go_enter Try.func23, Try.ntmps23
    go_wp2_with (go_at_call 25; rw [HW1.out]; (with_reducible refine (CK.out _ HB.out).mono ?_); rintro e w2 ⟨rfl, hb⟩; have HB2 := Lib.hid (HB.out.trans (hb.mono (by have h2 := Z0.out; omega))); have HR2 := Lib.hid ((HB2.out.block (w.heap.size + 1) (by omega)).trans R0.out); obtain ⟨m0, m1, m2, m3, m4, m5⟩ := C0.out.keep (N := w.heap.size + 2) (by omega) HB2.out; obtain ⟨r0, r1, r2, r3, r4, r5⟩ := hist_cells HR2.out; have rf0 := row_free HR2.out 0; have rf1 := row_free HR2.out 1; have rf2 := row_free HR2.out 2; have rf3 := row_free HR2.out 3; have rf4 := row_free HR2.out 4; have rf5 := row_free HR2.out 5; clear hb)
    obtain ⟨z0, z1, z2, z3, z4, z5⟩ := hist_cells (six_heap HR2.out (.int .i64 0) (.int .i64 0) (.int .i64 0) (.int .i64 0) (.int .i64 0) (.slice none 0 0))
    refine bodyPost_ret (v := .tuple #[hV 0 0 0 0 0 none 0 0, .int .i64 2]) (by simp [results, Try.f23, go_sem, z0, z1, z2, z3, z4, z5]) rfl ?_
    rw [HE.out]
    exact HOut.zero 2 (six_below (BB.out _ HB2.out) (Nat.le_succ _) _ _ _ _ _ _)
  have HE : Hid (redO ⟨p, c, s, mn, mx, l⟩ q = (redH ⟨p, c, s, mn, mx, l⟩ q, 0)) := by show _ = _; unfold redO; rw [if_neg (by omega), if_neg (show ¬ (q < 0 ∨ p < q) by omega)]
  have hj := join_red ok (show 0 ≤ q by omega) (show q ≤ p by omega)
  have nok := newH_ok (p := q) (by omega) (by have := ok.p8; dsimp only at this; omega)
  obtain ⟨G, hG⟩ : ∃ G, G = redH ⟨p, c, s, mn, mx, l⟩ q := ⟨_, rfl⟩
  rw [← hG] at HE hj
  have J0 : Hid (∀ V', Below (w.heap.size + 2) W1 V' → Calls Try.prog 42 #[hV p c s mn mx A l.length k, hV q 0 0 0 0 none 0 0] V' fun e w' => ∃ A2 c2, e = .returned (.tuple #[hV G.p G.c G.s G.mn G.mx A2 G.bs.length c2, .int .i64 0]) ∧ LS w' w'.heap.size A2 G.bs ∧ (G.bs ≠ [] → ∃ b o, A2 = some ⟨b, o, none⟩ ∧ V'.heap.size ≤ b) ∧ Below V'.heap.size V' w') := Lib.hid fun V' h => by
    have C := joined_any ⟨p, c, s, mn, mx, l⟩ (newH q) ok nok hs (by show inI 0; unfold inI; omega) (by show inI (s + 0); rw [Int.add_zero]; exact hs) A none k 0 V' (LL.out V' h) (LS.nil _ _ _)
    rw [hj] at C
    exact C
  clear hj nok ok h1 hG
  go_enter Try.func23, Try.ntmps23
  go_wp2_with (first | (go_at_call 25; rw [HW1.out]; (with_reducible refine (CK.out _ HB.out).mono ?_); rintro e w2 ⟨rfl, hb⟩; have HB2 := Lib.hid (HB.out.trans (hb.mono (by have h2 := Z0.out; omega))); have HR2 := Lib.hid ((HB2.out.block (w.heap.size + 1) (by omega)).trans R0.out); obtain ⟨m0, m1, m2, m3, m4, m5⟩ := C0.out.keep (N := w.heap.size + 2) (by omega) HB2.out; obtain ⟨r0, r1, r2, r3, r4, r5⟩ := hist_cells HR2.out; have rf0 := row_free HR2.out 0; have rf1 := row_free HR2.out 1; have rf2 := row_free HR2.out 2; have rf3 := row_free HR2.out 3; have rf4 := row_free HR2.out 4; have rf5 := row_free HR2.out 5; clear hb) | (go_at_call 42; (with_reducible refine (J0.out _ HB2.out).mono ?_); rintro e w3 ⟨A2, c2, rfl, hLS, hge, hb⟩; have HG3 := Lib.hid (And.intro hLS hge); have hs2 := HB2.out.size; have HB3 := Lib.hid (HB2.out.trans (hb.mono (by have h2 := Z0.out; omega))); have HR3 := Lib.hid ((HB3.out.block (w.heap.size + 1) (by omega)).trans R0.out); obtain ⟨r0, r1, r2, r3, r4, r5⟩ := hist_cells HR3.out; have rf0 := row_free HR3.out 0; have rf1 := row_free HR3.out 1; have rf2 := row_free HR3.out 2; have rf3 := row_free HR3.out 3; have rf4 := row_free HR3.out 4; have rf5 := row_free HR3.out 5; clear hb hLS hge))
  obtain ⟨z0, z1, z2, z3, z4, z5⟩ := hist_cells (six_heap HR3.out (.int .i64 G.p) (.int .i64 G.c) (.int .i64 G.s) (.int .i64 G.mn) (.int .i64 G.mx) (.slice A2 G.bs.length c2))
  refine bodyPost_ret (v := .tuple #[hV G.p G.c G.s G.mn G.mx A2 G.bs.length c2, .int .i64 0]) (by simp [results, Try.f23, go_sem, z0, z1, z2, z3, z4, z5]) rfl ?_
  rw [HE.out]
  refine ⟨A2, c2, rfl, ls_past (r := w.heap.size + 1) HG3.out.1 (fun hne => ?_) (fun q hq => six_other hq _ _ _ _ _ _) (by simp), fun hne => ?_, six_below (BB.out _ HB3.out) (Nat.le_succ _) _ _ _ _ _ _⟩
  · obtain ⟨b, o, e, g⟩ := HG3.out.2 hne
    exact ⟨b, o, e, by have h2 := Z0.out; omega⟩
  · obtain ⟨b, o, e, g⟩ := HG3.out.2 hne
    exact ⟨b, o, e, by have h2 := Z0.out; omega⟩
end Go.Proofs.Ytffnopdpndpngaa.Lh
