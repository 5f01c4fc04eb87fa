/- Layer 5: Keep and Drop of the program. -/
import Derived.Test.YtbphhdmnfepbnaaLJ
set_option linter.unusedVariables false
set_option linter.unusedSimpArgs false
namespace Go.Proofs.Ytbphhdmnfepbnaa.Lab
open Go.RowKit Go.Shelf
attribute [local go_sem] Oper.semAt_some
set_option maxRecDepth 100000 in
set_option maxHeartbeats 4000000 in
theorem appendSeq_in (bl bn bb N : Nat) (hN : N ≤ 100000) (res : List Lb) (Sp : List Lb → Prop) (w : World)
    (ST : Hid (SeqStopsK Fence.wide 2 Try.prog 57 #[.pointer (some ⟨bl, 0, none⟩), .pointer (some ⟨bn, 0, none⟩), .pointer (some ⟨bb, 0, none⟩)] encLb (Below w.heap.size) (fun ys => ys = res) Sp N w)) :
    CallsIn Fence.wide 3 Try.prog 63 #[.slice none 0 0, .func (.func 57) #[] #[.pointer (some ⟨bl, 0, none⟩), .pointer (some ⟨bn, 0, none⟩), .pointer (some ⟨bb, 0, none⟩)]] w (OwnPost res w) := by
  refine callsIn_of_wp_marks Try.func63 rfl trivial ?_ rfl
  simp only [Try.ntmps63, List.size_toArray, List.length_cons, List.length_nil, Nat.reduceAdd, Nat.reduceSub, Array.replicate_succ, Array.replicate_zero, List.push_toArray, List.append_toArray, List.nil_append, List.cons_append]
  gi_wp2
  obtain ⟨W0, hW0⟩ : ∃ W0, W0 = w.alloc (.cells #[.slice none 0 0] 22) := ⟨_, rfl⟩
  have hsz : W0.heap.size = w.heap.size + 1 := by rw [hW0]; simp
  have hB0 : Below w.heap.size w W0 := by rw [hW0]; exact (Below.refl _ w).alloc (Nat.le_refl _) _
  have hX : Boxed W0 w.heap.size 22 (.slice none 0 0) := by rw [hW0]; exact Boxed.new _ _ _
  rw [← hW0]
  clear hW0
  refine wpIn_rangeFunc_ownH rfl (by omega) (gf := 57) (lb := #[.pointer (some ⟨bl, 0, none⟩), .pointer (some ⟨bn, 0, none⟩), .pointer (some ⟨bb, 0, none⟩)]) rfl trivial (enters_of Try.func57 (by kernel_rfl) rfl)
    ST.out (fun h k => h.trans k) (fun W l o o' hl h hc _ => (belowK_b (w := W0) (n₀ := w.heap.size) (by omega) W l o o' hl h hc ‹_›)) hB0 (fun _ => rfl)
    (fun pre W => (∃ v, Boxed W w.heap.size 22 v ∧ W.ownsRow w.heap.size 29 2 v pre.length (cellsL pre) ∧ True) ∧ Below w.heap.size w W)
    (fun cc pre W => False)
    (OwnFrom.and (Own.from (holdsRow_own _ _ _ _ _ _ _ (fun _ _ => True)) _) (ownFrom_below (Nat.le_refl _) (by omega)))
    (fun _ _ _ _ _ hs _ _ => hs)
    ⟨⟨_, hX, World.ownsRow_nil _ _ _ _, trivial⟩, hB0⟩
    (fun x a' W => ∃ Bx, w.heap.size + 1 ≤ Bx ∧ W.heap[Bx]? = some (.cells #[.string x.n, .string x.v] 29 (0, 0)) ∧ a' = { tmps := #[.slice none 0 0, .func (.func 57) #[] #[.pointer (some ⟨bl, 0, none⟩), .pointer (some ⟨bn, 0, none⟩), .pointer (some ⟨bb, 0, none⟩)], .pointer (some ⟨w.heap.size, 0, none⟩), undef, .slice none 0 0, .pointer (some ⟨Bx, 0, none⟩), .func (.func 57) #[] #[.pointer (some ⟨bl, 0, none⟩), .pointer (some ⟨bn, 0, none⟩), .pointer (some ⟨bb, 0, none⟩)], .agg #[.string x.n, .string x.v], undef, undef, undef, undef, undef], defers := [] })
    (fun x a' _ A B row hs hg hr => by
      obtain ⟨Bx, i1, i2, i3⟩ := hs
      exact ⟨Bx, i1, row_own (β := Unit) Bx _ (fun _ => _) () A B row i2 hg (fun r e => (hr r e).2), i3⟩)
    ?assign ?body ?done ?stop
  case assign =>
    rintro lc pre x W K ⟨⟨v, i1, i2, _⟩, i3⟩ hK
    have hle := i3.size
    have hlt : w.heap.size < W.heap.size := i1.lt
    gi_wp2
    exact hK _ _ ((KeepsOthers.alloc _ _).from _) ((Below.refl _ _).alloc hle _) ⟨⟨v, i1.alloc _, i2.alloc _, trivial⟩, i3.alloc hle _⟩ ⟨W.heap.size, by omega, World.alloc_heap_new _ _, rfl⟩
  case body =>
    rintro lc pre x a' W hl0 _ ⟨⟨v, i1, i2, _⟩, i3⟩ ⟨Bx, j1, j2, rfl⟩ hlt
    obtain ⟨i0, hi, hz0, hz1, hz2⟩ := info_parts info29
    have hc := i1.cell
    obtain ⟨u0, u1⟩ := cells2 j2
    have hle := i3.size
    gi_wp2_with (gi_at_builtin; refine wpListIn_append_own _ rfl _ _ 22 rfl w.heap.size 29 i0 _ 2 32 Try.underlying22 hi hz0 hz1 hz2 rfl (by decide) _ _ _ rfl (i2.alloc _) ⟨W.heap.size, 0, none⟩ 1 1 [.string x.n, .string x.v] rfl rfl (cell_two_new _ _ _ _) (by simp [Value.oneCell']) (by simp only [maxLen]; omega) (by omega) (by have := i3.size; simp; omega) ?_; intro v' w1 hown' hgrow _; obtain ⟨g', cap', rfl⟩ := ownsRow_succ hown'; obtain ⟨hv1, hv2, hr2, hk2, hb2⟩ := i1.appended (by decide) i2 hle (by omega) hown' hgrow; have hc1 := hv1.cell; have hf1 := hv1.frozen)
    refine ⟨hk2.from _, hb2, ⟨_, hv2, ?_, trivial⟩, i3.trans hb2⟩
    rw [List.length_append, cellsL_append, cellsL_one]
    exact hr2
  case done =>
    rintro D ys W hD hys ⟨⟨v, i1, i2, _⟩, i3⟩ hK
    subst hys
    have hc := i1.cell
    gi_wp2
    refine ⟨by simp, .inl ⟨_, _, rfl, run_takeDeferred hK, ?_⟩⟩
    refine ⟨_, results_tmp rfl _ _ _, v, rfl, ?_, i3.trans (belowK_b (w := w) (Nat.le_refl _) _ D _ _ (by omega) hK rfl rfl)⟩
    exact ownsRow_putObj i2 _ hK rfl
  case stop =>
    rintro D c pre W _ _ h _
    exact h.elim
set_option maxHeartbeats 1000000 in
theorem keep_any (l : List Lb) (hl : l.length ≤ 100000) (A : Option Addr) (c : Nat) (ns : List ByteArray) (hns : ns.length ≤ maxLen) (C : Option Addr) (d : Nat) (w : World) (hA : LS w w.heap.size A l) (hC : SS w w.heap.size C ns) :
    Calls Try.prog 19 #[.slice A l.length c, .slice C ns.length d] w (OwnPost (keepL true ns l) w) := by
  obtain ⟨W0, hW0⟩ : ∃ W0, W0 = ((w.alloc (.cells #[.slice A l.length c] 22)).alloc (.cells #[.slice C ns.length d] 23)).alloc (.cells #[.bool true] 4) := ⟨_, rfl⟩
  have hsz : W0.heap.size = w.heap.size + 3 := by rw [hW0]; simp
  have hB0 : Below w.heap.size w W0 := by rw [hW0]; exact (((Below.refl _ w).alloc (Nat.le_refl _) _).alloc (by simp) _).alloc (by simp; omega) _
  have q1 : W0.cell? ⟨w.heap.size, 0, none⟩ = some (.slice A l.length c) := by rw [hW0]; go_simp
  have q2 : W0.cell? ⟨w.heap.size + 1, 0, none⟩ = some (.slice C ns.length d) := by rw [hW0]; go_simp
  have q3 : W0.cell? ⟨w.heap.size + 1 + 1, 0, none⟩ = some (.bool true) := by rw [hW0]; go_simp
  have ST := Lib.hid (named_stops 2 (by omega) W0.heap.size w.heap.size (w.heap.size + 1) (w.heap.size + 1 + 1) true l hl ns hns A C c d W0 (Nat.le_refl _) (by omega) (by omega) (by omega) q1 q2 q3 ((hA.below hB0).more hB0.size) ((hC.below hB0).more hB0.size))
  have CC := Lib.hid (callsIn_wide.1 (appendSeq_in _ _ _ l.length hl _ _ W0 ST))
  have H0 := Lib.hid hB0
  have CD : Hid (Calls Try.prog 42 #[.func (.func 57) #[] #[.pointer (some ⟨w.heap.size, 0, none⟩), .pointer (some ⟨w.heap.size + 1, 0, none⟩), .pointer (some ⟨w.heap.size + 1 + 1, 0, none⟩)]] W0 (OwnPost (keepL true ns l) W0)) := by
    clear hW0 q1 q2 q3 ST hB0 hsz H0 hA hC
    go_enter Try.func42, Try.ntmps42
    go_wp2_with (go_at_call 63; (with_reducible refine CC.out.mono ?_); rintro e w1 ⟨v, rfl, h1, h2⟩; have P1 := Lib.hid h1; have P2 := Lib.hid h2; clear h1 h2)
    go_ret
    exact ⟨_, rfl, P1.out, P2.out⟩
  have HW := Lib.hid hW0
  clear q1 q2 q3 ST hB0 hA hC CC hW0
  go_enter Try.func19, Try.ntmps19
  go_wp2_with (first | (go_at_call 36; (with_reducible refine (named_any _ _ _ _ _ _ _ _).mono ?_); rintro e w' ⟨rfl, hw⟩; rw [← HW.out] at hw; subst hw) | (go_at_call 42; (with_reducible refine CD.out.mono ?_); rintro e w1 ⟨v, rfl, h1, h2⟩; have P1 := Lib.hid h1; have P2 := Lib.hid h2; clear h1 h2))
  go_ret
  exact ⟨_, rfl, P1.out.more H0.out.size, H0.out.trans (P2.out.mono H0.out.size)⟩
set_option maxHeartbeats 1000000 in
theorem drop_any (l : List Lb) (hl : l.length ≤ 100000) (A : Option Addr) (c : Nat) (ns : List ByteArray) (hns : ns.length ≤ maxLen) (C : Option Addr) (d : Nat) (w : World) (hA : LS w w.heap.size A l) (hC : SS w w.heap.size C ns) :
    Calls Try.prog 21 #[.slice A l.length c, .slice C ns.length d] w (OwnPost (keepL false ns l) w) := by
  obtain ⟨W0, hW0⟩ : ∃ W0, W0 = ((w.alloc (.cells #[.slice A l.length c] 22)).alloc (.cells #[.slice C ns.length d] 23)).alloc (.cells #[.bool false] 4) := ⟨_, rfl⟩
  have hsz : W0.heap.size = w.heap.size + 3 := by rw [hW0]; simp
  have hB0 : Below w.heap.size w W0 := by rw [hW0]; exact (((Below.refl _ w).alloc (Nat.le_refl _) _).alloc (by simp) _).alloc (by simp; omega) _
  have q1 : W0.cell? ⟨w.heap.size, 0, none⟩ = some (.slice A l.length c) := by rw [hW0]; go_simp
  have q2 : W0.cell? ⟨w.heap.size + 1, 0, none⟩ = some (.slice C ns.length d) := by rw [hW0]; go_simp
  have q3 : W0.cell? ⟨w.heap.size + 1 + 1, 0, none⟩ = some (.bool false) := by rw [hW0]; go_simp
  have ST := Lib.hid (named_stops 2 (by omega) W0.heap.size w.heap.size (w.heap.size + 1) (w.heap.size + 1 + 1) false l hl ns hns A C c d W0 (Nat.le_refl _) (by omega) (by omega) (by omega) q1 q2 q3 ((hA.below hB0).more hB0.size) ((hC.below hB0).more hB0.size))
  have CC := Lib.hid (callsIn_wide.1 (appendSeq_in _ _ _ l.length hl _ _ W0 ST))
  have H0 := Lib.hid hB0
  have CD : Hid (Calls Try.prog 42 #[.func (.func 57) #[] #[.pointer (some ⟨w.heap.size, 0, none⟩), .pointer (some ⟨w.heap.size + 1, 0, none⟩), .pointer (some ⟨w.heap.size + 1 + 1, 0, none⟩)]] W0 (OwnPost (keepL false ns l) W0)) := by
    clear hW0 q1 q2 q3 ST hB0 hsz H0 hA hC
    go_enter Try.func42, Try.ntmps42
    go_wp2_with (go_at_call 63; (with_reducible refine CC.out.mono ?_); rintro e w1 ⟨v, rfl, h1, h2⟩; have P1 := Lib.hid h1; have P2 := Lib.hid h2; clear h1 h2)
    go_ret
    exact ⟨_, rfl, P1.out, P2.out⟩
  have HW := Lib.hid hW0
  clear q1 q2 q3 ST hB0 hA hC CC hW0
  go_enter Try.func21, Try.ntmps21
  go_wp2_with (first | (go_at_call 36; (with_reducible refine (named_any _ _ _ _ _ _ _ _).mono ?_); rintro e w' ⟨rfl, hw⟩; rw [← HW.out] at hw; subst hw) | (go_at_call 42; (with_reducible refine CD.out.mono ?_); rintro e w1 ⟨v, rfl, h1, h2⟩; have P1 := Lib.hid h1; have P2 := Lib.hid h2; clear h1 h2))
  go_ret
  exact ⟨_, rfl, P1.out.more H0.out.size, H0.out.trans (P2.out.mono H0.out.size)⟩
end Go.Proofs.Ytbphhdmnfepbnaa.Lab
