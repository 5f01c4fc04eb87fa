/- Layer 8: the numbers of two lists that are chosen. -/
import Derived.Test.YtejnmjaclhmelaaSE
import Derived.Test.YtejnmjaclhmelaaPI
set_option linter.unusedVariables false
set_option linter.unusedSimpArgs false
namespace Go.Proofs.Ytejnmjaclhmelaa.Po
open Go.RowKit Go.Shelf

attribute [local go_sem] Oper.semAt_some

set_option maxRecDepth 100000 in
set_option maxHeartbeats 4000000 in
theorem chosen_and (xs ys : List Int) (hx : xs.length ≤ 1000000) (hy : ys.length ≤ 1000000) (vx : Val xs) (vy : Val ys) (sx sy : Value) (w : World) (hX : Ints w.heap.size w sx xs) (hY : Ints w.heap.size w sy ys) :
    Calls Try.prog 53 #[sx, sy, .func (.func 39) #[] #[]] w (IntsOut w (selL fAnd xs ys)) := by
  obtain ⟨i0, hi, hz0, hz1, hz2⟩ := info_parts infoI
  obtain ⟨a1, c1, rfl, hx1⟩ := hX
  obtain ⟨a2, c2, rfl, hy1⟩ := hY
  refine (callsIn_wide (n := 6)).1 ?_
  refine callsIn_of_wp_marks Try.func53 rfl trivial ?_ rfl
  simp only [Try.ntmps53, List.size_toArray, List.length_cons, List.length_nil, Nat.reduceAdd, Nat.reduceSub, Array.replicate_succ, Array.replicate_zero, List.push_toArray, List.append_toArray, List.nil_append, List.cons_append]
  gi_wp2_with fail
  refine ⟨trivial, ?_⟩
  refine (side_in _ a1 a2 xs.length ys.length c1 c2 _).mono ?_
  rintro e w' ⟨rfl, rfl⟩
  gi_wp2_with fail
  have hb1 : Boxed ((((w.alloc (.cells #[.func (.func 39) #[] #[]] 50)).alloc (.cells #[.slice none 0 0] 22)).alloc (.cells #[.slice a1 xs.length c1] 22)).alloc (.cells #[.slice a2 ys.length c2] 22)) w.heap.size 50 (.func (.func 39) #[] #[]) := (((Boxed.new w _ _).alloc _).alloc _).alloc _
  have hb2 : Boxed ((((w.alloc (.cells #[.func (.func 39) #[] #[]] 50)).alloc (.cells #[.slice none 0 0] 22)).alloc (.cells #[.slice a1 xs.length c1] 22)).alloc (.cells #[.slice a2 ys.length c2] 22)) (w.heap.size + 1) 22 (.slice none 0 0) := by
    have h := ((Boxed.new (w.alloc (.cells #[.func (.func 39) #[] #[]] 50)) 22 (.slice none 0 0)).alloc (.cells #[.slice a1 xs.length c1] 22)).alloc (.cells #[.slice a2 ys.length c2] 22)
    simpa only [World.size_alloc] using h
  have hb3 : Boxed ((((w.alloc (.cells #[.func (.func 39) #[] #[]] 50)).alloc (.cells #[.slice none 0 0] 22)).alloc (.cells #[.slice a1 xs.length c1] 22)).alloc (.cells #[.slice a2 ys.length c2] 22)) (w.heap.size + 1 + 1) 22 (.slice a1 xs.length c1) := by
    have h := (Boxed.new ((w.alloc (.cells #[.func (.func 39) #[] #[]] 50)).alloc (.cells #[.slice none 0 0] 22)) 22 (.slice a1 xs.length c1)).alloc (.cells #[.slice a2 ys.length c2] 22)
    simpa only [World.size_alloc] using h
  have hb4 : Boxed ((((w.alloc (.cells #[.func (.func 39) #[] #[]] 50)).alloc (.cells #[.slice none 0 0] 22)).alloc (.cells #[.slice a1 xs.length c1] 22)).alloc (.cells #[.slice a2 ys.length c2] 22)) (w.heap.size + 1 + 1 + 1) 22 (.slice a2 ys.length c2) := by
    have h := Boxed.new (((w.alloc (.cells #[.func (.func 39) #[] #[]] 50)).alloc (.cells #[.slice none 0 0] 22)).alloc (.cells #[.slice a1 xs.length c1] 22)) 22 (.slice a2 ys.length c2)
    simpa only [World.size_alloc] using h
  have hB0 : Below w.heap.size w ((((w.alloc (.cells #[.func (.func 39) #[] #[]] 50)).alloc (.cells #[.slice none 0 0] 22)).alloc (.cells #[.slice a1 xs.length c1] 22)).alloc (.cells #[.slice a2 ys.length c2] 22)) := ((((Below.refl _ _).alloc (Nat.le_refl _) _).alloc (by simp) _).alloc (by simp; omega) _).alloc (by simp; omega) _
  have hz : ((((w.alloc (.cells #[.func (.func 39) #[] #[]] 50)).alloc (.cells #[.slice none 0 0] 22)).alloc (.cells #[.slice a1 xs.length c1] 22)).alloc (.cells #[.slice a2 ys.length c2] 22)).heap.size = w.heap.size + 4 := by simp only [World.size_alloc]
  generalize (((w.alloc (.cells #[.func (.func 39) #[] #[]] 50)).alloc (.cells #[.slice none 0 0] 22)).alloc (.cells #[.slice a1 xs.length c1] 22)).alloc (.cells #[.slice a2 ys.length c2] 22) = W0 at *
  have hlen := sideF_len (xs.length + ys.length) xs ys
  refine wpIn_rangeFunc_ownH rfl (by omega) (gf := 67) (lb := #[.pointer (some ⟨w.heap.size + 1 + 1, 0, none⟩), .pointer (some ⟨w.heap.size + 1 + 1 + 1, 0, none⟩)]) rfl trivial (enters_of Try.func67 (by kernel_rfl) rfl)
    (sides_stops 5 (by omega) w.heap.size (w.heap.size + 1 + 1) (w.heap.size + 1 + 1 + 1) a1 a2 c1 c2 xs ys W0 (by omega) (hx1.below hB0) (hy1.below hB0) vx vy hb3.cell hb4.cell (by omega) (by omega)) (fun h k => h.trans k) (fun W l o o' hl h hc hw => belowK_b (w := W0) (by omega) W l o o' hl h hc hw) (Below.refl _ _) (fun _ => rfl)
    (fun pre W => (Boxed W w.heap.size 50 (.func (.func 39) #[] #[]) ∧ Below w.heap.size w W) ∧ ∃ v, Boxed W (w.heap.size + 1) 22 v ∧ W.ownsRow w.heap.size 3 1 v (cho fAnd pre).length (ic (cho fAnd pre)) ∧ True)
    (fun _ _ _ => False)
    (OwnFrom.and (OwnFrom.and (Own.from (boxed_own _ _ (fun _ => _)) _) (ownFrom_below (Nat.le_refl _) (by omega))) (Own.from (holdsRow_own _ _ _ _ _ _ _ (fun _ _ => True)) _))
    (fun c s A B row h hg hr => h)
    ⟨⟨hb1, hB0⟩, _, hb2, World.ownsRow_nil _ _ _ _, trivial⟩
    (fun x a' W => ∃ Bx, w.heap.size + 1 < Bx ∧ W.heap[Bx]? = some (.cells #[.bool x.2.1, .bool x.2.2] 49 (0, 0)) ∧ a' = { tmps := #[.slice a1 xs.length c1, .slice a2 ys.length c2, .func (.func 39) #[] #[], undef, undef, .pointer (some ⟨w.heap.size, 0, none⟩), .slice none 0 0, .pointer (some ⟨w.heap.size + 1, 0, none⟩), .int .i64 x.1, .pointer (some ⟨Bx, 0, none⟩), .slice a1 xs.length c1, .slice a2 ys.length c2, .func (.func 67) #[] #[.pointer (some ⟨w.heap.size + 1 + 1, 0, none⟩), .pointer (some ⟨w.heap.size + 1 + 1 + 1, 0, none⟩)], .int .i64 x.1, .agg #[.bool x.2.1, .bool x.2.2], undef, undef, undef, undef, undef, undef, undef, undef], defers := [] })
    (fun x a' _ A B row hs hg hr => by
      obtain ⟨Bx, i1, i2, i3⟩ := hs
      exact ⟨Bx, i1, row_own (β := Unit) Bx _ (fun _ => _) () A B row i2 hg (fun r e => (hr r e).2), i3⟩)
    ?assign ?body ?done ?stop
  case assign =>
    rintro l pre x W K ⟨⟨i1, i2⟩, v, i3, i4, _⟩ hK
    have hle := i2.size
    have hl3 := i3.lt
    gi_wp2
    refine hK _ _ ((KeepsOthers.alloc _ _).from _) ((Below.refl _ W).alloc hle _) ⟨⟨i1.alloc _, i2.alloc hle _⟩, v, i3.alloc _, i4.alloc _, trivial⟩ ⟨W.heap.size, hl3, heap_alloc_new _ _, rfl⟩
  case body =>
    rintro l pre x a' W hl _ ⟨⟨i1, i2⟩, v, i3, i4, _⟩ ⟨Bx, j1, j2, rfl⟩ hlt
    obtain ⟨z, p, q⟩ := x
    dsimp only at j2 ⊢
    have hcl := cho_len fAnd pre
    have hf := i1.cell
    obtain ⟨A', c', rfl⟩ := own_form i4
    obtain ⟨u0, u1⟩ := cells2' j2
    cases hpq : fAnd p q with
    | true =>
      have HY := Lib.hid (cho_snoc_yes (f := fAnd) (t := pre) (x := (z, p, q)) hpq)
      gi_wp2_with fail
      refine ⟨trivial, ?_⟩
      refine (CallsIn.inRound l (callsIn_wide.2 (and1_any p q _))).mono ?_
      rintro e W2 ⟨rfl, hb⟩
      rw [hpq]
      have k1 := boxed_below i1 hb
      have k2 : Below w.heap.size w W2 := i2.trans (hb.mono i2.size)
      have k3 := boxed_below i3 hb
      have k4 := own_belowP i4 hb
      have KO := keeps_below hb
      have hle := k2.size
      have hle0 := i2.size
      have hc := k3.cell
      clear i1 i3 i4 hf u0 u1 j2
      gi_wp2_with (gi_at_builtin; refine wpListIn_append_own_at _ rfl _ _ 22 rfl w.heap.size 3 i0 (.int .i64 0) 1 8 Try.underlying22 hi hz0 hz1 hz2 rfl (by decide) _ (cho fAnd pre).length _ rfl (k4.alloc _) ⟨W2.heap.size, 0, none⟩ 1 1 [.int .i64 z] rfl rfl (cell_one_new _ _ _) (by simp [Value.oneCell']) (by simp only [maxLen]; unfold sideL at hlt; omega) (by unfold sideL at hlt; omega) (by have := hle; simp; omega) ?_; intro v' w1 hown' hgrow _ hat; obtain ⟨g', cap', rfl⟩ := ownsRow_succ hown'; obtain ⟨hv1, hv2, hr2, hk2, hb2⟩ := k3.appended (by decide) k4 hle (by omega) hown' hgrow; have hc1 := hv1.cell; have hf1 := hv1.frozen; have hbx := fun u' => box_appended (v' := u') k1 (by decide) k4 hgrow (by omega : w.heap.size ≠ w.heap.size + 1))
      refine ⟨(KO.trans hk2).from _, (hb.mono hle0).trans hb2, ⟨hbx _, k2.trans hb2⟩, _, hv2, ?_, trivial⟩
      rw [HY.out, List.length_append]
      unfold ic at hr2 ⊢
      rw [List.map_append]
      exact hr2
    | false =>
      have HN := Lib.hid (cho_snoc_no (f := fAnd) (t := pre) (x := (z, p, q)) hpq)
      gi_wp2_with fail
      refine ⟨trivial, ?_⟩
      refine (CallsIn.inRound l (callsIn_wide.2 (and1_any p q _))).mono ?_
      rintro e W2 ⟨rfl, hb⟩
      rw [hpq]
      gi_wp2
      refine ⟨(keeps_below hb).from _, hb.mono i2.size, ⟨boxed_below i1 hb, i2.trans (hb.mono i2.size)⟩, _, boxed_below i3 hb, ?_, trivial⟩
      rw [HN.out]
      exact own_belowP i4 hb
  case done =>
    rintro D zs W hD rfl ⟨⟨i1, i2⟩, v, i3, i4, _⟩ hK
    obtain ⟨A', c', rfl⟩ := own_form i4
    have hc := i3.cell
    have HO := Lib.hid (ownsRow_putObj i4 (.deferred none) hK rfl)
    have HB := Lib.hid (i2.trans (belowK_b (w := w) (Nat.le_refl _) W D _ (.deferred none) (by omega) hK rfl rfl))
    gi_wp2
    refine ⟨by simp, .inl ⟨_, _, rfl, run_takeDeferred hK, ?_⟩⟩
    exact ⟨_, results_tmp rfl _ _ _, _, rfl, Ints.of_own HO.out (Nat.le_refl _), HB.out⟩
  case stop =>
    rintro D c pre W hD hS h hK
    exact h.elim
set_option maxRecDepth 100000 in
set_option maxHeartbeats 4000000 in
theorem chosen_wi (xs ys : List Int) (hx : xs.length ≤ 1000000) (hy : ys.length ≤ 1000000) (vx : Val xs) (vy : Val ys) (sx sy : Value) (w : World) (hX : Ints w.heap.size w sx xs) (hY : Ints w.heap.size w sy ys) :
    Calls Try.prog 53 #[sx, sy, .func (.func 41) #[] #[]] w (IntsOut w (selL fWi xs ys)) := by
  obtain ⟨i0, hi, hz0, hz1, hz2⟩ := info_parts infoI
  obtain ⟨a1, c1, rfl, hx1⟩ := hX
  obtain ⟨a2, c2, rfl, hy1⟩ := hY
  refine (callsIn_wide (n := 6)).1 ?_
  refine callsIn_of_wp_marks Try.func53 rfl trivial ?_ rfl
  simp only [Try.ntmps53, List.size_toArray, List.length_cons, List.length_nil, Nat.reduceAdd, Nat.reduceSub, Array.replicate_succ, Array.replicate_zero, List.push_toArray, List.append_toArray, List.nil_append, List.cons_append]
  gi_wp2_with fail
  refine ⟨trivial, ?_⟩
  refine (side_in _ a1 a2 xs.length ys.length c1 c2 _).mono ?_
  rintro e w' ⟨rfl, rfl⟩
  gi_wp2_with fail
  have hb1 : Boxed ((((w.alloc (.cells #[.func (.func 41) #[] #[]] 50)).alloc (.cells #[.slice none 0 0] 22)).alloc (.cells #[.slice a1 xs.length c1] 22)).alloc (.cells #[.slice a2 ys.length c2] 22)) w.heap.size 50 (.func (.func 41) #[] #[]) := (((Boxed.new w _ _).alloc _).alloc _).alloc _
  have hb2 : Boxed ((((w.alloc (.cells #[.func (.func 41) #[] #[]] 50)).alloc (.cells #[.slice none 0 0] 22)).alloc (.cells #[.slice a1 xs.length c1] 22)).alloc (.cells #[.slice a2 ys.length c2] 22)) (w.heap.size + 1) 22 (.slice none 0 0) := by
    have h := ((Boxed.new (w.alloc (.cells #[.func (.func 41) #[] #[]] 50)) 22 (.slice none 0 0)).alloc (.cells #[.slice a1 xs.length c1] 22)).alloc (.cells #[.slice a2 ys.length c2] 22)
    simpa only [World.size_alloc] using h
  have hb3 : Boxed ((((w.alloc (.cells #[.func (.func 41) #[] #[]] 50)).alloc (.cells #[.slice none 0 0] 22)).alloc (.cells #[.slice a1 xs.length c1] 22)).alloc (.cells #[.slice a2 ys.length c2] 22)) (w.heap.size + 1 + 1) 22 (.slice a1 xs.length c1) := by
    have h := (Boxed.new ((w.alloc (.cells #[.func (.func 41) #[] #[]] 50)).alloc (.cells #[.slice none 0 0] 22)) 22 (.slice a1 xs.length c1)).alloc (.cells #[.slice a2 ys.length c2] 22)
    simpa only [World.size_alloc] using h
  have hb4 : Boxed ((((w.alloc (.cells #[.func (.func 41) #[] #[]] 50)).alloc (.cells #[.slice none 0 0] 22)).alloc (.cells #[.slice a1 xs.length c1] 22)).alloc (.cells #[.slice a2 ys.length c2] 22)) (w.heap.size + 1 + 1 + 1) 22 (.slice a2 ys.length c2) := by
    have h := Boxed.new (((w.alloc (.cells #[.func (.func 41) #[] #[]] 50)).alloc (.cells #[.slice none 0 0] 22)).alloc (.cells #[.slice a1 xs.length c1] 22)) 22 (.slice a2 ys.length c2)
    simpa only [World.size_alloc] using h
  have hB0 : Below w.heap.size w ((((w.alloc (.cells #[.func (.func 41) #[] #[]] 50)).alloc (.cells #[.slice none 0 0] 22)).alloc (.cells #[.slice a1 xs.length c1] 22)).alloc (.cells #[.slice a2 ys.length c2] 22)) := ((((Below.refl _ _).alloc (Nat.le_refl _) _).alloc (by simp) _).alloc (by simp; omega) _).alloc (by simp; omega) _
  have hz : ((((w.alloc (.cells #[.func (.func 41) #[] #[]] 50)).alloc (.cells #[.slice none 0 0] 22)).alloc (.cells #[.slice a1 xs.length c1] 22)).alloc (.cells #[.slice a2 ys.length c2] 22)).heap.size = w.heap.size + 4 := by simp only [World.size_alloc]
  generalize (((w.alloc (.cells #[.func (.func 41) #[] #[]] 50)).alloc (.cells #[.slice none 0 0] 22)).alloc (.cells #[.slice a1 xs.length c1] 22)).alloc (.cells #[.slice a2 ys.length c2] 22) = W0 at *
  have hlen := sideF_len (xs.length + ys.length) xs ys
  refine wpIn_rangeFunc_ownH rfl (by omega) (gf := 67) (lb := #[.pointer (some ⟨w.heap.size + 1 + 1, 0, none⟩), .pointer (some ⟨w.heap.size + 1 + 1 + 1, 0, none⟩)]) rfl trivial (enters_of Try.func67 (by kernel_rfl) rfl)
    (sides_stops 5 (by omega) w.heap.size (w.heap.size + 1 + 1) (w.heap.size + 1 + 1 + 1) a1 a2 c1 c2 xs ys W0 (by omega) (hx1.below hB0) (hy1.below hB0) vx vy hb3.cell hb4.cell (by omega) (by omega)) (fun h k => h.trans k) (fun W l o o' hl h hc hw => belowK_b (w := W0) (by omega) W l o o' hl h hc hw) (Below.refl _ _) (fun _ => rfl)
    (fun pre W => (Boxed W w.heap.size 50 (.func (.func 41) #[] #[]) ∧ Below w.heap.size w W) ∧ ∃ v, Boxed W (w.heap.size + 1) 22 v ∧ W.ownsRow w.heap.size 3 1 v (cho fWi pre).length (ic (cho fWi pre)) ∧ True)
    (fun _ _ _ => False)
    (OwnFrom.and (OwnFrom.and (Own.from (boxed_own _ _ (fun _ => _)) _) (ownFrom_below (Nat.le_refl _) (by omega))) (Own.from (holdsRow_own _ _ _ _ _ _ _ (fun _ _ => True)) _))
    (fun c s A B row h hg hr => h)
    ⟨⟨hb1, hB0⟩, _, hb2, World.ownsRow_nil _ _ _ _, trivial⟩
    (fun x a' W => ∃ Bx, w.heap.size + 1 < Bx ∧ W.heap[Bx]? = some (.cells #[.bool x.2.1, .bool x.2.2] 49 (0, 0)) ∧ a' = { tmps := #[.slice a1 xs.length c1, .slice a2 ys.length c2, .func (.func 41) #[] #[], undef, undef, .pointer (some ⟨w.heap.size, 0, none⟩), .slice none 0 0, .pointer (some ⟨w.heap.size + 1, 0, none⟩), .int .i64 x.1, .pointer (some ⟨Bx, 0, none⟩), .slice a1 xs.length c1, .slice a2 ys.length c2, .func (.func 67) #[] #[.pointer (some ⟨w.heap.size + 1 + 1, 0, none⟩), .pointer (some ⟨w.heap.size + 1 + 1 + 1, 0, none⟩)], .int .i64 x.1, .agg #[.bool x.2.1, .bool x.2.2], undef, undef, undef, undef, undef, undef, undef, undef], defers := [] })
    (fun x a' _ A B row hs hg hr => by
      obtain ⟨Bx, i1, i2, i3⟩ := hs
      exact ⟨Bx, i1, row_own (β := Unit) Bx _ (fun _ => _) () A B row i2 hg (fun r e => (hr r e).2), i3⟩)
    ?assign ?body ?done ?stop
  case assign =>
    rintro l pre x W K ⟨⟨i1, i2⟩, v, i3, i4, _⟩ hK
    have hle := i2.size
    have hl3 := i3.lt
    gi_wp2
    refine hK _ _ ((KeepsOthers.alloc _ _).from _) ((Below.refl _ W).alloc hle _) ⟨⟨i1.alloc _, i2.alloc hle _⟩, v, i3.alloc _, i4.alloc _, trivial⟩ ⟨W.heap.size, hl3, heap_alloc_new _ _, rfl⟩
  case body =>
    rintro l pre x a' W hl _ ⟨⟨i1, i2⟩, v, i3, i4, _⟩ ⟨Bx, j1, j2, rfl⟩ hlt
    obtain ⟨z, p, q⟩ := x
    dsimp only at j2 ⊢
    have hcl := cho_len fWi pre
    have hf := i1.cell
    obtain ⟨A', c', rfl⟩ := own_form i4
    obtain ⟨u0, u1⟩ := cells2' j2
    cases hpq : fWi p q with
    | true =>
      have HY := Lib.hid (cho_snoc_yes (f := fWi) (t := pre) (x := (z, p, q)) hpq)
      gi_wp2_with fail
      refine ⟨trivial, ?_⟩
      refine (CallsIn.inRound l (callsIn_wide.2 (wi1_any p q _))).mono ?_
      rintro e W2 ⟨rfl, hb⟩
      rw [hpq]
      have k1 := boxed_below i1 hb
      have k2 : Below w.heap.size w W2 := i2.trans (hb.mono i2.size)
      have k3 := boxed_below i3 hb
      have k4 := own_belowP i4 hb
      have KO := keeps_below hb
      have hle := k2.size
      have hle0 := i2.size
      have hc := k3.cell
      clear i1 i3 i4 hf u0 u1 j2
      gi_wp2_with (gi_at_builtin; refine wpListIn_append_own_at _ rfl _ _ 22 rfl w.heap.size 3 i0 (.int .i64 0) 1 8 Try.underlying22 hi hz0 hz1 hz2 rfl (by decide) _ (cho fWi pre).length _ rfl (k4.alloc _) ⟨W2.heap.size, 0, none⟩ 1 1 [.int .i64 z] rfl rfl (cell_one_new _ _ _) (by simp [Value.oneCell']) (by simp only [maxLen]; unfold sideL at hlt; omega) (by unfold sideL at hlt; omega) (by have := hle; simp; omega) ?_; intro v' w1 hown' hgrow _ hat; obtain ⟨g', cap', rfl⟩ := ownsRow_succ hown'; obtain ⟨hv1, hv2, hr2, hk2, hb2⟩ := k3.appended (by decide) k4 hle (by omega) hown' hgrow; have hc1 := hv1.cell; have hf1 := hv1.frozen; have hbx := fun u' => box_appended (v' := u') k1 (by decide) k4 hgrow (by omega : w.heap.size ≠ w.heap.size + 1))
      refine ⟨(KO.trans hk2).from _, (hb.mono hle0).trans hb2, ⟨hbx _, k2.trans hb2⟩, _, hv2, ?_, trivial⟩
      rw [HY.out, List.length_append]
      unfold ic at hr2 ⊢
      rw [List.map_append]
      exact hr2
    | false =>
      have HN := Lib.hid (cho_snoc_no (f := fWi) (t := pre) (x := (z, p, q)) hpq)
      gi_wp2_with fail
      refine ⟨trivial, ?_⟩
      refine (CallsIn.inRound l (callsIn_wide.2 (wi1_any p q _))).mono ?_
      rintro e W2 ⟨rfl, hb⟩
      rw [hpq]
      gi_wp2
      refine ⟨(keeps_below hb).from _, hb.mono i2.size, ⟨boxed_below i1 hb, i2.trans (hb.mono i2.size)⟩, _, boxed_below i3 hb, ?_, trivial⟩
      rw [HN.out]
      exact own_belowP i4 hb
  case done =>
    rintro D zs W hD rfl ⟨⟨i1, i2⟩, v, i3, i4, _⟩ hK
    obtain ⟨A', c', rfl⟩ := own_form i4
    have hc := i3.cell
    have HO := Lib.hid (ownsRow_putObj i4 (.deferred none) hK rfl)
    have HB := Lib.hid (i2.trans (belowK_b (w := w) (Nat.le_refl _) W D _ (.deferred none) (by omega) hK rfl rfl))
    gi_wp2
    refine ⟨by simp, .inl ⟨_, _, rfl, run_takeDeferred hK, ?_⟩⟩
    exact ⟨_, results_tmp rfl _ _ _, _, rfl, Ints.of_own HO.out (Nat.le_refl _), HB.out⟩
  case stop =>
    rintro D c pre W hD hS h hK
    exact h.elim
set_option maxRecDepth 100000 in
set_option maxHeartbeats 4000000 in
theorem chosen_all (xs ys : List Int) (hx : xs.length ≤ 1000000) (hy : ys.length ≤ 1000000) (vx : Val xs) (vy : Val ys) (sx sy : Value) (w : World) (hX : Ints w.heap.size w sx xs) (hY : Ints w.heap.size w sy ys) :
    Calls Try.prog 53 #[sx, sy, .func (.func 57) #[] #[]] w (IntsOut w (selL fAll xs ys)) := by
  obtain ⟨i0, hi, hz0, hz1, hz2⟩ := info_parts infoI
  obtain ⟨a1, c1, rfl, hx1⟩ := hX
  obtain ⟨a2, c2, rfl, hy1⟩ := hY
  refine (callsIn_wide (n := 6)).1 ?_
  refine callsIn_of_wp_marks Try.func53 rfl trivial ?_ rfl
  simp only [Try.ntmps53, List.size_toArray, List.length_cons, List.length_nil, Nat.reduceAdd, Nat.reduceSub, Array.replicate_succ, Array.replicate_zero, List.push_toArray, List.append_toArray, List.nil_append, List.cons_append]
  gi_wp2_with fail
  refine ⟨trivial, ?_⟩
  refine (side_in _ a1 a2 xs.length ys.length c1 c2 _).mono ?_
  rintro e w' ⟨rfl, rfl⟩
  gi_wp2_with fail
  have hb1 : Boxed ((((w.alloc (.cells #[.func (.func 57) #[] #[]] 50)).alloc (.cells #[.slice none 0 0] 22)).alloc (.cells #[.slice a1 xs.length c1] 22)).alloc (.cells #[.slice a2 ys.length c2] 22)) w.heap.size 50 (.func (.func 57) #[] #[]) := (((Boxed.new w _ _).alloc _).alloc _).alloc _
  have hb2 : Boxed ((((w.alloc (.cells #[.func (.func 57) #[] #[]] 50)).alloc (.cells #[.slice none 0 0] 22)).alloc (.cells #[.slice a1 xs.length c1] 22)).alloc (.cells #[.slice a2 ys.length c2] 22)) (w.heap.size + 1) 22 (.slice none 0 0) := by
    have h := ((Boxed.new (w.alloc (.cells #[.func (.func 57) #[] #[]] 50)) 22 (.slice none 0 0)).alloc (.cells #[.slice a1 xs.length c1] 22)).alloc (.cells #[.slice a2 ys.length c2] 22)
    simpa only [World.size_alloc] using h
  have hb3 : Boxed ((((w.alloc (.cells #[.func (.func 57) #[] #[]] 50)).alloc (.cells #[.slice none 0 0] 22)).alloc (.cells #[.slice a1 xs.length c1] 22)).alloc (.cells #[.slice a2 ys.length c2] 22)) (w.heap.size + 1 + 1) 22 (.slice a1 xs.length c1) := by
    have h := (Boxed.new ((w.alloc (.cells #[.func (.func 57) #[] #[]] 50)).alloc (.cells #[.slice none 0 0] 22)) 22 (.slice a1 xs.length c1)).alloc (.cells #[.slice a2 ys.length c2] 22)
    simpa only [World.size_alloc] using h
  have hb4 : Boxed ((((w.alloc (.cells #[.func (.func 57) #[] #[]] 50)).alloc (.cells #[.slice none 0 0] 22)).alloc (.cells #[.slice a1 xs.length c1] 22)).alloc (.cells #[.slice a2 ys.length c2] 22)) (w.heap.size + 1 + 1 + 1) 22 (.slice a2 ys.length c2) := by
    have h := Boxed.new (((w.alloc (.cells #[.func (.func 57) #[] #[]] 50)).alloc (.cells #[.slice none 0 0] 22)).alloc (.cells #[.slice a1 xs.length c1] 22)) 22 (.slice a2 ys.length c2)
    simpa only [World.size_alloc] using h
  have hB0 : Below w.heap.size w ((((w.alloc (.cells #[.func (.func 57) #[] #[]] 50)).alloc (.cells #[.slice none 0 0] 22)).alloc (.cells #[.slice a1 xs.length c1] 22)).alloc (.cells #[.slice a2 ys.length c2] 22)) := ((((Below.refl _ _).alloc (Nat.le_refl _) _).alloc (by simp) _).alloc (by simp; omega) _).alloc (by simp; omega) _
  have hz : ((((w.alloc (.cells #[.func (.func 57) #[] #[]] 50)).alloc (.cells #[.slice none 0 0] 22)).alloc (.cells #[.slice a1 xs.length c1] 22)).alloc (.cells #[.slice a2 ys.length c2] 22)).heap.size = w.heap.size + 4 := by simp only [World.size_alloc]
  generalize (((w.alloc (.cells #[.func (.func 57) #[] #[]] 50)).alloc (.cells #[.slice none 0 0] 22)).alloc (.cells #[.slice a1 xs.length c1] 22)).alloc (.cells #[.slice a2 ys.length c2] 22) = W0 at *
  have hlen := sideF_len (xs.length + ys.length) xs ys
  refine wpIn_rangeFunc_ownH rfl (by omega) (gf := 67) (lb := #[.pointer (some ⟨w.heap.size + 1 + 1, 0, none⟩), .pointer (some ⟨w.heap.size + 1 + 1 + 1, 0, none⟩)]) rfl trivial (enters_of Try.func67 (by kernel_rfl) rfl)
    (sides_stops 5 (by omega) w.heap.size (w.heap.size + 1 + 1) (w.heap.size + 1 + 1 + 1) a1 a2 c1 c2 xs ys W0 (by omega) (hx1.below hB0) (hy1.below hB0) vx vy hb3.cell hb4.cell (by omega) (by omega)) (fun h k => h.trans k) (fun W l o o' hl h hc hw => belowK_b (w := W0) (by omega) W l o o' hl h hc hw) (Below.refl _ _) (fun _ => rfl)
    (fun pre W => (Boxed W w.heap.size 50 (.func (.func 57) #[] #[]) ∧ Below w.heap.size w W) ∧ ∃ v, Boxed W (w.heap.size + 1) 22 v ∧ W.ownsRow w.heap.size 3 1 v (cho fAll pre).length (ic (cho fAll pre)) ∧ True)
    (fun _ _ _ => False)
    (OwnFrom.and (OwnFrom.and (Own.from (boxed_own _ _ (fun _ => _)) _) (ownFrom_below (Nat.le_refl _) (by omega))) (Own.from (holdsRow_own _ _ _ _ _ _ _ (fun _ _ => True)) _))
    (fun c s A B row h hg hr => h)
    ⟨⟨hb1, hB0⟩, _, hb2, World.ownsRow_nil _ _ _ _, trivial⟩
    (fun x a' W => ∃ Bx, w.heap.size + 1 < Bx ∧ W.heap[Bx]? = some (.cells #[.bool x.2.1, .bool x.2.2] 49 (0, 0)) ∧ a' = { tmps := #[.slice a1 xs.length c1, .slice a2 ys.length c2, .func (.func 57) #[] #[], undef, undef, .pointer (some ⟨w.heap.size, 0, none⟩), .slice none 0 0, .pointer (some ⟨w.heap.size + 1, 0, none⟩), .int .i64 x.1, .pointer (some ⟨Bx, 0, none⟩), .slice a1 xs.length c1, .slice a2 ys.length c2, .func (.func 67) #[] #[.pointer (some ⟨w.heap.size + 1 + 1, 0, none⟩), .pointer (some ⟨w.heap.size + 1 + 1 + 1, 0, none⟩)], .int .i64 x.1, .agg #[.bool x.2.1, .bool x.2.2], undef, undef, undef, undef, undef, undef, undef, undef], defers := [] })
    (fun x a' _ A B row hs hg hr => by
      obtain ⟨Bx, i1, i2, i3⟩ := hs
      exact ⟨Bx, i1, row_own (β := Unit) Bx _ (fun _ => _) () A B row i2 hg (fun r e => (hr r e).2), i3⟩)
    ?assign ?body ?done ?stop
  case assign =>
    rintro l pre x W K ⟨⟨i1, i2⟩, v, i3, i4, _⟩ hK
    have hle := i2.size
    have hl3 := i3.lt
    gi_wp2
    refine hK _ _ ((KeepsOthers.alloc _ _).from _) ((Below.refl _ W).alloc hle _) ⟨⟨i1.alloc _, i2.alloc hle _⟩, v, i3.alloc _, i4.alloc _, trivial⟩ ⟨W.heap.size, hl3, heap_alloc_new _ _, rfl⟩
  case body =>
    rintro l pre x a' W hl _ ⟨⟨i1, i2⟩, v, i3, i4, _⟩ ⟨Bx, j1, j2, rfl⟩ hlt
    obtain ⟨z, p, q⟩ := x
    dsimp only at j2 ⊢
    have hcl := cho_len fAll pre
    have hf := i1.cell
    obtain ⟨A', c', rfl⟩ := own_form i4
    obtain ⟨u0, u1⟩ := cells2' j2
    cases hpq : fAll p q with
    | true =>
      have HY := Lib.hid (cho_snoc_yes (f := fAll) (t := pre) (x := (z, p, q)) hpq)
      gi_wp2_with fail
      refine ⟨trivial, ?_⟩
      refine (CallsIn.inRound l (callsIn_wide.2 (all1_any p q _))).mono ?_
      rintro e W2 ⟨rfl, hb⟩
      rw [hpq]
      have k1 := boxed_below i1 hb
      have k2 : Below w.heap.size w W2 := i2.trans (hb.mono i2.size)
      have k3 := boxed_below i3 hb
      have k4 := own_belowP i4 hb
      have KO := keeps_below hb
      have hle := k2.size
      have hle0 := i2.size
      have hc := k3.cell
      clear i1 i3 i4 hf u0 u1 j2
      gi_wp2_with (gi_at_builtin; refine wpListIn_append_own_at _ rfl _ _ 22 rfl w.heap.size 3 i0 (.int .i64 0) 1 8 Try.underlying22 hi hz0 hz1 hz2 rfl (by decide) _ (cho fAll pre).length _ rfl (k4.alloc _) ⟨W2.heap.size, 0, none⟩ 1 1 [.int .i64 z] rfl rfl (cell_one_new _ _ _) (by simp [Value.oneCell']) (by simp only [maxLen]; unfold sideL at hlt; omega) (by unfold sideL at hlt; omega) (by have := hle; simp; omega) ?_; intro v' w1 hown' hgrow _ hat; obtain ⟨g', cap', rfl⟩ := ownsRow_succ hown'; obtain ⟨hv1, hv2, hr2, hk2, hb2⟩ := k3.appended (by decide) k4 hle (by omega) hown' hgrow; have hc1 := hv1.cell; have hf1 := hv1.frozen; have hbx := fun u' => box_appended (v' := u') k1 (by decide) k4 hgrow (by omega : w.heap.size ≠ w.heap.size + 1))
      refine ⟨(KO.trans hk2).from _, (hb.mono hle0).trans hb2, ⟨hbx _, k2.trans hb2⟩, _, hv2, ?_, trivial⟩
      rw [HY.out, List.length_append]
      unfold ic at hr2 ⊢
      rw [List.map_append]
      exact hr2
    | false =>
      have HN := Lib.hid (cho_snoc_no (f := fAll) (t := pre) (x := (z, p, q)) hpq)
      gi_wp2_with fail
      refine ⟨trivial, ?_⟩
      refine (CallsIn.inRound l (callsIn_wide.2 (all1_any p q _))).mono ?_
      rintro e W2 ⟨rfl, hb⟩
      rw [hpq]
      gi_wp2
      refine ⟨(keeps_below hb).from _, hb.mono i2.size, ⟨boxed_below i1 hb, i2.trans (hb.mono i2.size)⟩, _, boxed_below i3 hb, ?_, trivial⟩
      rw [HN.out]
      exact own_belowP i4 hb
  case done =>
    rintro D zs W hD rfl ⟨⟨i1, i2⟩, v, i3, i4, _⟩ hK
    obtain ⟨A', c', rfl⟩ := own_form i4
    have hc := i3.cell
    have HO := Lib.hid (ownsRow_putObj i4 (.deferred none) hK rfl)
    have HB := Lib.hid (i2.trans (belowK_b (w := w) (Nat.le_refl _) W D _ (.deferred none) (by omega) hK rfl rfl))
    gi_wp2
    refine ⟨by simp, .inl ⟨_, _, rfl, run_takeDeferred hK, ?_⟩⟩
    exact ⟨_, results_tmp rfl _ _ _, _, rfl, Ints.of_own HO.out (Nat.le_refl _), HB.out⟩
  case stop =>
    rintro D c pre W hD hS h hK
    exact h.elim
end Go.Proofs.Ytejnmjaclhmelaa.Po
