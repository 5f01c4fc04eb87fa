/- Layer 11: the program's Merge. -/
import Derived.Test.YtobipbedkkmlcaaTaK
set_option maxRecDepth 100000
set_option linter.unusedVariables false
set_option linter.unusedSimpArgs false
namespace Go.Proofs.Ytobipbedkkmlcaa.Sr
open Go.RowKit Go.Shelf
attribute [local go_sem] Oper.semAt_some
/-- No two stand side by side at one time; two do. -/
def Dif (l : List (S × S)) : Prop := ∀ p ∈ l, p.1.1 ≠ p.2.1
def Eqt (l : List (S × S)) : Prop := ∃ p ∈ l, p.1.1 = p.2.1
theorem row_le {w : World} {B : Nat} {v : Value} {l : List S} (h : OwnS w B v l) : ∀ g, v.ownBlock = some g → B ≤ g := fun g e => (World.ownsRow.lt h g e).1
/-- What is handed back: out of the two cells, behind the loop. -/
theorem OwnS.set_low {w : World} {B X : Nat} {v u : Value} {l : List S} (h : OwnS w B v l) (hX : X < B) : OwnS (w.setCell ⟨X, 0, none⟩ u) B v l :=
  World.ownsRow.kept h (grownBy_setCell' w X u) (.inr fun e => by have := row_le h X e; omega)
set_option maxHeartbeats 8000000 in
theorem pMerge_good (a b : List S) (A1 A2 : Option Addr) (c1 c2 : Nat) (w : World) (hA : LS w w.heap.size A1 a) (hB : LS w w.heap.size A2 b) (ha : chk 1 a = 0) (hb : chk 1 b = 0) :
    Calls Try.prog 25 #[.slice A1 a.length c1, .slice A2 b.length c2] w (OwnPost2 (mrgO a b) w) := by
  have hl := chk_len ha
  have hl2 := chk_len hb
  obtain ⟨WR, hWR⟩ : ∃ WR, WR = (w.alloc (.cells #[.slice none 0 0] 22)).alloc (.cells #[.int .i64 0] 26) := ⟨_, rfl⟩
  have B0 : Below w.heap.size w WR := by rw [hWR]; exact ((Below.refl _ w).alloc (Nat.le_refl _) _).alloc (by simp) _
  have k4 : Boxed WR w.heap.size 22 (.slice none 0 0) := by rw [hWR]; exact (Boxed.new w _ _).alloc _
  have k5 : Boxed WR (w.heap.size + 1) 26 (.int .i64 0) := by
    rw [hWR]
    have h := Boxed.new (w.alloc (.cells #[.slice none 0 0] 22)) 26 (.int .i64 0)
    simpa only [World.size_alloc] using h
  have C1 := Lib.hid (invalid_any a (by omega) A1 c1 WR ((hA.below B0).more B0.size))
  have C2 : Hid (∀ W, Below w.heap.size w W → Calls Try.prog 39 #[.slice A2 b.length c2] W fun e w' => e = .returned (.bool (decide (chk 1 b ≠ 0))) ∧ Below W.heap.size W w') := Lib.hid fun W hb => invalid_any b (by omega) A2 c2 W ((hB.below hb).more hb.size)
  rw [decide_eq_false (by omega)] at C1 C2
  rw [hWR] at C1 B0 k4 k5
  clear hWR
  refine (callsIn_wide (n := 6)).1 ?_
  refine callsIn_of_wp_marks Try.func25 rfl trivial ?_ rfl
  simp only [Try.ntmps25, List.size_toArray, List.length_cons, List.length_nil, Nat.reduceAdd, Nat.reduceSub, Array.replicate_succ, Array.replicate_zero, List.push_toArray, List.append_toArray, List.nil_append, List.cons_append]
  gi_wp2_with fail
  refine ⟨trivial, ?_⟩
  refine (callsIn_wide.2 C1.out).mono ?_
  rintro e w1 ⟨rfl, hb1⟩
  have k4 := boxed_below k4 hb1
  have k5 := boxed_below k5 hb1
  have B1 := B0.trans (hb1.mono B0.size)
  clear hb1 B0 C1
  gi_wp2_with fail
  refine ⟨trivial, ?_⟩
  refine (callsIn_wide.2 (C2.out _ B1)).mono ?_
  rintro e w2 ⟨rfl, hb2⟩
  have k4 := boxed_below k4 hb2
  have k5 := boxed_below k5 hb2
  have B2 := B1.trans (hb2.mono B1.size)
  clear hb2 B1 C2
  have hX4 := k4.lt
  have hX5 := k5.lt
  gi_wp2_with fail
  refine ⟨trivial, ?_⟩
  have BA : Below w2.heap.size w2 (w2.alloc (.cells #[.slice A1 a.length c1, .slice A2 b.length c2] 22)) := (Below.refl _ _).alloc (Nat.le_refl _) _
  refine (callsIn_wide.2 (concat_two a b (by omega) (by omega) A1 A2 c1 c2 a.length b.length rfl rfl w2 _ w2.heap.size BA (by simp) (heap_alloc_new w2 _) ((((hA.below B2).more B2.size).below BA).more BA.size) ((((hB.below B2).more B2.size).below BA).more BA.size))).mono ?_
  rintro e w3 ⟨v3, rfl, ho3, hb3⟩
  clear BA hA hB
  gi_wp2_with fail
  refine ⟨trivial, ?_⟩
  refine (callsIn_wide.2 (sort_own (a ++ b) (by rw [List.length_append]; omega) v3 w2.heap.size w3 ho3)).mono ?_
  rintro e w4 ⟨rfl, s, hs, hlen, ho4, hg4⟩
  rw [List.length_append] at hlen
  have hb4 : Below w2.heap.size w2 w4 := hb3.grown hg4.out hb3.size (row_le ho3)
  have ho4 := ho4.out
  clear ho3 hb3 hg4
  gi_wp2_with fail
  refine ⟨trivial, ?_⟩
  refine (callsIn_wide.2 (compact_own s (by omega) v3 w2.heap.size w4 ho4)).mono ?_
  rintro e w5 ⟨v5, rfl, hv5, ho5, hg5⟩
  have hb5 : Below w2.heap.size w2 w5 := hb4.grown hg5.out hb4.size (row_le ho4)
  have ho5 := ho5.out
  have hcl := cmpc_len s
  have MO : Hid ((∀ p ∈ nbs (cmpc s), p.1.1 ≠ p.2.1) → mrg a b = some (cmpc s)) := Lib.hid fun h => merged_ok (chk_asc ha) (chk_asc hb) hs h
  have MN : Hid (∀ p ∈ nbs (cmpc s), p.1.1 = p.2.1 → mrg a b = none) := Lib.hid fun p hp ht => merged_no (chk_asc ha) (chk_asc hb) hs hp ht
  have GO : Hid (∀ r, mrg a b = some r → r.length ≤ 2000 → mrgO a b = (r, 0)) := Lib.hid fun r h hn => mrgO_ok ha hb h hn
  have GL : Hid (∀ r, mrg a b = some r → 2000 < r.length → mrgO a b = ([], 4)) := Lib.hid fun r h hn => mrgO_long ha hb h hn
  have GN : Hid (mrg a b = none → mrgO a b = ([], 16)) := Lib.hid fun h => mrgO_clash ha hb h
  generalize cmpc s = l at *
  clear hg5 hb4 ho4 hv5 hs
  obtain ⟨A, c, rfl, hL5⟩ := ho5.form
  gi_wp2_with fail
  refine ⟨trivial, ?_⟩
  refine (nb_in _ A l.length c _).mono ?_
  rintro e w' ⟨rfl, rfl⟩
  gi_wp2_with fail
  have k4 := (hb5.block w.heap.size hX4).trans k4
  have k5 := (hb5.block (w.heap.size + 1) hX5).trans k5
  have B5 : Below w.heap.size w w5 := B2.trans (hb5.mono B2.size)
  have hs5 := hb5.size
  have hbx : (w5.alloc (.cells #[.slice A l.length c] 22)).cell? ⟨w5.heap.size, 0, none⟩ = some (.slice A l.length c) := by go_simp
  have hBB : Below w5.heap.size w5 (w5.alloc (.cells #[.slice A l.length c] 22)) := (Below.refl _ _).alloc (Nat.le_refl _) _
  have hz0 : (w5.alloc (.cells #[.slice A l.length c] 22)).heap.size = w5.heap.size + 1 := by simp only [World.size_alloc]
  have K4 : Hid (Boxed (w5.alloc (.cells #[.slice A l.length c] 22)) w.heap.size 22 (.slice none 0 0)) := Boxed.alloc k4 _
  have K5 : Hid (Boxed (w5.alloc (.cells #[.slice A l.length c] 22)) (w.heap.size + 1) 26 (.int .i64 0)) := Boxed.alloc k5 _
  have O5 : Hid (OwnS (w5.alloc (.cells #[.slice A l.length c] 22)) w2.heap.size (.slice A l.length c) l) := ho5.below hBB
  have HB0 : Hid (Below w.heap.size w (w5.alloc (.cells #[.slice A l.length c] 22))) := B5.alloc B5.size _
  clear k4 k5 B5 ho5 hb5
  generalize w5.alloc (.cells #[.slice A l.length c] 22) = W0 at *
  obtain ⟨b1, o, hLi, hlt1, hor⟩ := lies_new l A c w5 W0 w5.heap.size hL5 hBB hbx (by omega)
  have ST := Lib.hid (nb_stops (fun _ => True) 5 (by omega) b1 w5.heap.size o c A l (by omega) (fun _ _ => trivial) W0 hlt1 (by omega) hLi)
  have hsB := B2.size
  clear hLi hL5 hbx hBB B2
  refine wpIn_rangeFunc_ownH rfl (by omega) (gf := 50) (lb := #[.pointer (some ⟨w5.heap.size, 0, none⟩)]) rfl trivial (enters_of Try.func50 (by kernel_rfl) rfl)
    ST.out (fun h k => h.trans k) (fun W lq oq oq' hlq hq hc hw => KK.put (by omega) (by omega)) (Below.refl _ _) (fun _ => rfl)
    (fun pre W => Dif (valP pre) ∧ Below W0.heap.size W0 W)
    (fun cc pre W => ((cc = .ret ∧ Eqt (valP pre)) ∧ Boxed W w.heap.size 22 (.slice none 0 0) ∧ Boxed W (w.heap.size + 1) 26 (.int .i64 16)) ∧ Below w.heap.size w W)
    (OwnFrom.and (ownFrom_pure _ _) (ownFrom_below (Nat.le_refl _) (Nat.le_refl _)))
    (fun cc => OwnFrom.and (OwnFrom.and (ownFrom_pure _ _) (OwnFrom.and (Own.from (boxed_own _ _ (fun _ => _)) _) (Own.from (boxed_own _ _ (fun _ => _)) _))) (ownFrom_below (Nat.le_refl _) HB0.out.size))
    ⟨fun p hp => by simp [valP] at hp, Below.refl _ _⟩
    (fun x a' W => ∃ Bp Bx, w5.heap.size < Bp ∧ w5.heap.size < Bx ∧ W.heap[Bp]? = some (.cells #[.int .i64 x.1.1.1, .int .i64 x.1.1.2] 33 (0, 0)) ∧ W.heap[Bx]? = some (.cells #[.int .i64 x.1.2.1, .int .i64 x.1.2.2] 33 (0, 0)) ∧ ∃ tm : Array Value, a' = { tmps := #[.slice A1 a.length c1, .slice A2 b.length c2, undef, undef, .pointer (some ⟨w.heap.size, 0, none⟩), .pointer (some ⟨w.heap.size + 1, 0, none⟩), .slice A l.length c, .pointer (some ⟨Bp, 0, none⟩), .pointer (some ⟨Bx, 0, none⟩), .slice A1 a.length c1, .bool false, .bool false, .slice A2 b.length c2, .bool false, .bool false, .slice A1 a.length c1, .slice A2 b.length c2, .slice (some ⟨w2.heap.size, 0, none⟩) 2 2, v3, v3, .tuple #[], v3, .slice A l.length c, .slice A l.length c, .func (.func 50) #[] #[.pointer (some ⟨w5.heap.size, 0, none⟩)], .agg #[.int .i64 x.1.1.1, .int .i64 x.1.1.2], .agg #[.int .i64 x.1.2.1, .int .i64 x.1.2.2], undef, undef, undef, undef, undef, undef, undef, undef, undef], defers := [] })
    (fun x a' _ A B row hs hg hr => by
      obtain ⟨Bp, Bx, i1, i2, i3, i4, i5⟩ := hs
      exact ⟨Bp, Bx, i1, i2, row_own (β := Unit) Bp _ (fun _ => _) () A B row i3 hg (fun r e => (hr r e).2), row_own (β := Unit) Bx _ (fun _ => _) () A B row i4 hg (fun r e => (hr r e).2), i5⟩)
    ?assign ?body ?done ?stop
  case assign =>
    rintro lc pre x W K ⟨i1, i2⟩ hK
    have hle := i2.size
    gi_wp2
    refine hK _ _ (((KeepsOthers.alloc _ _).trans (KeepsOthers.alloc _ _)).from _) ⟨(Below.heap_alloc _ _ _ (by simp; omega)).trans (Below.heap_alloc _ _ _ (by omega)), (Below.heap_alloc _ _ _ (by simp; omega)).trans (Below.heap_alloc _ _ _ (by omega))⟩ ⟨i1, (i2.alloc hle _).alloc (by simp; omega) _⟩ ⟨W.heap.size, W.heap.size + 1, by omega, by omega, ?_, ?_, #[], rfl⟩
    · exact (Below.heap_alloc _ _ _ (by simp)).trans (heap_alloc_new _ _)
    · have h := heap_alloc_new (W.alloc (.cells #[.int .i64 x.1.1.1, .int .i64 x.1.1.2] 33)) (.cells #[.int .i64 x.1.2.1, .int .i64 x.1.2.2] 33)
      simpa only [World.size_alloc] using h
  case body =>
    rintro lc pre x a' W hlc _ ⟨i1, i2⟩ ⟨Bp, Bx, j1, j2, j3, j4, tm, rfl⟩ hlt
    have hvs := valP_snoc pre x
    obtain ⟨⟨⟨t1, v1⟩, ⟨t2, v2⟩⟩, hxx⟩ := x
    dsimp only at hvs j3 j4 ⊢
    obtain ⟨p0, p1⟩ := cells2' j3
    obtain ⟨x0, x1⟩ := cells2' j4
    have k4 := (i2.block w.heap.size K4.out.lt).trans K4.out
    have k5 := (i2.block (w.heap.size + 1) K5.out.lt).trans K5.out
    by_cases hq : t1 = t2
    · have hq1 : (t1 == t2) = true := by simp [hq]
      have HV : Hid (Eqt (valP (pre ++ [⟨((t1, v1), (t2, v2)), hxx⟩]))) := Lib.hid ⟨_, by rw [hvs]; exact List.mem_append_right _ (List.mem_singleton.2 rfl), hq⟩
      have TB := Lib.hid (two_cells k4 k5 (by omega) (.slice none 0 0) (.int .i64 16))
      have z4 : W.cell? ⟨w.heap.size, 0, none⟩ = some (.slice none 0 0) := Boxed.cell k4
      have f4 : W.frozen? ⟨w.heap.size, 0, none⟩ = false := Boxed.frozen k4
      have z5 : W.cell? ⟨w.heap.size + 1, 0, none⟩ = some (.int .i64 0) := Boxed.cell k5
      have f5 : W.frozen? ⟨w.heap.size + 1, 0, none⟩ = false := Boxed.frozen k5
      have HB := Lib.hid (HB0.out.trans (i2.mono HB0.out.size))
      clear hq hvs i1 i2 k4 k5
      gi_wp2
      exact ⟨((KeepsOthers.setCell _ _ _).trans (KeepsOthers.setCell _ _ _)).from _, ⟨⟨rfl, HV.out⟩, TB.out.1, TB.out.2⟩, (HB.out.setCell (p := ⟨w.heap.size, 0, none⟩) (Nat.le_refl _) _).setCell (p := ⟨w.heap.size + 1, 0, none⟩) (Nat.le_succ _) _⟩
    · have hq1 : (t1 == t2) = false := by simp [hq]
      have HV : Hid (Dif (valP (pre ++ [⟨((t1, v1), (t2, v2)), hxx⟩]))) := Lib.hid fun p hp => by
        rw [hvs] at hp
        rcases List.mem_append.1 hp with h | h
        · exact i1 p h
        · rw [List.mem_singleton.1 h]; exact hq
      clear hq hvs i1 k4 k5
      gi_wp2
      exact ⟨KeepsFrom.refl _ _, KK.refl _ _ _, HV.out, by rw [← hz0]; exact i2⟩
  case done =>
    rintro D zs W hD hzs ⟨i1, i2⟩ hK
    rw [hzs] at i1
    have k4 := (i2.block w.heap.size K4.out.lt).trans K4.out
    have k5 := (i2.block (w.heap.size + 1) K5.out.lt).trans K5.out
    have z4 : W.cell? ⟨w.heap.size, 0, none⟩ = some (.slice none 0 0) := Boxed.cell k4
    have f4 : W.frozen? ⟨w.heap.size, 0, none⟩ = false := Boxed.frozen k4
    have z5 : W.cell? ⟨w.heap.size + 1, 0, none⟩ = some (.int .i64 0) := Boxed.cell k5
    have f5 : W.frozen? ⟨w.heap.size + 1, 0, none⟩ = false := Boxed.frozen k5
    have HB := Lib.hid (HB0.out.trans (i2.mono HB0.out.size))
    have HO : Hid (OwnS W w2.heap.size (.slice A l.length c) l) := Lib.hid (O5.out.below i2)
    have hm := MO.out i1
    by_cases hlong : 2000 < l.length
    · have HE := Lib.hid (GL.out l hm hlong)
      have hlong1 : (2000 : Int) < l.length := by omega
      have TB := two_cells k4 k5 (by omega) (.slice none 0 0) (.int .i64 4)
      have hK' := ((KeepsOthers.setCell W ⟨w.heap.size, 0, none⟩ (.slice none 0 0)).trans (KeepsOthers.setCell _ ⟨w.heap.size + 1, 0, none⟩ (.int .i64 4))).same D _ hK rfl
      have y4 := cell_kept TB.1.cell (grownBy_putObj' _ D (.deferred none)) (fun r e => by cases e; exact ⟨_, hK', rfl⟩)
      have y5 := cell_kept TB.2.cell (grownBy_putObj' _ D (.deferred none)) (fun r e => by cases e; exact ⟨_, hK', rfl⟩)
      clear k4 k5 TB i1 i2 hm
      gi_wp2
      refine ⟨by simp, .inl ⟨_, _, rfl, run_takeDeferred hK', ?_⟩⟩
      refine ⟨.tuple #[.slice none 0 0, .int .i64 4], by simp [results, Try.f25, go_sem, y4, y5], ?_⟩
      rw [HE.out]
      exact none_out (((HB.out.setCell (p := ⟨w.heap.size, 0, none⟩) (Nat.le_refl _) _).setCell (p := ⟨w.heap.size + 1, 0, none⟩) (Nat.le_succ _) _).trans (belowK_b (w := w) (Nat.le_refl _) _ D _ _ (by omega) hK' rfl rfl)) 4
    · have HE := Lib.hid (GO.out l hm (by omega))
      have hlong1 : ¬ (2000 : Int) < l.length := by omega
      have TB := two_cells k4 k5 (by omega) (.slice A l.length c) (.int .i64 0)
      have hK' := ((KeepsOthers.setCell W ⟨w.heap.size, 0, none⟩ (.slice A l.length c)).trans (KeepsOthers.setCell _ ⟨w.heap.size + 1, 0, none⟩ (.int .i64 0))).same D _ hK rfl
      have y4 := cell_kept TB.1.cell (grownBy_putObj' _ D (.deferred none)) (fun r e => by cases e; exact ⟨_, hK', rfl⟩)
      have y5 := cell_kept TB.2.cell (grownBy_putObj' _ D (.deferred none)) (fun r e => by cases e; exact ⟨_, hK', rfl⟩)
      have HO2 : Hid (OwnS (((W.setCell ⟨w.heap.size, 0, none⟩ (.slice A l.length c)).setCell ⟨w.heap.size + 1, 0, none⟩ (.int .i64 0)).putObj D (.deferred none)) w2.heap.size (.slice A l.length c) l) := Lib.hid (ownsRow_putObj ((HO.out.set_low (by omega)).set_low (by omega)) (.deferred none) hK' rfl)
      clear k4 k5 TB i1 i2 hm HO
      gi_wp2
      refine ⟨by simp, .inl ⟨_, _, rfl, run_takeDeferred hK', ?_⟩⟩
      refine ⟨.tuple #[.slice A l.length c, .int .i64 0], by simp [results, Try.f25, go_sem, y4, y5], ?_⟩
      rw [HE.out]
      exact ⟨_, rfl, HO2.out.more hsB, ((HB.out.setCell (p := ⟨w.heap.size, 0, none⟩) (Nat.le_refl _) _).setCell (p := ⟨w.heap.size + 1, 0, none⟩) (Nat.le_succ _) _).trans (belowK_b (w := w) (Nat.le_refl _) _ D _ _ (by omega) hK' rfl rfl)⟩
  case stop =>
    rintro D cc pre W hD hpre ⟨⟨⟨rfl, p, hp, ht⟩, k4, k5⟩, i2⟩ hK
    have HE := Lib.hid (GN.out (MN.out p (hpre.subset hp) ht))
    have y4 := cell_kept k4.cell (grownBy_putObj' _ D (.deferred none)) (fun r e => by cases e; exact ⟨_, hK, rfl⟩)
    have y5 := cell_kept k5.cell (grownBy_putObj' _ D (.deferred none)) (fun r e => by cases e; exact ⟨_, hK, rfl⟩)
    clear hpre
    gi_wp2
    refine ⟨by simp, .inl ⟨_, _, rfl, run_takeDeferred hK, ?_⟩⟩
    refine ⟨.tuple #[.slice none 0 0, .int .i64 16], by simp [results, Try.f25, go_sem, y4, y5], ?_⟩
    rw [HE.out]
    exact none_out (i2.trans (belowK_b (w := w) (Nat.le_refl _) _ D _ _ (by omega) hK rfl rfl)) 16
theorem pMerge_any (a b : List S) (hl : a.length ≤ 100000) (hl2 : b.length ≤ 100000) (A1 A2 : Option Addr) (c1 c2 : Nat) (w : World) (hA : LS w w.heap.size A1 a) (hB : LS w w.heap.size A2 b) :
    Calls Try.prog 25 #[.slice A1 a.length c1, .slice A2 b.length c2] w (OwnPost2 (mrgO a b) w) := by
  by_cases h : chk 1 a ≠ 0 ∨ chk 1 b ≠ 0
  · exact pMerge_bad a b hl hl2 A1 A2 c1 c2 w hA hB h
  · exact pMerge_good a b A1 A2 c1 c2 w hA hB (by omega) (by omega)
end Go.Proofs.Ytobipbedkkmlcaa.Sr
