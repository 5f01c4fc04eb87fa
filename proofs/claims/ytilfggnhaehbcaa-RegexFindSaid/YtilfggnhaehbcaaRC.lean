/- Layer 6: reach. -/
import Derived.Test.YtilfggnhaehbcaaRB
set_option linter.unusedVariables false
set_option linter.unusedSimpArgs false
namespace Go.Proofs.Ytilfggnhaehbcaa.Rx
open Go.RowKit
theorem dfs_cnt {M : List Nd} {s : List UInt8} {p : Nat} : ∀ (k : Nat) (R : Rn) (q i : Nat), cnt (dfs M s p k R q i) ≤ cnt R ∧ (dfs M s p k R q i).lat.length + cnt (dfs M s p k R q i) ≤ R.lat.length + cnt R
  | 0, R, q, i => ⟨Nat.le_refl _, Nat.le_refl _⟩
  | k + 1, R, q, i => by
    rw [dfs]
    split
    · exact ⟨Nat.le_refl _, Nat.le_refl _⟩
    · rename_i h
      have hs : skips R q i = false := by simpa using h
      have h1 := visit_cnt (M := M) (s := s) (p := p) (i := i) (skips_no.1 hs).1
      have h2 : (visit M s p R q i).lat.length ≤ R.lat.length + 1 := by
        rw [visit_lat, List.length_append]
        cases rd M s p (q, i) <;> simp
      have h3 : ∀ (l : List Nat) (R : Rn), cnt (l.foldl (fun R x => dfs M s p k R x i) R) ≤ cnt R ∧ (l.foldl (fun R x => dfs M s p k R x i) R).lat.length + cnt (l.foldl (fun R x => dfs M s p k R x i) R) ≤ R.lat.length + cnt R := by
        intro l
        induction l with
        | nil => exact fun R => ⟨Nat.le_refl _, Nat.le_refl _⟩
        | cons x l ih =>
          intro R
          have h4 := dfs_cnt (M := M) (s := s) (p := p) k R x i
          have h5 := ih (dfs M s p k R x i)
          rw [List.foldl_cons]
          exact ⟨by omega, by omega⟩
      have h6 := h3 (kids M q) (visit M s p R q i)
      exact ⟨by omega, by omega⟩
/-- The states with q reached. -/
def markR (R : Rn) (q : Nat) : Rn := ⟨R.rch.set q true, R.lat, R.bs, R.fd⟩
section
variable {w w' : World} {PT : Nat → Prop} {M : List Nd} {first : Nat} {s : ByteArray} {B rb gr p : Nat} {v now later : Value} {R : Rn}
theorem RunW.mark (h : RunW w PT M first s B rb gr p v now later R) (q : Nat) : RunW (w.setCell ⟨gr, q, none⟩ (.bool true)) PT M first s B rb gr p v now later (markR R q) := by
  have hn := h.ne
  have hb : But (· = gr) w (w.setCell ⟨gr, q, none⟩ (.bool true)) := But.setCell (S := (· = gr)) (But.refl _ _) (p := ⟨gr, q, none⟩) (fun _ => rfl) _
  refine ⟨h.blk.but hb hn.1, h.pg.keep (fun _ h => h) (fun g j hg => ?_), ?_, by show (R.rch.set q true).length = _; rw [List.length_set]; exact h.len, h.lat.on_but hb (fun g hg e => hn.2.2.1 (by rw [hg, e])), h.low, h.base⟩
  · obtain ⟨g0, cap, _, _, _⟩ := h.pg
    have h1 := h.low g hg
    have h2 := h.base
    exact hb.cell (p := ⟨g, j, none⟩) (by show g < _; omega) (fun e => by have e : g = gr := e; omega)
  · show Blk _ _ _ ((R.rch.set q true).map Value.bool)
    rw [List.map_set]
    exact h.rch.set q _
theorem StepP.of {w1 : World} {R' : Rn} {e : Ending} {X : World} (h : StepP w1 PT M first s B rb gr p v now later R' e X) (hb : But (· = gr) w w1) : StepP w PT M first s B rb gr p v now later R' e X := by
  obtain ⟨h1, l', h2, h3, h4⟩ := h
  exact ⟨h1, l', h2, (hb.mono (S' := RunS rb gr later) (fun n _ e => .inr (.inl e))).trans h3.out (fun _ _ h => h), h4.out.imp id (fun h k hk => Nat.le_trans hb.size (h k hk))⟩
end
set_option maxHeartbeats 4000000 in
set_option maxRecDepth 100000 in
theorem reach_67 (w : World) (PT : Nat → Prop) (M : List Nd) (first : Nat) (s : ByteArray) (B rb gr p : Nat) (now later : Value) (R R' : Rn) (q i g cap : Nat) (h : RunW w PT M first s B rb gr p (.slice (some ⟨g, 0, none⟩) M.length cap) now later R) (hq : q < M.length) (hsk : skips R q i = false) (hg : PT g) (hu : w.cell? ⟨g, q, none⟩ = some (.func (.func 67) #[] #[]))
    (C : RunW (w.setCell ⟨gr, q, none⟩ (.bool true)) PT M first s B rb gr p (.slice (some ⟨g, 0, none⟩) M.length cap) now later (markR R q) → Calls Try.prog 67 #[.pointer (some ⟨rb, 0, none⟩), .int .i64 (i : Int)] (w.setCell ⟨gr, q, none⟩ (.bool true)) (StepP (w.setCell ⟨gr, q, none⟩ (.bool true)) PT M first s B rb gr p (.slice (some ⟨g, 0, none⟩) M.length cap) now later R')) :
    Calls Try.prog 57 #[.pointer (some ⟨rb, 0, none⟩), .int .i64 (q : Int), .int .i64 (i : Int)] w (StepP w PT M first s B rb gr p (.slice (some ⟨g, 0, none⟩) M.length cap) now later R') := by
  have hq2 : q < R.rch.length := by rw [h.len]; exact hq
  obtain ⟨hs1, hs2⟩ := skips_no.1 hsk
  have hr0 : R.rch[q]? = some false := by
    unfold Rn.has at hs1
    rw [List.getElem?_eq_getElem hq2] at hs1 ⊢
    simpa using hs1
  have c6 : w.cell? ⟨rb, 6, none⟩ = some (.slice (some ⟨gr, 0, none⟩) M.length M.length) := h.blk.cell 6
  have c0 : w.cell? ⟨rb, 0, none⟩ = some (.slice (some ⟨g, 0, none⟩) M.length cap) := h.blk.cell 0
  have c7 : w.cell? ⟨rb, 7, none⟩ = some (.int .i64 (R.bs.1 : Int)) := h.blk.cell 7
  have c9 : w.cell? ⟨rb, 9, none⟩ = some (.bool R.fd) := h.blk.cell 9
  have cq : w.cell? ⟨gr, q, none⟩ = some (.bool false) := by rw [h.rch.cell, List.getElem?_map, hr0]; rfl
  have fq := h.rch.froz q
  have hn1 : rb ≠ gr := h.ne.1
  have hn2 : g ≠ gr := by
    have h1 := h.low g hg
    have h2 := h.base
    omega
  have CC := Lib.hid (C (h.mark q))
  have B1 : Hid (But (· = gr) w (w.setCell ⟨gr, q, none⟩ (.bool true))) := But.setCell (S := (· = gr)) (But.refl _ _) (p := ⟨gr, q, none⟩) (fun _ => rfl) _
  have c0' : (w.setCell ⟨gr, q, none⟩ (.bool true)).cell? ⟨rb, 0, none⟩ = some (.slice (some ⟨g, 0, none⟩) M.length cap) := (h.mark q).blk.cell 0
  have hu' : (w.setCell ⟨gr, q, none⟩ (.bool true)).cell? ⟨g, q, none⟩ = some (.func (.func 67) #[] #[]) := by
    have lg := World.block_lt_of_cell? w _ hu
    exact (B1.out.cell (p := ⟨g, q, none⟩) lg hn2).trans hu
  have hq0 : (0 : Int) ≤ (q : Int) := Int.natCast_nonneg _
  have hq1 : (q : Int) < (M.length : Int) := by omega
  clear h C hs1 hsk hr0
  cases hfd : R.fd with
  | false =>
    rw [hfd] at c9
    clear hs2
    go_enter Try.func57, Try.ntmps57
    go_wp2_with (go_at_call 67; (with_reducible refine CC.out.mono ?_); rintro e w2 hst; have HST := Lib.hid hst; obtain ⟨rfl, _⟩ := hst)
    go_end0
    exact HST.out.of B1.out
  | true =>
    rw [hfd] at c9
    have hle : ¬ ((R.bs.1 : Int) < (i : Int)) := by have := hs2 hfd; omega
    clear hs2
    go_enter Try.func57, Try.ntmps57
    go_wp2_with (go_at_call 67; (with_reducible refine CC.out.mono ?_); rintro e w2 hst; have HST := Lib.hid hst; obtain ⟨rfl, _⟩ := hst)
    go_end0
    exact HST.out.of B1.out
set_option maxHeartbeats 4000000 in
set_option maxRecDepth 100000 in
theorem reach_89 (w : World) (PT : Nat → Prop) (M : List Nd) (first : Nat) (s : ByteArray) (B rb gr p : Nat) (now later : Value) (R R' : Rn) (q i g cap b1 b2 : Nat) (h : RunW w PT M first s B rb gr p (.slice (some ⟨g, 0, none⟩) M.length cap) now later R) (hq : q < M.length) (hsk : skips R q i = false) (hg : PT g) (hu : w.cell? ⟨g, q, none⟩ = some (.func (.func 89) #[] #[.pointer (some ⟨b1, 0, none⟩), .pointer (some ⟨b2, 0, none⟩)]))
    (C : RunW (w.setCell ⟨gr, q, none⟩ (.bool true)) PT M first s B rb gr p (.slice (some ⟨g, 0, none⟩) M.length cap) now later (markR R q) → Calls Try.prog 89 #[.pointer (some ⟨rb, 0, none⟩), .int .i64 (i : Int), .pointer (some ⟨b1, 0, none⟩), .pointer (some ⟨b2, 0, none⟩)] (w.setCell ⟨gr, q, none⟩ (.bool true)) (StepP (w.setCell ⟨gr, q, none⟩ (.bool true)) PT M first s B rb gr p (.slice (some ⟨g, 0, none⟩) M.length cap) now later R')) :
    Calls Try.prog 57 #[.pointer (some ⟨rb, 0, none⟩), .int .i64 (q : Int), .int .i64 (i : Int)] w (StepP w PT M first s B rb gr p (.slice (some ⟨g, 0, none⟩) M.length cap) now later R') := by
  have hq2 : q < R.rch.length := by rw [h.len]; exact hq
  obtain ⟨hs1, hs2⟩ := skips_no.1 hsk
  have hr0 : R.rch[q]? = some false := by
    unfold Rn.has at hs1
    rw [List.getElem?_eq_getElem hq2] at hs1 ⊢
    simpa using hs1
  have c6 : w.cell? ⟨rb, 6, none⟩ = some (.slice (some ⟨gr, 0, none⟩) M.length M.length) := h.blk.cell 6
  have c0 : w.cell? ⟨rb, 0, none⟩ = some (.slice (some ⟨g, 0, none⟩) M.length cap) := h.blk.cell 0
  have c7 : w.cell? ⟨rb, 7, none⟩ = some (.int .i64 (R.bs.1 : Int)) := h.blk.cell 7
  have c9 : w.cell? ⟨rb, 9, none⟩ = some (.bool R.fd) := h.blk.cell 9
  have cq : w.cell? ⟨gr, q, none⟩ = some (.bool false) := by rw [h.rch.cell, List.getElem?_map, hr0]; rfl
  have fq := h.rch.froz q
  have hn1 : rb ≠ gr := h.ne.1
  have hn2 : g ≠ gr := by
    have h1 := h.low g hg
    have h2 := h.base
    omega
  have CC := Lib.hid (C (h.mark q))
  have B1 : Hid (But (· = gr) w (w.setCell ⟨gr, q, none⟩ (.bool true))) := But.setCell (S := (· = gr)) (But.refl _ _) (p := ⟨gr, q, none⟩) (fun _ => rfl) _
  have c0' : (w.setCell ⟨gr, q, none⟩ (.bool true)).cell? ⟨rb, 0, none⟩ = some (.slice (some ⟨g, 0, none⟩) M.length cap) := (h.mark q).blk.cell 0
  have hu' : (w.setCell ⟨gr, q, none⟩ (.bool true)).cell? ⟨g, q, none⟩ = some (.func (.func 89) #[] #[.pointer (some ⟨b1, 0, none⟩), .pointer (some ⟨b2, 0, none⟩)]) := by
    have lg := World.block_lt_of_cell? w _ hu
    exact (B1.out.cell (p := ⟨g, q, none⟩) lg hn2).trans hu
  have hq0 : (0 : Int) ≤ (q : Int) := Int.natCast_nonneg _
  have hq1 : (q : Int) < (M.length : Int) := by omega
  clear h C hs1 hsk hr0
  cases hfd : R.fd with
  | false =>
    rw [hfd] at c9
    clear hs2
    go_enter Try.func57, Try.ntmps57
    go_wp2_with (go_at_call 89; (with_reducible refine CC.out.mono ?_); rintro e w2 hst; have HST := Lib.hid hst; obtain ⟨rfl, _⟩ := hst)
    go_end0
    exact HST.out.of B1.out
  | true =>
    rw [hfd] at c9
    have hle : ¬ ((R.bs.1 : Int) < (i : Int)) := by have := hs2 hfd; omega
    clear hs2
    go_enter Try.func57, Try.ntmps57
    go_wp2_with (go_at_call 89; (with_reducible refine CC.out.mono ?_); rintro e w2 hst; have HST := Lib.hid hst; obtain ⟨rfl, _⟩ := hst)
    go_end0
    exact HST.out.of B1.out
set_option maxHeartbeats 4000000 in
set_option maxRecDepth 100000 in
theorem reach_82 (w : World) (PT : Nat → Prop) (M : List Nd) (first : Nat) (s : ByteArray) (B rb gr p : Nat) (now later : Value) (R R' : Rn) (q i g cap b1 : Nat) (h : RunW w PT M first s B rb gr p (.slice (some ⟨g, 0, none⟩) M.length cap) now later R) (hq : q < M.length) (hsk : skips R q i = false) (hg : PT g) (hu : w.cell? ⟨g, q, none⟩ = some (.func (.func 82) #[] #[.pointer (some ⟨b1, 0, none⟩)]))
    (C : RunW (w.setCell ⟨gr, q, none⟩ (.bool true)) PT M first s B rb gr p (.slice (some ⟨g, 0, none⟩) M.length cap) now later (markR R q) → Calls Try.prog 82 #[.pointer (some ⟨rb, 0, none⟩), .int .i64 (i : Int), .pointer (some ⟨b1, 0, none⟩)] (w.setCell ⟨gr, q, none⟩ (.bool true)) (StepP (w.setCell ⟨gr, q, none⟩ (.bool true)) PT M first s B rb gr p (.slice (some ⟨g, 0, none⟩) M.length cap) now later R')) :
    Calls Try.prog 57 #[.pointer (some ⟨rb, 0, none⟩), .int .i64 (q : Int), .int .i64 (i : Int)] w (StepP w PT M first s B rb gr p (.slice (some ⟨g, 0, none⟩) M.length cap) now later R') := by
  have hq2 : q < R.rch.length := by rw [h.len]; exact hq
  obtain ⟨hs1, hs2⟩ := skips_no.1 hsk
  have hr0 : R.rch[q]? = some false := by
    unfold Rn.has at hs1
    rw [List.getElem?_eq_getElem hq2] at hs1 ⊢
    simpa using hs1
  have c6 : w.cell? ⟨rb, 6, none⟩ = some (.slice (some ⟨gr, 0, none⟩) M.length M.length) := h.blk.cell 6
  have c0 : w.cell? ⟨rb, 0, none⟩ = some (.slice (some ⟨g, 0, none⟩) M.length cap) := h.blk.cell 0
  have c7 : w.cell? ⟨rb, 7, none⟩ = some (.int .i64 (R.bs.1 : Int)) := h.blk.cell 7
  have c9 : w.cell? ⟨rb, 9, none⟩ = some (.bool R.fd) := h.blk.cell 9
  have cq : w.cell? ⟨gr, q, none⟩ = some (.bool false) := by rw [h.rch.cell, List.getElem?_map, hr0]; rfl
  have fq := h.rch.froz q
  have hn1 : rb ≠ gr := h.ne.1
  have hn2 : g ≠ gr := by
    have h1 := h.low g hg
    have h2 := h.base
    omega
  have CC := Lib.hid (C (h.mark q))
  have B1 : Hid (But (· = gr) w (w.setCell ⟨gr, q, none⟩ (.bool true))) := But.setCell (S := (· = gr)) (But.refl _ _) (p := ⟨gr, q, none⟩) (fun _ => rfl) _
  have c0' : (w.setCell ⟨gr, q, none⟩ (.bool true)).cell? ⟨rb, 0, none⟩ = some (.slice (some ⟨g, 0, none⟩) M.length cap) := (h.mark q).blk.cell 0
  have hu' : (w.setCell ⟨gr, q, none⟩ (.bool true)).cell? ⟨g, q, none⟩ = some (.func (.func 82) #[] #[.pointer (some ⟨b1, 0, none⟩)]) := by
    have lg := World.block_lt_of_cell? w _ hu
    exact (B1.out.cell (p := ⟨g, q, none⟩) lg hn2).trans hu
  have hq0 : (0 : Int) ≤ (q : Int) := Int.natCast_nonneg _
  have hq1 : (q : Int) < (M.length : Int) := by omega
  clear h C hs1 hsk hr0
  cases hfd : R.fd with
  | false =>
    rw [hfd] at c9
    clear hs2
    go_enter Try.func57, Try.ntmps57
    go_wp2_with (go_at_call 82; (with_reducible refine CC.out.mono ?_); rintro e w2 hst; have HST := Lib.hid hst; obtain ⟨rfl, _⟩ := hst)
    go_end0
    exact HST.out.of B1.out
  | true =>
    rw [hfd] at c9
    have hle : ¬ ((R.bs.1 : Int) < (i : Int)) := by have := hs2 hfd; omega
    clear hs2
    go_enter Try.func57, Try.ntmps57
    go_wp2_with (go_at_call 82; (with_reducible refine CC.out.mono ?_); rintro e w2 hst; have HST := Lib.hid hst; obtain ⟨rfl, _⟩ := hst)
    go_end0
    exact HST.out.of B1.out
end Go.Proofs.Ytilfggnhaehbcaa.Rx
