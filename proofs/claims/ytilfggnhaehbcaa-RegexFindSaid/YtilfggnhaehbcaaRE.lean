/- Layer 6: newRun. -/
import Derived.Deep.OwnRows
import Derived.Test.YtilfggnhaehbcaaRD
set_option linter.unusedVariables false
set_option linter.unusedSimpArgs false
namespace Go.Proofs.Ytilfggnhaehbcaa.Rx
open Go.RowKit
theorem info4 : (Try.prog.info? 4).map (fun i => (i.zero, i.size, i.bytes)) = some (some (.bool false), 1, 1) := by kernel_rfl
theorem made_bool (n : Nat) : madeCells #[Value.bool false] n = ((List.replicate n false).map Value.bool).toArray := by
  apply Array.ext
  · simp [madeCells]
  · intro i h1 h2
    simp [madeCells, Nat.mod_one]
theorem newRun_end {w W : World} {M : List Nd} {first g cap B : Nat} {s : ByteArray} (WB : Below w.heap.size w W) (PG : PgV W (fun n => w.heap.size ≤ n ∧ n < B) (.slice (some ⟨g, 0, none⟩) M.length cap) M) (SZ : w.heap.size ≤ B ∧ W.heap.size = B + 1) :
    RunW ((W.alloc (.cells (madeCells #[Value.bool false] M.length) 4)).alloc (.cells #[.slice (some ⟨g, 0, none⟩) M.length cap, .int .i64 (first : Int), .string s, .int .i64 0, .slice none 0 0, .slice none 0 0, .slice (some ⟨W.heap.size, 0, none⟩) M.length M.length, .int .i64 0, .int .i64 0, .bool false] 74))
      (fun n => w.heap.size ≤ n ∧ n < B) M first s B (W.heap.size + 1) W.heap.size 0 (.slice (some ⟨g, 0, none⟩) M.length cap) (.slice none 0 0) (.slice none 0 0) (blank M.length (0, 0) false) ∧
    Below w.heap.size w ((W.alloc (.cells (madeCells #[Value.bool false] M.length) 4)).alloc (.cells #[.slice (some ⟨g, 0, none⟩) M.length cap, .int .i64 (first : Int), .string s, .int .i64 0, .slice none 0 0, .slice none 0 0, .slice (some ⟨W.heap.size, 0, none⟩) M.length M.length, .int .i64 0, .int .i64 0, .bool false] 74)) := by
  have kr : Blk (W.alloc (.cells (madeCells #[Value.bool false] M.length) 4)) W.heap.size 4 ((List.replicate M.length false).map Value.bool) := by
    rw [made_bool]
    exact Blk.new W 4 _
  have kb := Blk.new (W.alloc (.cells (madeCells #[Value.bool false] M.length) 4)) 74 [.slice (some ⟨g, 0, none⟩) M.length cap, .int .i64 (first : Int), .string s, .int .i64 0, .slice none 0 0, .slice none 0 0, .slice (some ⟨W.heap.size, 0, none⟩) M.length M.length, .int .i64 0, .int .i64 0, .bool false]
  rw [World.size_alloc] at kb
  refine ⟨⟨kb, PG.keep (fun _ h => h) (fun b j hb => ?_), kr.alloc _, by simp [blank], World.ownsRow_nil _ _ _ _, fun n hn => hn.2, by omega, by omega⟩, (WB.alloc (by omega) _).alloc (by rw [World.size_alloc]; omega) _⟩
  exact (World.cell?_alloc_lt _ _ _ (by rw [World.size_alloc]; show b < _; omega)).trans (World.cell?_alloc_lt _ _ _ (by show b < _; omega))
theorem RunW.drew {w : World} {PT : Nat → Prop} {M : List Nd} {first : Nat} {s : ByteArray} {B rb gr p : Nat} {v now later : Value} {R : Rn} (h : RunW w PT M first s B rb gr p v now later R) : RunW w.drew PT M first s B rb gr p v now later R :=
  h.put (w' := w.drew) ⟨rfl, rfl, rfl, Nat.le_refl _, fun _ _ _ => rfl⟩ h.blk rfl rfl
/-- What newRun makes. -/
def NewP (w : World) (M : List Nd) (first : Nat) (s : ByteArray) (e : Ending) (w' : World) : Prop := ∃ rb gr v B, e = .returned (.pointer (some ⟨rb, 0, none⟩)) ∧ w.heap.size ≤ B ∧ Hid (RunW w' (fun n => w.heap.size ≤ n ∧ n < B) M first s B rb gr 0 v (.slice none 0 0) (.slice none 0 0) (blank M.length (0, 0) false)) ∧ Hid (Below w.heap.size w w')
set_option maxHeartbeats 4000000 in
set_option maxRecDepth 100000 in
theorem newRun_any (x : List (List Pe)) (h : wE x ≤ 200) (u : Value) (s : ByteArray) (w : World) (TT : Nat → Prop) (hu : ExV w TT u x) (hTT : ∀ n, TT n → n < w.heap.size) :
    Calls Try.prog 43 #[u, .string s] w (NewP w (pm x) (ps x) s) := by
  have CC := Lib.hid (compile_any x h u w TT hu hTT)
  have HPL := Lib.hid (pm_len x)
  have HX := Lib.hid h
  clear hu hTT h
  go_enter Try.func43, Try.ntmps43
  go_wp2_with (go_at_call 56; (with_reducible refine CC.out.mono ?_); rintro e w1 ⟨v, rfl, pg, bl⟩; obtain ⟨g, cap, rfl, hg, hcs⟩ := pg.out)
  have hml : (pm x).length ≤ 1000 := by have := HPL.out; have := HX.out; omega
  have WB : Hid (Below w.heap.size w (w1.alloc (.cells #[.slice (some ⟨g, 0, none⟩) (pm x).length cap, .int .i64 ((ps x : Nat) : Int)] 71))) := bl.out.alloc bl.out.size _
  have PG : Hid (PgV (w1.alloc (.cells #[.slice (some ⟨g, 0, none⟩) (pm x).length cap, .int .i64 ((ps x : Nat) : Int)] 71)) (fun n => w.heap.size ≤ n ∧ n < w1.heap.size) (.slice (some ⟨g, 0, none⟩) (pm x).length cap) (pm x)) := pg.out.keep (fun _ h => h) (fun b j hb => World.cell?_alloc_lt _ _ _ hb.2)
  have SZ : Hid (w.heap.size ≤ w1.heap.size ∧ (w1.alloc (.cells #[.slice (some ⟨g, 0, none⟩) (pm x).length cap, .int .i64 ((ps x : Nat) : Int)] 71)).heap.size = w1.heap.size + 1) := ⟨bl.out.size, by simp⟩
  have d0 : (w1.alloc (.cells #[.slice (some ⟨g, 0, none⟩) (pm x).length cap, .int .i64 ((ps x : Nat) : Int)] 71)).cell? ⟨w1.heap.size, 0, none⟩ = some (.slice (some ⟨g, 0, none⟩) (pm x).length cap) := (Blk.new w1 71 [.slice (some ⟨g, 0, none⟩) (pm x).length cap, .int .i64 ((ps x : Nat) : Int)]).cell 0
  have d1 : (w1.alloc (.cells #[.slice (some ⟨g, 0, none⟩) (pm x).length cap, .int .i64 ((ps x : Nat) : Int)] 71)).cell? ⟨w1.heap.size, 1, none⟩ = some (.int .i64 ((ps x : Nat) : Int)) := (Blk.new w1 71 [.slice (some ⟨g, 0, none⟩) (pm x).length cap, .int .i64 ((ps x : Nat) : Int)]).cell 1
  have lt1 : w1.heap.size < (w1.alloc (.cells #[.slice (some ⟨g, 0, none⟩) (pm x).length cap, .int .i64 ((ps x : Nat) : Int)] 71)).heap.size := by simp
  clear CC pg bl hcs hg HPL HX
  generalize pm x = M at *
  generalize ps x = first at *
  generalize w1.alloc (.cells #[.slice (some ⟨g, 0, none⟩) M.length cap, .int .i64 (first : Int)] 71) = W at *
  have hmk := run_make_row' (P := Try.prog) 57 4 (.bool false) 1 Try.underlying57 info4 rfl .i64 .i64 M.length (by omega) (by omega)
  generalize w1.heap.size = B at *
  go_region
  all_goals
    try (go_wp2_with fail)
    go_ret
    obtain ⟨h1, h2⟩ := newRun_end (first := first) (s := s) WB.out PG.out SZ.out
    exact ⟨W.heap.size + 1, W.heap.size, _, B, rfl, SZ.out.1, h1.drew, h2.drew⟩
end Go.Proofs.Ytilfggnhaehbcaa.Rx
