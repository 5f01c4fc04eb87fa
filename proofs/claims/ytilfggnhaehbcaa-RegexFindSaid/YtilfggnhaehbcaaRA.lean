/- Layer 6: the program's run in memory; finish; read's step. -/
import Derived.BigQuiet
import Derived.Deep.RegionHeld3
import Derived.Deep.AppendLies
import Derived.Maps.AppendAt
import Derived.Test.YtilfggnhaehbcaaQI
import Derived.Test.YtilfggnhaehbcaaRxI
set_option linter.unusedVariables false
set_option linter.unusedSimpArgs false
namespace Go.Proofs.Ytilfggnhaehbcaa.Rx
open Go.RowKit
/-- Positions as cells. -/
def posC (L : List (Nat × Nat)) : List Value := L.flatMap fun x => [Value.int .i64 (x.1 : Int), Value.int .i64 (x.2 : Int)]
theorem posC_nil : posC [] = [] := rfl
theorem posC_snoc (L : List (Nat × Nat)) (x : Nat × Nat) : posC (L ++ [x]) = posC L ++ [Value.int .i64 (x.1 : Int), Value.int .i64 (x.2 : Int)] := by simp [posC]
theorem posC_len (L : List (Nat × Nat)) : (posC L).length = L.length * 2 := by
  induction L with
  | nil => rfl
  | cons x L ih =>
    unfold posC at ih ⊢
    rw [List.flatMap_cons, List.length_append, ih, List.length_cons]
    simp
    omega
theorem posC_at : ∀ (L : List (Nat × Nat)) (j : Nat) (h : j < L.length), (posC L)[j * 2]? = some (.int .i64 ((L[j].1 : Nat) : Int)) ∧ (posC L)[j * 2 + 1]? = some (.int .i64 ((L[j].2 : Nat) : Int))
  | [], j, h => by simp at h
  | x :: L, 0, h => ⟨rfl, rfl⟩
  | x :: L, j + 1, h => by
    have ih := posC_at L j (by simpa using h)
    have e : posC (x :: L) = Value.int .i64 (x.1 : Int) :: Value.int .i64 (x.2 : Int) :: posC L := rfl
    rw [e, show (j + 1) * 2 = j * 2 + 1 + 1 by omega]
    simpa using ih
/-- A run in memory: at block rb; the states that are reached lie at gr. -/
structure RunW (w : World) (PT : Nat → Prop) (M : List Nd) (first : Nat) (s : ByteArray) (B rb gr p : Nat) (v now later : Value) (R : Rn) : Prop where
  blk : Blk w rb 74 [v, .int .i64 (first : Int), .string s, .int .i64 (p : Int), now, later, .slice (some ⟨gr, 0, none⟩) M.length M.length, .int .i64 (R.bs.1 : Int), .int .i64 (R.bs.2 : Int), .bool R.fd]
  pg : PgV w PT v M
  rch : Blk w gr 4 (R.rch.map Value.bool)
  len : R.rch.length = M.length
  lat : w.ownsRow B 91 2 later R.lat.length (posC R.lat)
  low : ∀ n, PT n → n < B
  base : B ≤ rb ∧ B ≤ gr
/-- What a step may write. -/
def RunS (rb gr : Nat) (later : Value) (n : Nat) : Prop := n = rb ∨ n = gr ∨ some n = later.ownBlock
def StepP (w : World) (PT : Nat → Prop) (M : List Nd) (first : Nat) (s : ByteArray) (B rb gr p : Nat) (v now later : Value) (R' : Rn) (e : Ending) (w' : World) : Prop :=
  e = .returned (.tuple #[]) ∧ ∃ later', Hid (RunW w' PT M first s B rb gr p v now later' R') ∧ Hid (But (RunS rb gr later) w w') ∧ Hid (RowTo w later later')
theorem own_not {w : World} {B n sz g : Nat} {e t : TypeId} {v : Value} {xs l : List Value} (h : w.ownsRow B e sz v n xs) (hk : Blk w g t l) (ht : t ≠ e) : some g ≠ v.ownBlock := by
  intro e
  rcases h.2 with ⟨rfl, _⟩ | ⟨g', cap, cur, rfl, _, hg, _⟩
  · cases e
  · have e : some g = some g' := e
    injection e with e
    subst e
    have hk' : w.heap[g]? = _ := hk
    rw [hg] at hk'
    injection hk' with hk'
    injection hk' with _ h2 _
    exact ht h2.symm
theorem own_on {S : Nat → Prop} {w w' : World} {base : Nat} {e : TypeId} {size : Nat} {v : Value} {n : Nat} {xs : List Value} (h : w.ownsRow base e size v n xs) (k : But S w w') (hs : ∀ g, v.ownBlock = some g → ¬ S g) : w'.ownsRow base e size v n xs := h.on_but k hs
section
variable {w w' : World} {PT : Nat → Prop} {M : List Nd} {first : Nat} {s : ByteArray} {B rb gr p : Nat} {v now later : Value} {R : Rn}
theorem RunW.ne (h : RunW w PT M first s B rb gr p v now later R) : rb ≠ gr ∧ some rb ≠ later.ownBlock ∧ some gr ≠ later.ownBlock ∧ rb < w.heap.size ∧ gr < w.heap.size := by
  refine ⟨fun e => ?_, own_not h.lat h.blk (by decide), own_not h.lat h.rch (by decide), h.blk.lt, h.rch.lt⟩
  have h1 : w.heap[rb]? = _ := h.blk
  have h2 : w.heap[gr]? = _ := h.rch
  rw [← e, h1] at h2
  injection h2 with h2
  injection h2 with _ h3 _
  cases h3
/-- The run's own block is written. -/
theorem RunW.put {p' : Nat} {now' : Value} {R' : Rn} (h : RunW w PT M first s B rb gr p v now later R) (k : But (· = rb) w w')
    (hb : Blk w' rb 74 [v, .int .i64 (first : Int), .string s, .int .i64 (p' : Int), now', later, .slice (some ⟨gr, 0, none⟩) M.length M.length, .int .i64 (R'.bs.1 : Int), .int .i64 (R'.bs.2 : Int), .bool R'.fd])
    (hr : R'.rch = R.rch) (hl : R'.lat = R.lat) : RunW w' PT M first s B rb gr p' v now' later R' := by
  have hn := h.ne
  refine ⟨hb, h.pg.keep (fun _ h => h) (fun g j hg => ?_), by rw [hr]; exact h.rch.but k (fun e => hn.1 e.symm), by rw [hr]; exact h.len, by rw [hl]; exact h.lat.on_but k (fun g hg e => hn.2.1 (by rw [hg, e])), h.low, h.base⟩
  obtain ⟨g0, cap, _, _, _⟩ := h.pg
  have h1 := h.low g hg
  have h2 := h.base
  exact k.cell (p := ⟨g, j, none⟩) (by show g < _; omega) (fun e => by have e : g = rb := e; omega)
end
set_option maxHeartbeats 4000000 in
set_option maxRecDepth 100000 in
theorem finish_any (w : World) (PT : Nat → Prop) (M : List Nd) (first : Nat) (s : ByteArray) (B rb gr p : Nat) (v now later : Value) (R : Rn) (i : Nat) (h : RunW w PT M first s B rb gr p v now later R) :
    Calls Try.prog 67 #[.pointer (some ⟨rb, 0, none⟩), .int .i64 (i : Int)] w (StepP w PT M first s B rb gr p v now later ⟨R.rch, R.lat, (i, p), true⟩) := by
  have H := Lib.hid h
  have c3 : w.cell? ⟨rb, 3, none⟩ = some (.int .i64 (p : Int)) := h.blk.cell 3
  have c7 : w.cell? ⟨rb, 7, none⟩ = some (.int .i64 (R.bs.1 : Int)) := h.blk.cell 7
  have c8 : w.cell? ⟨rb, 8, none⟩ = some (.int .i64 (R.bs.2 : Int)) := h.blk.cell 8
  have c9 : w.cell? ⟨rb, 9, none⟩ = some (.bool R.fd) := h.blk.cell 9
  have f7 := h.blk.froz 7
  have f8 := h.blk.froz 8
  have f9 := h.blk.froz 9
  clear h
  go_enter Try.func67, Try.ntmps67
  go_wp2_with fail
  go_end0
  have k : Blk (((w.setCell ⟨rb, 7, none⟩ (.int .i64 (i : Int))).setCell ⟨rb, 8, none⟩ (.int .i64 (p : Int))).setCell ⟨rb, 9, none⟩ (.bool true)) rb 74 _ := ((H.out.blk.set 7 (.int .i64 (i : Int))).set 8 (.int .i64 (p : Int))).set 9 (.bool true)
  have b : But (· = rb) w (((w.setCell ⟨rb, 7, none⟩ (.int .i64 (i : Int))).setCell ⟨rb, 8, none⟩ (.int .i64 (p : Int))).setCell ⟨rb, 9, none⟩ (.bool true)) := ((But.setCell (S := (· = rb)) (But.refl _ _) (p := ⟨rb, 7, none⟩) (fun _ => rfl) _).setCell (p := ⟨rb, 8, none⟩) (fun _ => rfl) _).setCell (p := ⟨rb, 9, none⟩) (fun _ => rfl) _
  exact ⟨rfl, later, H.out.put b k rfl rfl, b.mono (fun n _ e => .inl e), RowTo.refl _ _⟩
end Go.Proofs.Ytilfggnhaehbcaa.Rx
