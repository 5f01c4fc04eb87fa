
/- Layer 6: the program's run in memory; finish; read's step. Layer 6: read's step. Layer 6: reach. Layer 6: reach and fork, by the states that are not reached. Layer 6: newRun. Layer 6: the program's search: what a round needs. Layer 6: the program's search: the loop. Layer 6: search, Match and Find of the program. -/
import Derived.BigQuiet
import Derived.Deep.RegionHeld3
import Derived.Deep.AppendLies
import Derived.Maps.AppendAt
import Derived.Test.YtdeppcddknakjaaGreatDoorCQ
import Derived.Test.YtdeppcddknakjaaGreatDoorCRx
import Derived.Deep.OwnRows
import Derived.Lib.SliceRun
import Derived.BigFrame
import Derived.Deep.CutRange
import Derived.Deep.DeepCutAuto
import Derived.Deep.RegionWith
set_option maxRecDepth 100000
set_option linter.unusedVariables false
set_option linter.unusedSimpArgs false
namespace Go.Proofs.YtdeppcddknakjaaGreatDoor.Rx
open Go.RowKit
/-- Positions as cells. -/
def posC (L : List (Nat × Nat)) : List Value := L.flatMap fun x => [Value.int .i64 (x.1 : Int), Value.int .i64 (x.2 : Int)]
theorem posC_snoc (L : List (Nat × Nat)) (x : Nat × Nat) : posC (L ++ [x]) = posC L ++ [Value.int .i64 (x.1 : Int), Value.int .i64 (x.2 : Int)] := by simp [posC]
theorem posC_at : ∀ (L : List (Nat × Nat)) (j : Nat) (h : j < L.length), (posC L)[j * 2]? = some (.int .i64 ((L[j].1 : Nat) : Int)) ∧ (posC L)[j * 2 + 1]? = some (.int .i64 ((L[j].2 : Nat) : Int))
 | [], j, h => by simp at h
 | x :: L, 0, h => ⟨rfl, rfl⟩
 | x :: L, j + 1, h => by
  have ih := posC_at L j (by simpa using h)
  have e : posC (x :: L) = Value.int .i64 (x.1 : Int) :: Value.int .i64 (x.2 : Int) :: posC L := rfl
  rw [e, show (j + 1) * 2 = j * 2 + 1 + 1 by omega]
  simpa using ih
/-- A run in memory: at block rb; the states that are reached lie at gr. -/
structure RunW (w : World) (PT : Nat → Prop) (M : List Nd) (first : Nat) (s : ByteArray) (B rb gr p : Nat) (v now later : Value) (R : Rn) : Prop where
 blk : Blk w rb 184 [v, .int .i64 (first : Int), .string s, .int .i64 (p : Int), now, later, .slice (some ⟨gr, 0, none⟩) M.length M.length, .int .i64 (R.bs.1 : Int), .int .i64 (R.bs.2 : Int), .bool R.fd]
 pg : PgV w PT v M
 rch : Blk w gr 4 (R.rch.map Value.bool)
 len : R.rch.length = M.length
 lat : w.ownsRow B 202 2 later R.lat.length (posC R.lat)
 low : ∀ n, PT n → n < B
 base : B ≤ rb ∧ B ≤ gr
/-- What a step may write. -/
def RunS (rb gr : Nat) (later : Value) (n : Nat) : Prop := n = rb ∨ n = gr ∨ some n = later.ownBlock
def StepP (w : World) (PT : Nat → Prop) (M : List Nd) (first : Nat) (s : ByteArray) (B rb gr p : Nat) (v now later : Value) (R' : Rn) (e : Ending) (w' : World) : Prop :=
 e = .returned (.tuple #[]) ∧ ∃ later', Hid (RunW w' PT M first s B rb gr p v now later' R') ∧ Hid (But (RunS rb gr later) w w') ∧ Hid (RowTo w later later')
theorem own_not {w : World} {B n sz g : Nat} {e t : TypeId} {v : Value} {xs l : List Value} (h : w.ownsRow B e sz v n xs) (hk : Blk w g t l) (ht : t ≠ e) : some g ≠ v.ownBlock := by
 intro e
 rcases h.2 with ⟨rfl, _⟩ | ⟨g', cap, cur, rfl, _, hg, _⟩
 ·cases e
 ·have e : some g = some g' := e
  injection e with e
  subst e
  have hk' : w.heap[g]? = _ := hk
  rw [hg] at hk'
  injection hk' with hk'
  injection hk' with _ h2 _
  exact ht h2.symm
section
variable {w w' : World} {PT : Nat → Prop} {M : List Nd} {first : Nat} {s : ByteArray} {B rb gr p : Nat} {v now later : Value} {R : Rn}
theorem RunW.ne (h : RunW w PT M first s B rb gr p v now later R) : rb ≠ gr ∧ some rb ≠ later.ownBlock ∧ some gr ≠ later.ownBlock ∧ rb < w.heap.size ∧ gr < w.heap.size := by
 refine ⟨fun e => ?_, own_not h.lat h.blk (by decide), own_not h.lat h.rch (by decide), h.blk.lt, h.rch.lt⟩
 have h1 : w.heap[rb]? = _ := h.blk
 have h2 : w.heap[gr]? = _ := h.rch
 rw [← e, h1] at h2
 injection h2 with h2
 injection h2 with _ h3 _
 cases h3
/-- The run's own block is written. -/
theorem RunW.put {p' : Nat} {now' : Value} {R' : Rn} (h : RunW w PT M first s B rb gr p v now later R) (k : But (· = rb) w w')
  (hb : Blk w' rb 184 [v, .int .i64 (first : Int), .string s, .int .i64 (p' : Int), now', later, .slice (some ⟨gr, 0, none⟩) M.length M.length, .int .i64 (R'.bs.1 : Int), .int .i64 (R'.bs.2 : Int), .bool R'.fd])
  (hr : R'.rch = R.rch) (hl : R'.lat = R.lat) : RunW w' PT M first s B rb gr p' v now' later R' := by
 have hn := h.ne
 refine ⟨hb, h.pg.keep (fun _ h => h) (fun g j hg => ?_), by rw [hr]; exact h.rch.but k (fun e => hn.1 e.symm), by rw [hr]; exact h.len, by rw [hl]; exact h.lat.on_but k (fun g hg e => hn.2.1 (by rw [hg, e])), h.low, h.base⟩
 obtain ⟨g0, cap, _, _, _⟩ := h.pg
 have h1 := h.low g hg
 have h2 := h.base
 exact k.cell (p := ⟨g, j, none⟩) (by show g < _; omega) (fun e => by have e : g = rb := e; omega)
end
set_option maxHeartbeats 4000000 in
set_option maxRecDepth 100000 in
theorem finish_any (w : World) (PT : Nat → Prop) (M : List Nd) (first : Nat) (s : ByteArray) (B rb gr p : Nat) (v now later : Value) (R : Rn) (i : Nat) (h : RunW w PT M first s B rb gr p v now later R) :
  Calls Tryz.prog 196 #[.pointer (some ⟨rb, 0, none⟩), .int .i64 (i : Int)] w (StepP w PT M first s B rb gr p v now later ⟨R.rch, R.lat, (i, p), true⟩) := by
 have H := Lib.hid h
 have c3 : w.cell? ⟨rb, 3, none⟩ = some (.int .i64 (p : Int)) := h.blk.cell 3
 have c7 : w.cell? ⟨rb, 7, none⟩ = some (.int .i64 (R.bs.1 : Int)) := h.blk.cell 7
 have c8 : w.cell? ⟨rb, 8, none⟩ = some (.int .i64 (R.bs.2 : Int)) := h.blk.cell 8
 have c9 : w.cell? ⟨rb, 9, none⟩ = some (.bool R.fd) := h.blk.cell 9
 have f7 := h.blk.froz 7
 have f8 := h.blk.froz 8
 have f9 := h.blk.froz 9
 clear h
 go_enter Tryz.func196, Tryz.ntmps196
 go_wp2_with fail
 go_end0
 have k : Blk (((w.setCell ⟨rb, 7, none⟩ (.int .i64 (i : Int))).setCell ⟨rb, 8, none⟩ (.int .i64 (p : Int))).setCell ⟨rb, 9, none⟩ (.bool true)) rb 184 _ := ((H.out.blk.set 7 (.int .i64 (i : Int))).set 8 (.int .i64 (p : Int))).set 9 (.bool true)
 have b : But (· = rb) w (((w.setCell ⟨rb, 7, none⟩ (.int .i64 (i : Int))).setCell ⟨rb, 8, none⟩ (.int .i64 (p : Int))).setCell ⟨rb, 9, none⟩ (.bool true)) := ((But.setCell (S := (· = rb)) (But.refl _ _) (p := ⟨rb, 7, none⟩) (fun _ => rfl) _).setCell (p := ⟨rb, 8, none⟩) (fun _ => rfl) _).setCell (p := ⟨rb, 9, none⟩) (fun _ => rfl) _
 exact ⟨rfl, later, H.out.put b k rfl rfl, b.mono (fun n _ e => .inl e), RowTo.refl _ _⟩
end Go.Proofs.YtdeppcddknakjaaGreatDoor.Rx
namespace Go.Proofs.YtdeppcddknakjaaGreatDoor.Rx
open Go.RowKit
theorem info91 : (Tryz.prog.info? 202).map (fun i => (i.zero, i.size, i.bytes)) = some (some (.agg #[.int .i64 0, .int .i64 0]), 2, 16) := by kernel_rfl
/-- What read's step leaves. -/
def rdR (s : List UInt8) (p : Nat) (f : UInt8 → Bool) (nx i : Nat) (R : Rn) : Rn := ⟨R.rch, if eats s p f = true then R.lat ++ [(nx, i)] else R.lat, R.bs, R.fd⟩
theorem eats_at {s : ByteArray} {p : Nat} (h : p < s.size) (f : UInt8 → Bool) : eats s.data.toList p f = f s[p] := by
 unfold eats
 have e : s.data.toList[p]? = some s[p] := by
  rw [List.getElem?_eq_getElem (by simpa using h)]
  simp [ByteArray.getElem_eq_getElem_data]
 rw [e]
theorem eats_end {s : ByteArray} {p : Nat} (h : s.size ≤ p) (f : UInt8 → Bool) : eats s.data.toList p f = false := by
 unfold eats
 have e : s.data.toList[p]? = none := by
  rw [List.getElem?_eq_none]
  simpa using h
 rw [e]
section
variable {w w' : World} {PT : Nat → Prop} {M : List Nd} {first : Nat} {s : ByteArray} {B rb gr p : Nat} {v now later : Value} {R : Rn}
theorem RunW.drewN (h : RunW w PT M first s B rb gr p v now later R) (q : Nat) : RunW (w.drewN q) PT M first s B rb gr p v now later R :=
 h.put (w' := w.drewN q) ⟨rfl, rfl, rfl, Nat.le_refl _, fun _ _ _ => rfl⟩ h.blk rfl rfl
/-- A position is appended. -/
theorem RunW.push {W w1 : World} {o : Obj} {gg cap nx i : Nat} (h : RunW W PT M first s B rb gr p v now later R)
  (K2 : Blk w1 rb 184 [v, .int .i64 (first : Int), .string s, .int .i64 (p : Int), now, later, .slice (some ⟨gr, 0, none⟩) M.length M.length, .int .i64 (R.bs.1 : Int), .int .i64 (R.bs.2 : Int), .bool R.fd])
  (OW : w1.ownsRow B 202 2 (.slice (some ⟨gg, 0, none⟩) (R.lat.length + 1) cap) (R.lat.length + 1) (posC R.lat ++ [.int .i64 (nx : Int), .int .i64 (i : Int)])) (GR : ((W.alloc o).drew).grownBy w1 later.ownBlock) (HAT : later.ownBlock = some gg ∨ gg = W.heap.size + 1) :
  RunW (w1.setCell ⟨rb, 5, none⟩ (.slice (some ⟨gg, 0, none⟩) (R.lat.length + 1) cap)) PT M first s B rb gr p v now (.slice (some ⟨gg, 0, none⟩) (R.lat.length + 1) cap) ⟨R.rch, R.lat ++ [(nx, i)], R.bs, R.fd⟩ ∧
  But (RunS rb gr later) W (w1.setCell ⟨rb, 5, none⟩ (.slice (some ⟨gg, 0, none⟩) (R.lat.length + 1) cap)) ∧ RowTo W later (.slice (some ⟨gg, 0, none⟩) (R.lat.length + 1) cap) := by
 have hn := h.ne
 have hb0 : But (RunS rb gr later) W ((W.alloc o).drew) := ((But.refl _ _).alloc o).drew
 have hb1 : But (RunS rb gr later) W w1 := hb0.grown GR (fun k e _ => .inr (.inr e.symm))
 have hb1' : But (fun n => some n = later.ownBlock) W w1 := But.grown (S := fun n => some n = later.ownBlock) (b := (W.alloc o).drew) ((But.refl _ _).alloc o).drew GR (fun k e _ => e.symm)
 have hgn : gg ≠ rb ∧ gg ≠ gr := by
  rcases HAT with e | e
  ·exact ⟨fun e' => hn.2.1 (by rw [e, e']), fun e' => hn.2.2.1 (by rw [e, e'])⟩
  ·exact ⟨by omega, by omega⟩
 have hb2 : But (· = rb) w1 (w1.setCell ⟨rb, 5, none⟩ (.slice (some ⟨gg, 0, none⟩) (R.lat.length + 1) cap)) := But.setCell (S := (· = rb)) (But.refl _ _) (p := ⟨rb, 5, none⟩) (fun _ => rfl) _
 refine ⟨⟨K2.set 5 _, h.pg.keep (fun _ h => h) (fun g j hg => ?_), (h.rch.but hb1' (fun e => hn.2.2.1 e)).but hb2 (fun e => hn.1 e.symm), h.len, ?_, h.low, h.base⟩, hb1.setCell (p := ⟨rb, 5, none⟩) (fun _ => .inl rfl) _, ?_⟩
 ·have h1 := h.low g hg
  have h2 := h.base
  refine (hb2.cell (p := ⟨g, j, none⟩) (by show g < _; have := hb1.size; omega) (fun e => by have e : g = rb := e; omega)).trans (hb1'.cell (p := ⟨g, j, none⟩) (by show g < _; omega) (fun e => ?_))
  have h3 := (World.ownsRow.lt h.lat g e.symm).1
  omega
 ·show World.ownsRow _ _ _ _ _ (R.lat ++ [(nx, i)]).length (posC (R.lat ++ [(nx, i)]))
  rw [List.length_append, List.length_singleton, posC_snoc]
  exact OW.on_but hb2 (fun g hg e => by cases hg; exact hgn.1 e)
 ·rcases HAT with e | e
  ·exact .inl e.symm
  ·refine .inr (fun k hk => ?_)
   have hk : some gg = some k := hk
   injection hk with hk
   omega
theorem but_drewN (S : Nat → Prop) (w : World) (q : Nat) : But S w (w.drewN q) := ⟨rfl, rfl, rfl, Nat.le_refl _, fun _ _ _ => rfl⟩
theorem rdR_no (q : List UInt8) (p : Nat) (f : UInt8 → Bool) (nx i : Nat) (R : Rn) (h : eats q p f = false) : rdR q p f nx i R = R := by simp [rdR, h]
theorem rdR_yes (q : List UInt8) (p : Nat) (f : UInt8 → Bool) (nx i : Nat) (R : Rn) (h : eats q p f = true) : rdR q p f nx i R = ⟨R.rch, R.lat ++ [(nx, i)], R.bs, R.fd⟩ := by simp [rdR, h]
end
set_option maxHeartbeats 4000000 in
set_option maxRecDepth 100000 in
theorem read_step (w : World) (PT : Nat → Prop) (M : List Nd) (first : Nat) (s : ByteArray) (B rb gr p : Nat) (v now later : Value) (R : Rn) (i nx b1 b2 : Nat) (f : UInt8 → Bool) (h : RunW w PT M first s B rb gr p v now later R) (hp1 : PT b1) (hp2 : PT b2) (hb1 : w.rangeAt b1 0 (clsC f)) (hb2 : w.cell? ⟨b2, 0, none⟩ = some (.int .i64 (nx : Int))) (hr : R.lat.length ≤ 1000000) (hs : s.size ≤ maxLen) :
  Calls Tryz.prog 219 #[.pointer (some ⟨rb, 0, none⟩), .int .i64 (i : Int), .pointer (some ⟨b1, 0, none⟩), .pointer (some ⟨b2, 0, none⟩)] w (StepP w PT M first s B rb gr p v now later (rdR s.data.toList p f nx i R)) := by
 have H := Lib.hid h
 have c2 : w.cell? ⟨rb, 2, none⟩ = some (.string s) := h.blk.cell 2
 have c3 : w.cell? ⟨rb, 3, none⟩ = some (.int .i64 (p : Int)) := h.blk.cell 3
 have c5 : w.cell? ⟨rb, 5, none⟩ = some later := h.blk.cell 5
 have f5 := h.blk.froz 5
 obtain ⟨A, cp, rfl⟩ : ∃ A cp, later = .slice A R.lat.length cp := by
  rcases h.lat.2 with ⟨rfl, h0⟩ | ⟨g, cap, cur, rfl, _⟩
  ·exact ⟨_, _, by rw [h0]⟩
  ·exact ⟨_, _, rfl⟩
 have HB2 := Lib.hid hb2
 have HP := Lib.hid (And.intro hp1 hp2)
 by_cases hlt : p < s.size
 ·have hc : w.cell? ⟨b1, s[p].toNat, none⟩ = some (.bool (f s[p])) := by
   have h1 := hb1 s[p].toNat _ (clsC_at f s[p].toNat_lt)
   rw [Nat.zero_add, UInt8.ofNat_toNat] at h1
   exact h1
  have hlt' : decide ((p : Int) < (s.size : Int)) = true := by simp; omega
  have hsp := s[p].toNat_lt
  have HE := Lib.hid (eats_at hlt f)
  cases hf : f s[p] with
  | false =>
   rw [hf] at hc
   go_enter Tryz.func219, Tryz.ntmps219
   go_wp2_with fail
   go_quiet (fail)
   go_wp2_with fail
   go_end0
   refine ⟨rfl, _, ?_, but_drewN _ _ _, RowTo.refl _ _⟩
   rw [rdR_no _ _ _ _ _ _ (by rw [HE.out]; exact hf)]
   exact H.out.drewN _
  | true =>
   rw [hf] at hc
   obtain ⟨i0, hi, hz0, hz1, hz2⟩ := info_parts info91
   have HI := Lib.hid hi
   have HZ0 := Lib.hid hz0
   have HZ1 := Lib.hid hz1
   have HZ2 := Lib.hid hz2
   clear hi hz0 hz1 hz2
   go_enter Tryz.func219, Tryz.ntmps219
   go_wp2_with fail
   go_quiet (fail)
   go_wp2_with fail
   have H1 := Lib.hid (H.out.drewN nq)
   have B1 : Hid (But (RunS rb gr (.slice A R.lat.length cp)) w (w.drewN nq)) := but_drewN _ _ _
   have d5 : (w.drewN nq).cell? ⟨rb, 5, none⟩ = some (.slice A R.lat.length cp) := c5
   have d2 : (w.drewN nq).cell? ⟨b2, 0, none⟩ = some (.int .i64 (nx : Int)) := hb2
   have hap : (Value.slice A R.lat.length cp).ownBlock ≠ some rb := fun e => H.out.ne.2.1 e.symm
   have hap2 : (Value.slice A R.lat.length cp).ownBlock ≠ some b2 := fun e => by
    have h1 := (World.ownsRow.lt H.out.lat b2 e).1
    have h2 := H.out.low b2 HP.out.2
    omega
   have lg : rb < (w.drewN nq).heap.size := H1.out.blk.lt
   have lb : b2 < (w.drewN nq).heap.size := World.block_lt_of_cell? (w.drewN nq) _ d2
   have hbase : B ≤ (w.drewN nq).heap.size := by
    have h1 := H1.out.base.1
    have h2 := H1.out.blk.lt
    omega
   have SZW : Hid ((w.drewN nq).heap.size = w.heap.size) := rfl
   clear h hb1 hb2 c2 c3 c5 f5 hc hlt'
   generalize w.drewN nq = W at *
   go_region_law
    ((refine step_append_lies _ (by rfl) _ _ _ (by rfl) B 202 i0 _ 2 16 Tryz.underlying182 HI.out HZ0.out HZ1.out HZ2.out rfl (by omega) (.slice A R.lat.length cp) R.lat.length (posC R.lat) (by rfl) ((H1.out.lat.alloc _).drew) ⟨W.heap.size, 0, none⟩ 1 1 [.int .i64 (nx : Int), .int .i64 (i : Int)] (by rfl) (by rfl) (World.news_of_block (cs := #[.int .i64 (nx : Int), .int .i64 (i : Int)]) (t := 202) (fr := (0, 0)) (heap_alloc_new W _)) (by simp [Value.oneCell']) (by omega) (by simp only [maxLen]; omega) (by omega) (by simp; omega) (W.heap.size + 1) (by simp) ?_; intro gg cap w1 hown1 hgrow hat hlt1; have hk2 : Blk w1 rb 184 _ := (hgrow.block rb (by simp; omega) (fun e => hap e.symm)).trans (H1.out.blk.alloc (.cells #[.int .i64 (nx : Int), .int .i64 (i : Int)] 202)); have e5 : w1.cell? ⟨rb, 5, none⟩ = some (.slice A R.lat.length cp) := hk2.cell 5; have f5 := hk2.froz 5; have e2 : w1.cell? ⟨b2, 0, none⟩ = some (.int .i64 (nx : Int)) := (hgrow.cell_far _ (by simp; omega) (Ne.symm hap2)).trans ((World.cell?_alloc_lt _ _ _ lb).trans d2); have K2 := Lib.hid hk2; have OW := Lib.hid hown1; have GR := Lib.hid hgrow; have HAT := Lib.hid hat; clear hk2 hown1 hgrow hat))
   all_goals
    try (go_wp2_with fail)
    go_end0
    obtain ⟨q1, q2, q3⟩ := H1.out.push K2.out OW.out GR.out HAT.out
    refine ⟨rfl, _, ?_, B1.out.trans q2 (fun _ _ h => h), q3.imp id (fun h k hk => (by have := h k hk; have := SZW.out; omega))⟩
    rw [rdR_yes _ _ _ _ _ _ (by rw [HE.out]; exact hf)]
    exact q1
 ·have hlt' : decide ((p : Int) < (s.size : Int)) = false := by simp; omega
  have HE := Lib.hid (eats_end (Nat.le_of_not_lt hlt) f)
  go_enter Tryz.func219, Tryz.ntmps219
  go_wp2_with fail
  go_quiet (fail)
  go_wp2_with fail
  go_end0
  refine ⟨rfl, _, ?_, but_drewN _ _ _, RowTo.refl _ _⟩
  rw [rdR_no _ _ _ _ _ _ HE.out]
  exact H.out.drewN _
end Go.Proofs.YtdeppcddknakjaaGreatDoor.Rx
namespace Go.Proofs.YtdeppcddknakjaaGreatDoor.Rx
open Go.RowKit
theorem dfs_cnt {M : List Nd} {s : List UInt8} {p : Nat} : ∀ (k : Nat) (R : Rn) (q i : Nat), cnt (dfs M s p k R q i) ≤ cnt R ∧ (dfs M s p k R q i).lat.length + cnt (dfs M s p k R q i) ≤ R.lat.length + cnt R
 | 0, R, q, i => ⟨Nat.le_refl _, Nat.le_refl _⟩
 | k + 1, R, q, i => by
  rw [dfs]
  split
  ·exact ⟨Nat.le_refl _, Nat.le_refl _⟩
  ·rename_i h
   have hs : skips R q i = false := by simpa using h
   have h1 := visit_cnt (M := M) (s := s) (p := p) (i := i) (skips_no.1 hs).1
   have h2 : (visit M s p R q i).lat.length ≤ R.lat.length + 1 := by
    rw [visit_lat, List.length_append]
    cases rd M s p (q, i) <;> simp
   have h3 : ∀ (l : List Nat) (R : Rn), cnt (l.foldl (fun R x => dfs M s p k R x i) R) ≤ cnt R ∧ (l.foldl (fun R x => dfs M s p k R x i) R).lat.length + cnt (l.foldl (fun R x => dfs M s p k R x i) R) ≤ R.lat.length + cnt R := by
    intro l
    induction l with
    | nil => exact fun R => ⟨Nat.le_refl _, Nat.le_refl _⟩
    | cons x l ih =>
     intro R
     have h4 := dfs_cnt (M := M) (s := s) (p := p) k R x i
     have h5 := ih (dfs M s p k R x i)
     rw [List.foldl_cons]
     exact ⟨by omega, by omega⟩
   have h6 := h3 (kids M q) (visit M s p R q i)
   exact ⟨by omega, by omega⟩
/-- The states with q reached. -/
def markR (R : Rn) (q : Nat) : Rn := ⟨R.rch.set q true, R.lat, R.bs, R.fd⟩
section
variable {w w' : World} {PT : Nat → Prop} {M : List Nd} {first : Nat} {s : ByteArray} {B rb gr p : Nat} {v now later : Value} {R : Rn}
theorem RunW.mark (h : RunW w PT M first s B rb gr p v now later R) (q : Nat) : RunW (w.setCell ⟨gr, q, none⟩ (.bool true)) PT M first s B rb gr p v now later (markR R q) := by
 have hn := h.ne
 have hb : But (· = gr) w (w.setCell ⟨gr, q, none⟩ (.bool true)) := But.setCell (S := (· = gr)) (But.refl _ _) (p := ⟨gr, q, none⟩) (fun _ => rfl) _
 refine ⟨h.blk.but hb hn.1, h.pg.keep (fun _ h => h) (fun g j hg => ?_), ?_, by show (R.rch.set q true).length = _; rw [List.length_set]; exact h.len, h.lat.on_but hb (fun g hg e => hn.2.2.1 (by rw [hg, e])), h.low, h.base⟩
 ·obtain ⟨g0, cap, _, _, _⟩ := h.pg
  have h1 := h.low g hg
  have h2 := h.base
  exact hb.cell (p := ⟨g, j, none⟩) (by show g < _; omega) (fun e => by have e : g = gr := e; omega)
 ·show Blk _ _ _ ((R.rch.set q true).map Value.bool)
  rw [List.map_set]
  exact h.rch.set q _
theorem StepP.of {w1 : World} {R' : Rn} {e : Ending} {X : World} (h : StepP w1 PT M first s B rb gr p v now later R' e X) (hb : But (· = gr) w w1) : StepP w PT M first s B rb gr p v now later R' e X := by
 obtain ⟨h1, l', h2, h3, h4⟩ := h
 exact ⟨h1, l', h2, (hb.mono (S' := RunS rb gr later) (fun n _ e => .inr (.inl e))).trans h3.out (fun _ _ h => h), h4.out.imp id (fun h k hk => Nat.le_trans hb.size (h k hk))⟩
end
set_option maxHeartbeats 4000000 in
set_option maxRecDepth 100000 in
theorem reach_67 (w : World) (PT : Nat → Prop) (M : List Nd) (first : Nat) (s : ByteArray) (B rb gr p : Nat) (now later : Value) (R R' : Rn) (q i g cap : Nat) (h : RunW w PT M first s B rb gr p (.slice (some ⟨g, 0, none⟩) M.length cap) now later R) (hq : q < M.length) (hsk : skips R q i = false) (hg : PT g) (hu : w.cell? ⟨g, q, none⟩ = some (.func (.func 196) #[] #[]))
  (C : RunW (w.setCell ⟨gr, q, none⟩ (.bool true)) PT M first s B rb gr p (.slice (some ⟨g, 0, none⟩) M.length cap) now later (markR R q) → Calls Tryz.prog 196 #[.pointer (some ⟨rb, 0, none⟩), .int .i64 (i : Int)] (w.setCell ⟨gr, q, none⟩ (.bool true)) (StepP (w.setCell ⟨gr, q, none⟩ (.bool true)) PT M first s B rb gr p (.slice (some ⟨g, 0, none⟩) M.length cap) now later R')) :
  Calls Tryz.prog 181 #[.pointer (some ⟨rb, 0, none⟩), .int .i64 (q : Int), .int .i64 (i : Int)] w (StepP w PT M first s B rb gr p (.slice (some ⟨g, 0, none⟩) M.length cap) now later R') := by
 have hq2 : q < R.rch.length := by rw [h.len]; exact hq
 obtain ⟨hs1, hs2⟩ := skips_no.1 hsk
 have hr0 : R.rch[q]? = some false := by
  unfold Rn.has at hs1
  rw [List.getElem?_eq_getElem hq2] at hs1 ⊢
  simpa using hs1
 have c6 : w.cell? ⟨rb, 6, none⟩ = some (.slice (some ⟨gr, 0, none⟩) M.length M.length) := h.blk.cell 6
 have c0 : w.cell? ⟨rb, 0, none⟩ = some (.slice (some ⟨g, 0, none⟩) M.length cap) := h.blk.cell 0
 have c7 : w.cell? ⟨rb, 7, none⟩ = some (.int .i64 (R.bs.1 : Int)) := h.blk.cell 7
 have c9 : w.cell? ⟨rb, 9, none⟩ = some (.bool R.fd) := h.blk.cell 9
 have cq : w.cell? ⟨gr, q, none⟩ = some (.bool false) := by rw [h.rch.cell, List.getElem?_map, hr0]; rfl
 have fq := h.rch.froz q
 have hn1 : rb ≠ gr := h.ne.1
 have hn2 : g ≠ gr := by
  have h1 := h.low g hg
  have h2 := h.base
  omega
 have CC := Lib.hid (C (h.mark q))
 have B1 : Hid (But (· = gr) w (w.setCell ⟨gr, q, none⟩ (.bool true))) := But.setCell (S := (· = gr)) (But.refl _ _) (p := ⟨gr, q, none⟩) (fun _ => rfl) _
 have c0' : (w.setCell ⟨gr, q, none⟩ (.bool true)).cell? ⟨rb, 0, none⟩ = some (.slice (some ⟨g, 0, none⟩) M.length cap) := (h.mark q).blk.cell 0
 have hu' : (w.setCell ⟨gr, q, none⟩ (.bool true)).cell? ⟨g, q, none⟩ = some (.func (.func 196) #[] #[]) := by
  have lg := World.block_lt_of_cell? w _ hu
  exact (B1.out.cell (p := ⟨g, q, none⟩) lg hn2).trans hu
 have hq0 : (0 : Int) ≤ (q : Int) := Int.natCast_nonneg _
 have hq1 : (q : Int) < (M.length : Int) := by omega
 clear h C hs1 hsk hr0
 cases hfd : R.fd with
 | false =>
  rw [hfd] at c9
  clear hs2
  go_enter Tryz.func181, Tryz.ntmps181
  go_wp2_with (go_at_call 196; (with_reducible refine CC.out.mono ?_); rintro e w2 hst; have HST := Lib.hid hst; obtain ⟨rfl, _⟩ := hst)
  go_end0
  exact HST.out.of B1.out
 | true =>
  rw [hfd] at c9
  have hle : ¬ ((R.bs.1 : Int) < (i : Int)) := by have := hs2 hfd; omega
  clear hs2
  go_enter Tryz.func181, Tryz.ntmps181
  go_wp2_with (go_at_call 196; (with_reducible refine CC.out.mono ?_); rintro e w2 hst; have HST := Lib.hid hst; obtain ⟨rfl, _⟩ := hst)
  go_end0
  exact HST.out.of B1.out
set_option maxHeartbeats 4000000 in
set_option maxRecDepth 100000 in
theorem reach_89 (w : World) (PT : Nat → Prop) (M : List Nd) (first : Nat) (s : ByteArray) (B rb gr p : Nat) (now later : Value) (R R' : Rn) (q i g cap b1 b2 : Nat) (h : RunW w PT M first s B rb gr p (.slice (some ⟨g, 0, none⟩) M.length cap) now later R) (hq : q < M.length) (hsk : skips R q i = false) (hg : PT g) (hu : w.cell? ⟨g, q, none⟩ = some (.func (.func 219) #[] #[.pointer (some ⟨b1, 0, none⟩), .pointer (some ⟨b2, 0, none⟩)]))
  (C : RunW (w.setCell ⟨gr, q, none⟩ (.bool true)) PT M first s B rb gr p (.slice (some ⟨g, 0, none⟩) M.length cap) now later (markR R q) → Calls Tryz.prog 219 #[.pointer (some ⟨rb, 0, none⟩), .int .i64 (i : Int), .pointer (some ⟨b1, 0, none⟩), .pointer (some ⟨b2, 0, none⟩)] (w.setCell ⟨gr, q, none⟩ (.bool true)) (StepP (w.setCell ⟨gr, q, none⟩ (.bool true)) PT M first s B rb gr p (.slice (some ⟨g, 0, none⟩) M.length cap) now later R')) :
  Calls Tryz.prog 181 #[.pointer (some ⟨rb, 0, none⟩), .int .i64 (q : Int), .int .i64 (i : Int)] w (StepP w PT M first s B rb gr p (.slice (some ⟨g, 0, none⟩) M.length cap) now later R') := by
 have hq2 : q < R.rch.length := by rw [h.len]; exact hq
 obtain ⟨hs1, hs2⟩ := skips_no.1 hsk
 have hr0 : R.rch[q]? = some false := by
  unfold Rn.has at hs1
  rw [List.getElem?_eq_getElem hq2] at hs1 ⊢
  simpa using hs1
 have c6 : w.cell? ⟨rb, 6, none⟩ = some (.slice (some ⟨gr, 0, none⟩) M.length M.length) := h.blk.cell 6
 have c0 : w.cell? ⟨rb, 0, none⟩ = some (.slice (some ⟨g, 0, none⟩) M.length cap) := h.blk.cell 0
 have c7 : w.cell? ⟨rb, 7, none⟩ = some (.int .i64 (R.bs.1 : Int)) := h.blk.cell 7
 have c9 : w.cell? ⟨rb, 9, none⟩ = some (.bool R.fd) := h.blk.cell 9
 have cq : w.cell? ⟨gr, q, none⟩ = some (.bool false) := by rw [h.rch.cell, List.getElem?_map, hr0]; rfl
 have fq := h.rch.froz q
 have hn1 : rb ≠ gr := h.ne.1
 have hn2 : g ≠ gr := by
  have h1 := h.low g hg
  have h2 := h.base
  omega
 have CC := Lib.hid (C (h.mark q))
 have B1 : Hid (But (· = gr) w (w.setCell ⟨gr, q, none⟩ (.bool true))) := But.setCell (S := (· = gr)) (But.refl _ _) (p := ⟨gr, q, none⟩) (fun _ => rfl) _
 have c0' : (w.setCell ⟨gr, q, none⟩ (.bool true)).cell? ⟨rb, 0, none⟩ = some (.slice (some ⟨g, 0, none⟩) M.length cap) := (h.mark q).blk.cell 0
 have hu' : (w.setCell ⟨gr, q, none⟩ (.bool true)).cell? ⟨g, q, none⟩ = some (.func (.func 219) #[] #[.pointer (some ⟨b1, 0, none⟩), .pointer (some ⟨b2, 0, none⟩)]) := by
  have lg := World.block_lt_of_cell? w _ hu
  exact (B1.out.cell (p := ⟨g, q, none⟩) lg hn2).trans hu
 have hq0 : (0 : Int) ≤ (q : Int) := Int.natCast_nonneg _
 have hq1 : (q : Int) < (M.length : Int) := by omega
 clear h C hs1 hsk hr0
 cases hfd : R.fd with
 | false =>
  rw [hfd] at c9
  clear hs2
  go_enter Tryz.func181, Tryz.ntmps181
  go_wp2_with (go_at_call 219; (with_reducible refine CC.out.mono ?_); rintro e w2 hst; have HST := Lib.hid hst; obtain ⟨rfl, _⟩ := hst)
  go_end0
  exact HST.out.of B1.out
 | true =>
  rw [hfd] at c9
  have hle : ¬ ((R.bs.1 : Int) < (i : Int)) := by have := hs2 hfd; omega
  clear hs2
  go_enter Tryz.func181, Tryz.ntmps181
  go_wp2_with (go_at_call 219; (with_reducible refine CC.out.mono ?_); rintro e w2 hst; have HST := Lib.hid hst; obtain ⟨rfl, _⟩ := hst)
  go_end0
  exact HST.out.of B1.out
set_option maxHeartbeats 4000000 in
set_option maxRecDepth 100000 in
theorem reach_82 (w : World) (PT : Nat → Prop) (M : List Nd) (first : Nat) (s : ByteArray) (B rb gr p : Nat) (now later : Value) (R R' : Rn) (q i g cap b1 : Nat) (h : RunW w PT M first s B rb gr p (.slice (some ⟨g, 0, none⟩) M.length cap) now later R) (hq : q < M.length) (hsk : skips R q i = false) (hg : PT g) (hu : w.cell? ⟨g, q, none⟩ = some (.func (.func 214) #[] #[.pointer (some ⟨b1, 0, none⟩)]))
  (C : RunW (w.setCell ⟨gr, q, none⟩ (.bool true)) PT M first s B rb gr p (.slice (some ⟨g, 0, none⟩) M.length cap) now later (markR R q) → Calls Tryz.prog 214 #[.pointer (some ⟨rb, 0, none⟩), .int .i64 (i : Int), .pointer (some ⟨b1, 0, none⟩)] (w.setCell ⟨gr, q, none⟩ (.bool true)) (StepP (w.setCell ⟨gr, q, none⟩ (.bool true)) PT M first s B rb gr p (.slice (some ⟨g, 0, none⟩) M.length cap) now later R')) :
  Calls Tryz.prog 181 #[.pointer (some ⟨rb, 0, none⟩), .int .i64 (q : Int), .int .i64 (i : Int)] w (StepP w PT M first s B rb gr p (.slice (some ⟨g, 0, none⟩) M.length cap) now later R') := by
 have hq2 : q < R.rch.length := by rw [h.len]; exact hq
 obtain ⟨hs1, hs2⟩ := skips_no.1 hsk
 have hr0 : R.rch[q]? = some false := by
  unfold Rn.has at hs1
  rw [List.getElem?_eq_getElem hq2] at hs1 ⊢
  simpa using hs1
 have c6 : w.cell? ⟨rb, 6, none⟩ = some (.slice (some ⟨gr, 0, none⟩) M.length M.length) := h.blk.cell 6
 have c0 : w.cell? ⟨rb, 0, none⟩ = some (.slice (some ⟨g, 0, none⟩) M.length cap) := h.blk.cell 0
 have c7 : w.cell? ⟨rb, 7, none⟩ = some (.int .i64 (R.bs.1 : Int)) := h.blk.cell 7
 have c9 : w.cell? ⟨rb, 9, none⟩ = some (.bool R.fd) := h.blk.cell 9
 have cq : w.cell? ⟨gr, q, none⟩ = some (.bool false) := by rw [h.rch.cell, List.getElem?_map, hr0]; rfl
 have fq := h.rch.froz q
 have hn1 : rb ≠ gr := h.ne.1
 have hn2 : g ≠ gr := by
  have h1 := h.low g hg
  have h2 := h.base
  omega
 have CC := Lib.hid (C (h.mark q))
 have B1 : Hid (But (· = gr) w (w.setCell ⟨gr, q, none⟩ (.bool true))) := But.setCell (S := (· = gr)) (But.refl _ _) (p := ⟨gr, q, none⟩) (fun _ => rfl) _
 have c0' : (w.setCell ⟨gr, q, none⟩ (.bool true)).cell? ⟨rb, 0, none⟩ = some (.slice (some ⟨g, 0, none⟩) M.length cap) := (h.mark q).blk.cell 0
 have hu' : (w.setCell ⟨gr, q, none⟩ (.bool true)).cell? ⟨g, q, none⟩ = some (.func (.func 214) #[] #[.pointer (some ⟨b1, 0, none⟩)]) := by
  have lg := World.block_lt_of_cell? w _ hu
  exact (B1.out.cell (p := ⟨g, q, none⟩) lg hn2).trans hu
 have hq0 : (0 : Int) ≤ (q : Int) := Int.natCast_nonneg _
 have hq1 : (q : Int) < (M.length : Int) := by omega
 clear h C hs1 hsk hr0
 cases hfd : R.fd with
 | false =>
  rw [hfd] at c9
  clear hs2
  go_enter Tryz.func181, Tryz.ntmps181
  go_wp2_with (go_at_call 214; (with_reducible refine CC.out.mono ?_); rintro e w2 hst; have HST := Lib.hid hst; obtain ⟨rfl, _⟩ := hst)
  go_end0
  exact HST.out.of B1.out
 | true =>
  rw [hfd] at c9
  have hle : ¬ ((R.bs.1 : Int) < (i : Int)) := by have := hs2 hfd; omega
  clear hs2
  go_enter Tryz.func181, Tryz.ntmps181
  go_wp2_with (go_at_call 214; (with_reducible refine CC.out.mono ?_); rintro e w2 hst; have HST := Lib.hid hst; obtain ⟨rfl, _⟩ := hst)
  go_end0
  exact HST.out.of B1.out
end Go.Proofs.YtdeppcddknakjaaGreatDoor.Rx
namespace Go.Proofs.YtdeppcddknakjaaGreatDoor.Rx
open Go.RowKit
theorem fold_cnt {M : List Nd} {s : List UInt8} {p k i : Nat} : ∀ (l : List Nat) (R : Rn), cnt (l.foldl (fun R x => dfs M s p k R x i) R) ≤ cnt R ∧ (l.foldl (fun R x => dfs M s p k R x i) R).lat.length + cnt (l.foldl (fun R x => dfs M s p k R x i) R) ≤ R.lat.length + cnt R
 | [], R => ⟨Nat.le_refl _, Nat.le_refl _⟩
 | x :: l, R => by
  have h4 := dfs_cnt (M := M) (s := s) (p := p) k R x i
  have h5 := fold_cnt (M := M) (s := s) (p := p) (k := k) (i := i) l (dfs M s p k R x i)
  rw [List.foldl_cons]
  exact ⟨by omega, by omega⟩
theorem fold_take {M : List Nd} {s : List UInt8} {p k i : Nat} (l : List Nat) (R : Rn) (j : Nat) (hj : j < l.length) : (l.take (j + 1)).foldl (fun R x => dfs M s p k R x i) R = dfs M s p k ((l.take j).foldl (fun R x => dfs M s p k R x i) R) l[j] i := by
 rw [List.take_add_one, List.getElem?_eq_getElem hj, List.foldl_append]
 rfl
theorem But.run {rb gr : Nat} {later l1 : Value} {w w1 w2 : World} (h : But (RunS rb gr later) w w1) (k : But (RunS rb gr l1) w1 w2) (hr : RowTo w later l1) : But (RunS rb gr later) w w2 := h.trans k (fun n hn hs => by
 rcases hs with hs | hs | hs
 ·exact .inl hs
 ·exact .inr (.inl hs)
 ·rcases hr with e | e
  ·exact .inr (.inr (by rw [← e]; exact hs))
  ·have := e n hs.symm
   omega)
theorem RunW.keep_pt {w w1 : World} {PT : Nat → Prop} {M : List Nd} {first : Nat} {s : ByteArray} {B rb gr p : Nat} {v now later : Value} {R : Rn} (h : RunW w PT M first s B rb gr p v now later R) (k : But (RunS rb gr later) w w1) (g j : Nat) (hg : PT g) : w1.cell? ⟨g, j, none⟩ = w.cell? ⟨g, j, none⟩ := by
 have h1 := h.low g hg
 have h2 := h.base
 have h3 := h.blk.lt
 refine k.cell (p := ⟨g, j, none⟩) (by show g < _; omega) (fun hs => ?_)
 rcases hs with hs | hs | hs
 ·have hs : g = rb := hs
  omega
 ·have hs : g = gr := hs
  omega
 ·have := (World.ownsRow.lt h.lat g hs.symm).1
  omega
/-- What reach does. -/
def Rch57 (PT : Nat → Prop) (M : List Nd) (first : Nat) (s : ByteArray) (B rb gr p : Nat) (v now : Value) (k : Nat) : Prop := ∀ (w : World) (R : Rn) (later : Value) (q i : Nat), RunW w PT M first s B rb gr p v now later R → cnt R < k → R.lat.length + cnt R ≤ 1000000 → q < M.length →
 Calls Tryz.prog 181 #[.pointer (some ⟨rb, 0, none⟩), .int .i64 (q : Int), .int .i64 (i : Int)] w (StepP w PT M first s B rb gr p v now later (dfs M s.data.toList p k R q i))
set_option maxHeartbeats 4000000 in
set_option maxRecDepth 100000 in
theorem fork_step (PT : Nat → Prop) (M : List Nd) (first : Nat) (s : ByteArray) (B rb gr p : Nat) (v now : Value) (k : Nat) (HR : Rch57 PT M first s B rb gr p v now k) (w : World) (R : Rn) (later : Value) (i b1 : Nat) (l : List Nat) (A : Option Addr) (cap : Nat)
  (h : RunW w PT M first s B rb gr p v now later R) (hc : cnt R < k) (hrm : R.lat.length + cnt R ≤ 1000000) (hl : ∀ x ∈ l, x < M.length) (hll : l.length ≤ 1000000000) (hp1 : PT b1) (hb1 : w.cell? ⟨b1, 0, none⟩ = some (.slice A l.length cap)) (hk : l ≠ [] → ∃ g, A = some ⟨g, 0, none⟩ ∧ PT g ∧ ∀ j (h : j < l.length), w.cell? ⟨g, j, none⟩ = some (.int .i64 (l[j] : Nat))) :
  Calls Tryz.prog 214 #[.pointer (some ⟨rb, 0, none⟩), .int .i64 (i : Int), .pointer (some ⟨b1, 0, none⟩)] w (StepP w PT M first s B rb gr p v now later (l.foldl (fun R x => dfs M s.data.toList p k R x i) R)) := by
 have HH := Lib.hid HR
 have H := Lib.hid h
 have HC := Lib.hid hc
 have HRM := Lib.hid hrm
 have HL := Lib.hid hl
 have HK := Lib.hid hk
 clear HR h hc hrm hl hk
 go_enter Tryz.func214, Tryz.ntmps214
 go_wp2_with fail
 go_loopw [9] (fun vi wr => ∃ (j : Nat) (lj : Value), j ≤ l.length ∧ vi = .int .i64 j ∧ Hid (RunW wr PT M first s B rb gr p v now lj ((l.take j).foldl (fun R x => dfs M s.data.toList p k R x i) R)) ∧ Hid (But (RunS rb gr later) w wr) ∧ Hid (RowTo w later lj)) (fun vi _ => l.length - (intOf vi).toNat)
 case atStart => exact ⟨0, later, Nat.zero_le _, rfl, by (rw [List.take_zero]; exact H.out), But.refl _ _, RowTo.refl _ _⟩
 case round =>
  obtain ⟨j, lj, hj, rfl, HW, HB, HT⟩ := hrel
  by_cases hlt : j < l.length
  ·obtain ⟨g, rfl, hpg, hcs⟩ := HK.out (fun e => by rw [e] at hlt; simp at hlt)
   have hcj : wr.cell? ⟨g, j, none⟩ = some (.int .i64 (l[j] : Nat)) := (H.out.keep_pt HB.out g j hpg).trans (hcs j hlt)
   have FC := fold_cnt (M := M) (s := s.data.toList) (p := p) (k := k) (i := i) (l.take j) R
   have CR := Lib.hid (HH.out wr _ lj l[j] i HW.out (by have := HC.out; omega) (by have := HRM.out; omega) (HL.out _ (List.getElem_mem hlt)))
   have HE := Lib.hid (fold_take (M := M) (s := s.data.toList) (p := p) (k := k) (i := i) l R j hlt)
   have hj0 : (0 : Int) ≤ (j : Int) := Int.natCast_nonneg _
   have hj1 : (j : Int) < (l.length : Int) := by omega
   clear hcs FC HW
   generalize l[j] = x at *
   generalize (l.take j).foldl (fun R x => dfs M s.data.toList p k R x i) R = Rj at *
   go_wp2_with (go_at_call 181; (with_reducible refine CR.out.mono ?_); rintro e w2 ⟨rfl, l2, hw2, hb2, hr2⟩)
   go_roundw
   case rel => exact ⟨j + 1, l2, by omega, by go_num, by (rw [HE.out]; exact hw2.out), HB.out.run hb2.out HT.out, HT.out.trans hr2.out HB.out.size⟩
   case measure => simp [intOf]; omega
  ·obtain rfl : j = l.length := by omega
   have HW' := HW.out
   rw [List.take_of_length_le (Nat.le_refl _)] at HW'
   have HF := Lib.hid HW'
   clear HW HW'
   go_wp2_with fail
   go_end0
   exact ⟨rfl, lj, HF.out, HB.out, HT.out⟩
set_option maxHeartbeats 4000000 in
set_option maxRecDepth 100000 in
theorem reach_skip (w : World) (PT : Nat → Prop) (M : List Nd) (first : Nat) (s : ByteArray) (B rb gr p : Nat) (v now later : Value) (R : Rn) (q i : Nat) (h : RunW w PT M first s B rb gr p v now later R) (hq : q < M.length) (hsk : skips R q i = true) :
  Calls Tryz.prog 181 #[.pointer (some ⟨rb, 0, none⟩), .int .i64 (q : Int), .int .i64 (i : Int)] w (StepP w PT M first s B rb gr p v now later R) := by
 have hq2 : q < R.rch.length := by rw [h.len]; exact hq
 have H := Lib.hid h
 have hr0 : R.rch[q]? = some R.rch[q] := List.getElem?_eq_getElem hq2
 unfold skips at hsk
 rw [hr0] at hsk
 have c6 : w.cell? ⟨rb, 6, none⟩ = some (.slice (some ⟨gr, 0, none⟩) M.length M.length) := h.blk.cell 6
 have c7 : w.cell? ⟨rb, 7, none⟩ = some (.int .i64 (R.bs.1 : Int)) := h.blk.cell 7
 have c9 : w.cell? ⟨rb, 9, none⟩ = some (.bool R.fd) := h.blk.cell 9
 have cq : w.cell? ⟨gr, q, none⟩ = some (.bool R.rch[q]) := by rw [h.rch.cell, List.getElem?_map, hr0]; rfl
 have hq0 : (0 : Int) ≤ (q : Int) := Int.natCast_nonneg _
 have hq1 : (q : Int) < (M.length : Int) := by omega
 clear h hr0
 cases hb : R.rch[q] with
 | true =>
  rw [hb] at cq
  clear hsk
  go_enter Tryz.func181, Tryz.ntmps181
  go_wp2_with fail
  go_end0
  exact ⟨rfl, later, H.out, But.refl _ _, RowTo.refl _ _⟩
 | false =>
  rw [hb] at cq hsk
  have hfd : R.fd = true ∧ R.bs.1 < i := by simpa using hsk
  rw [hfd.1] at c9
  have hle : (R.bs.1 : Int) < (i : Int) := by have := hfd.2; omega
  clear hsk hfd
  go_enter Tryz.func181, Tryz.ntmps181
  go_wp2_with fail
  go_end0
  exact ⟨rfl, later, H.out, But.refl _ _, RowTo.refl _ _⟩
/-- **reach, at every program whose states are whole.** -/
theorem reach_any (PT : Nat → Prop) (M : List Nd) (first : Nat) (s : ByteArray) (B rb gr p : Nat) (v now : Value) (hM : ∀ j (h : j < M.length), M[j] = .fin ∨ M[j].ok M.length) (hlen : ∀ (j : Nat) (l : List Nat), M[j]? = some (.fork l) → l.length ≤ 1000000000) (hs : s.size ≤ maxLen) : ∀ k, Rch57 PT M first s B rb gr p v now k
 | 0 => fun w R later q i _ hc _ _ => by omega
 | k + 1 => fun w R later q i h hc hrm hq => by
  cases hsk : skips R q i with
  | true =>
   rw [dfs, if_pos hsk]
   exact reach_skip w PT M first s B rb gr p v now later R q i h hq hsk
  | false =>
   have hd : dfs M s.data.toList p (k + 1) R q i = (kids M q).foldl (fun R x => dfs M s.data.toList p k R x i) (visit M s.data.toList p R q i) := by
    rw [dfs, if_neg (by rw [hsk]; decide)]
   obtain ⟨g, cap, rfl, hg, hst⟩ := h.pg
   obtain ⟨u, hu, hv⟩ := hst q hq
   have hMq : M[q]? = some M[q] := List.getElem?_eq_getElem hq
   have hcm : cnt (markR R q) + 1 = cnt R := by
    have h1 := visit_cnt (M := M) (s := s.data.toList) (p := p) (i := i) (skips_no.1 hsk).1
    have h2 : cnt (visit M s.data.toList p R q i) = cnt (markR R q) := by unfold cnt; rw [visit_rch]; rfl
    omega
   have hml : (markR R q).lat = R.lat := rfl
   rw [hd]
   cases hx : M[q] with
   | fin =>
    rw [hx] at hv hMq
    cases hv
    have e1 : (kids M q).foldl (fun R x => dfs M s.data.toList p k R x i) (visit M s.data.toList p R q i) = ⟨R.rch.set q true, R.lat, (i, p), true⟩ := by
     unfold kids visit
     rw [hMq]
     rfl
    rw [e1]
    exact reach_67 w PT M first s B rb gr p now later R _ q i g cap h hq hsk hg hu (fun h1 => finish_any _ PT M first s B rb gr p _ now later (markR R q) i h1)
   | hole =>
    rcases hM q hq with e | e
    ·rw [hx] at e; cases e
    ·rw [hx] at e; exact e.elim
   | read f nx =>
    rw [hx] at hv hMq
    obtain ⟨b1, b2, rfl, hp1, hp2, hb1, hb2⟩ := hv
    have e1 : (kids M q).foldl (fun R x => dfs M s.data.toList p k R x i) (visit M s.data.toList p R q i) = rdR s.data.toList p f nx i (markR R q) := by
     unfold kids visit
     rw [hMq]
     rfl
    rw [e1]
    have hbut : But (RunS rb gr later) w (w.setCell ⟨gr, q, none⟩ (.bool true)) := But.setCell (But.refl _ _) (p := ⟨gr, q, none⟩) (fun _ => .inr (.inl rfl)) _
    exact reach_89 w PT M first s B rb gr p now later R _ q i g cap b1 b2 h hq hsk hg hu (fun h1 => read_step _ PT M first s B rb gr p _ now later (markR R q) i nx b1 b2 f h1 hp1 hp2 (fun j v hv => (h.keep_pt hbut b1 _ hp1).trans (hb1 j v hv)) ((h.keep_pt hbut b2 0 hp2).trans hb2) (by rw [hml]; omega) hs)
   | fork l =>
    rw [hx] at hv hMq
    obtain ⟨b1, A, cap1, rfl, hp1, hb1, hk⟩ := hv
    have e1 : (kids M q).foldl (fun R x => dfs M s.data.toList p k R x i) (visit M s.data.toList p R q i) = l.foldl (fun R x => dfs M s.data.toList p k R x i) (markR R q) := by
     unfold kids visit
     rw [hMq]
     rfl
    rw [e1]
    have hok : ∀ x ∈ l, x < M.length := by
     rcases hM q hq with e | e
     ·rw [hx] at e; cases e
     ·rw [hx] at e; exact e
    have hbut : But (RunS rb gr later) w (w.setCell ⟨gr, q, none⟩ (.bool true)) := But.setCell (But.refl _ _) (p := ⟨gr, q, none⟩) (fun _ => .inr (.inl rfl)) _
    exact reach_82 w PT M first s B rb gr p now later R _ q i g cap b1 h hq hsk hg hu (fun h1 => fork_step PT M first s B rb gr p _ now k (reach_any PT M first s B rb gr p _ now hM hlen hs k) _ (markR R q) later i b1 l A cap1 h1 (by omega) (by rw [hml]; omega) hok (hlen q l hMq) hp1 ((h.keep_pt hbut b1 0 hp1).trans hb1) (fun hne => by
     obtain ⟨g2, h2, h3, h4⟩ := hk hne
     exact ⟨g2, h2, h3, fun j hj => (h.keep_pt hbut g2 j h3).trans (h4 j hj)⟩))
end Go.Proofs.YtdeppcddknakjaaGreatDoor.Rx
namespace Go.Proofs.YtdeppcddknakjaaGreatDoor.Rx
open Go.RowKit
theorem info4 : (Tryz.prog.info? 4).map (fun i => (i.zero, i.size, i.bytes)) = some (some (.bool false), 1, 1) := by kernel_rfl
theorem made_bool (n : Nat) : madeCells #[Value.bool false] n = ((List.replicate n false).map Value.bool).toArray := by
 apply Array.ext
 ·simp [madeCells]
 ·intro i h1 h2
  simp [madeCells, Nat.mod_one]
theorem newRun_end {w W : World} {M : List Nd} {first g cap B : Nat} {s : ByteArray} (WB : Below w.heap.size w W) (PG : PgV W (fun n => w.heap.size ≤ n ∧ n < B) (.slice (some ⟨g, 0, none⟩) M.length cap) M) (SZ : w.heap.size ≤ B ∧ W.heap.size = B + 1) :
  RunW ((W.alloc (.cells (madeCells #[Value.bool false] M.length) 4)).alloc (.cells #[.slice (some ⟨g, 0, none⟩) M.length cap, .int .i64 (first : Int), .string s, .int .i64 0, .slice none 0 0, .slice none 0 0, .slice (some ⟨W.heap.size, 0, none⟩) M.length M.length, .int .i64 0, .int .i64 0, .bool false] 184))
   (fun n => w.heap.size ≤ n ∧ n < B) M first s B (W.heap.size + 1) W.heap.size 0 (.slice (some ⟨g, 0, none⟩) M.length cap) (.slice none 0 0) (.slice none 0 0) (blank M.length (0, 0) false) ∧
  Below w.heap.size w ((W.alloc (.cells (madeCells #[Value.bool false] M.length) 4)).alloc (.cells #[.slice (some ⟨g, 0, none⟩) M.length cap, .int .i64 (first : Int), .string s, .int .i64 0, .slice none 0 0, .slice none 0 0, .slice (some ⟨W.heap.size, 0, none⟩) M.length M.length, .int .i64 0, .int .i64 0, .bool false] 184)) := by
 have kr : Blk (W.alloc (.cells (madeCells #[Value.bool false] M.length) 4)) W.heap.size 4 ((List.replicate M.length false).map Value.bool) := by
  rw [made_bool]
  exact Blk.new W 4 _
 have kb := Blk.new (W.alloc (.cells (madeCells #[Value.bool false] M.length) 4)) 184 [.slice (some ⟨g, 0, none⟩) M.length cap, .int .i64 (first : Int), .string s, .int .i64 0, .slice none 0 0, .slice none 0 0, .slice (some ⟨W.heap.size, 0, none⟩) M.length M.length, .int .i64 0, .int .i64 0, .bool false]
 rw [World.size_alloc] at kb
 refine ⟨⟨kb, PG.keep (fun _ h => h) (fun b j hb => ?_), kr.alloc _, by simp [blank], World.ownsRow_nil _ _ _ _, fun n hn => hn.2, by omega, by omega⟩, (WB.alloc (by omega) _).alloc (by rw [World.size_alloc]; omega) _⟩
 exact (World.cell?_alloc_lt _ _ _ (by rw [World.size_alloc]; show b < _; omega)).trans (World.cell?_alloc_lt _ _ _ (by show b < _; omega))
theorem RunW.drew {w : World} {PT : Nat → Prop} {M : List Nd} {first : Nat} {s : ByteArray} {B rb gr p : Nat} {v now later : Value} {R : Rn} (h : RunW w PT M first s B rb gr p v now later R) : RunW w.drew PT M first s B rb gr p v now later R :=
 h.put (w' := w.drew) ⟨rfl, rfl, rfl, Nat.le_refl _, fun _ _ _ => rfl⟩ h.blk rfl rfl
/-- What newRun makes. -/
def NewP (w : World) (M : List Nd) (first : Nat) (s : ByteArray) (e : Ending) (w' : World) : Prop := ∃ rb gr v B, e = .returned (.pointer (some ⟨rb, 0, none⟩)) ∧ w.heap.size ≤ B ∧ Hid (RunW w' (fun n => w.heap.size ≤ n ∧ n < B) M first s B rb gr 0 v (.slice none 0 0) (.slice none 0 0) (blank M.length (0, 0) false)) ∧ Hid (Below w.heap.size w w')
set_option maxHeartbeats 4000000 in
set_option maxRecDepth 100000 in
theorem newRun_any (x : List (List Pe)) (h : wE x ≤ 200) (u : Value) (s : ByteArray) (w : World) (TT : Nat → Prop) (hu : ExV w TT u x) (hTT : ∀ n, TT n → n < w.heap.size) :
  Calls Tryz.prog 159 #[u, .string s] w (NewP w (pm x) (ps x) s) := by
 have CC := Lib.hid (compile_any x h u w TT hu hTT)
 have HPL := Lib.hid (pm_len x)
 have HX := Lib.hid h
 clear hu hTT h
 go_enter Tryz.func159, Tryz.ntmps159
 go_wp2_with (go_at_call 180; (with_reducible refine CC.out.mono ?_); rintro e w1 ⟨v, rfl, pg, bl⟩; obtain ⟨g, cap, rfl, hg, hcs⟩ := pg.out)
 have hml : (pm x).length ≤ 1000 := by have := HPL.out; have := HX.out; omega
 have WB : Hid (Below w.heap.size w (w1.alloc (.cells #[.slice (some ⟨g, 0, none⟩) (pm x).length cap, .int .i64 ((ps x : Nat) : Int)] 181))) := bl.out.alloc bl.out.size _
 have PG : Hid (PgV (w1.alloc (.cells #[.slice (some ⟨g, 0, none⟩) (pm x).length cap, .int .i64 ((ps x : Nat) : Int)] 181)) (fun n => w.heap.size ≤ n ∧ n < w1.heap.size) (.slice (some ⟨g, 0, none⟩) (pm x).length cap) (pm x)) := pg.out.keep (fun _ h => h) (fun b j hb => World.cell?_alloc_lt _ _ _ hb.2)
 have SZ : Hid (w.heap.size ≤ w1.heap.size ∧ (w1.alloc (.cells #[.slice (some ⟨g, 0, none⟩) (pm x).length cap, .int .i64 ((ps x : Nat) : Int)] 181)).heap.size = w1.heap.size + 1) := ⟨bl.out.size, by simp⟩
 have d0 : (w1.alloc (.cells #[.slice (some ⟨g, 0, none⟩) (pm x).length cap, .int .i64 ((ps x : Nat) : Int)] 181)).cell? ⟨w1.heap.size, 0, none⟩ = some (.slice (some ⟨g, 0, none⟩) (pm x).length cap) := (Blk.new w1 181 [.slice (some ⟨g, 0, none⟩) (pm x).length cap, .int .i64 ((ps x : Nat) : Int)]).cell 0
 have d1 : (w1.alloc (.cells #[.slice (some ⟨g, 0, none⟩) (pm x).length cap, .int .i64 ((ps x : Nat) : Int)] 181)).cell? ⟨w1.heap.size, 1, none⟩ = some (.int .i64 ((ps x : Nat) : Int)) := (Blk.new w1 181 [.slice (some ⟨g, 0, none⟩) (pm x).length cap, .int .i64 ((ps x : Nat) : Int)]).cell 1
 have lt1 : w1.heap.size < (w1.alloc (.cells #[.slice (some ⟨g, 0, none⟩) (pm x).length cap, .int .i64 ((ps x : Nat) : Int)] 181)).heap.size := by simp
 clear CC pg bl hcs hg HPL HX
 generalize pm x = M at *
 generalize ps x = first at *
 generalize w1.alloc (.cells #[.slice (some ⟨g, 0, none⟩) M.length cap, .int .i64 (first : Int)] 181) = W at *
 have hmk := run_make_row' (P := Tryz.prog) 108 4 (.bool false) 1 Tryz.underlying108 info4 rfl .i64 .i64 M.length (by omega) (by omega)
 generalize w1.heap.size = B at *
 go_region
 all_goals
  try (go_wp2_with fail)
  go_ret
  obtain ⟨h1, h2⟩ := newRun_end (first := first) (s := s) WB.out PG.out SZ.out
  exact ⟨W.heap.size + 1, W.heap.size, _, B, rfl, SZ.out.1, h1.drew, h2.drew⟩
end Go.Proofs.YtdeppcddknakjaaGreatDoor.Rx
namespace Go.Proofs.YtdeppcddknakjaaGreatDoor.Rx
open Go.RowKit
theorem fold2_cnt {M : List Nd} {s : List UInt8} {p k : Nat} : ∀ (l : List (Nat × Nat)) (R : Rn), cnt (l.foldl (fun R x => dfs M s p k R x.1 x.2) R) ≤ cnt R ∧ (l.foldl (fun R x => dfs M s p k R x.1 x.2) R).lat.length + cnt (l.foldl (fun R x => dfs M s p k R x.1 x.2) R) ≤ R.lat.length + cnt R
 | [], R => ⟨Nat.le_refl _, Nat.le_refl _⟩
 | x :: l, R => by
  have h4 := dfs_cnt (M := M) (s := s) (p := p) k R x.1 x.2
  have h5 := fold2_cnt (M := M) (s := s) (p := p) (k := k) l (dfs M s p k R x.1 x.2)
  rw [List.foldl_cons]
  exact ⟨by omega, by omega⟩
theorem fold2_take {M : List Nd} {s : List UInt8} {p k : Nat} (l : List (Nat × Nat)) (R : Rn) (j : Nat) (hj : j < l.length) : (l.take (j + 1)).foldl (fun R x => dfs M s p k R x.1 x.2) R = dfs M s p k ((l.take j).foldl (fun R x => dfs M s p k R x.1 x.2) R) l[j].1 l[j].2 := by
 rw [List.take_add_one, List.getElem?_eq_getElem hj, List.foldl_append]
 rfl
/-- The positions that a text's place starts with. -/
def mid (M : List Nd) (s : List UInt8) (p : Nat) (L : List (Nat × Nat)) (bs : Nat × Nat) (fd : Bool) (j : Nat) : Rn := (L.take j).foldl (fun R x => dfs M s p (M.length + 1) R x.1 x.2) (blank M.length bs fd)
theorem mid_zero (M : List Nd) (s : List UInt8) (p : Nat) (L : List (Nat × Nat)) (bs : Nat × Nat) (fd : Bool) : mid M s p L bs fd 0 = blank M.length bs fd := by unfold mid; rw [List.take_zero]; rfl
theorem mid_step (M : List Nd) (s : List UInt8) (p : Nat) (L : List (Nat × Nat)) (bs : Nat × Nat) (fd : Bool) (j : Nat) (hj : j < L.length) : mid M s p L bs fd (j + 1) = dfs M s p (M.length + 1) (mid M s p L bs fd j) L[j].1 L[j].2 := fold2_take L _ j hj
theorem mid_cnt (M : List Nd) (s : List UInt8) (p : Nat) (L : List (Nat × Nat)) (bs : Nat × Nat) (fd : Bool) (j : Nat) : cnt (mid M s p L bs fd j) ≤ M.length ∧ (mid M s p L bs fd j).lat.length + cnt (mid M s p L bs fd j) ≤ M.length := by
 have h := fold2_cnt (M := M) (s := s) (p := p) (k := M.length + 1) (L.take j) (blank M.length bs fd)
 rw [blank_cnt] at h
 have e : (blank M.length bs fd).lat.length = 0 := rfl
 rw [e] at h
 exact ⟨h.1, by have := h.2; unfold mid; omega⟩
theorem pass_yes {M : List Nd} {s : List UInt8} {f0 last p : Nat} {L : List (Nat × Nat)} {bs : Nat × Nat} {fd : Bool} (h : p ≤ last) : pass M s f0 last p L bs fd = dfs M s p (M.length + 1) (mid M s p L bs fd L.length) f0 p := by
 unfold pass place mid
 rw [if_pos h, List.foldl_append, List.take_of_length_le (Nat.le_refl _)]
 rfl
theorem pass_no {M : List Nd} {s : List UInt8} {f0 last p : Nat} {L : List (Nat × Nat)} {bs : Nat × Nat} {fd : Bool} (h : ¬ p ≤ last) : pass M s f0 last p L bs fd = mid M s p L bs fd L.length := by
 unfold pass place mid
 rw [if_neg h, List.take_of_length_le (Nat.le_refl _)]
theorem pass_lt {M : List Nd} {s : List UInt8} {f0 last p : Nat} {L : List (Nat × Nat)} {bs : Nat × Nat} {fd : Bool} (h : Inv M f0 s last p L bs fd) (h0 : ∀ q, M[q]? = some .fin ↔ q = 0) (hM : ∀ q x, M[q]? = some x → q = 0 ∨ x.ok M.length) :
  ∀ x ∈ (pass M s f0 last p L bs fd).lat, x.1 < M.length := fun x hx => by
 obtain ⟨V, v, _⟩ := (fold_seq (M := M) (s := s) (p := p) (k := M.length + 1) (place f0 last p L) (blank M.length bs fd) (by rw [blank_cnt]; omega) (by
  unfold place
  split
  ·rw [List.pairwise_append]
   refine ⟨h.asc, by simp, fun x hx y hy => ?_⟩
   simp only [List.mem_singleton] at hy
   subst hy
   exact Nat.le_of_lt (h.snd x hx).1
  ·exact h.asc)).vis
 have hl : (pass M s f0 last p L bs fd).lat = V.filterMap (rd M s p) := by
  have := v.lat
  unfold pass
  rw [this]
  rfl
 rw [hl, List.mem_filterMap] at hx
 obtain ⟨y, hy, he⟩ := hx
 unfold rd at he
 split at he
 ·rename_i f nx hq
  split at he
  ·cases he
   rcases hM _ _ hq with h1 | h1
   ·have := (h0 y.1).2 h1
    rw [hq] at this
    cases this
   ·exact h1
  ·cases he
 ·cases he
/-- A slice of one's own from which all is cut. -/
theorem own_zero {w : World} {B n : Nat} {e : TypeId} {sz : Nat} {v : Value} {xs : List Value} (h : w.ownsRow B e sz v n xs) : ∃ A cap, v = .slice A n cap ∧ (A = none ∧ cap = 0 ∨ ∃ g, A = some ⟨g, 0, none⟩) ∧ w.ownsRow B e sz (.slice A 0 cap) 0 [] := by
 rcases h.2 with ⟨rfl, h0⟩ | ⟨g, cap, cur, rfl, h1, h2, h3, h4, h5, h6⟩
 ·subst h0
  exact ⟨none, 0, rfl, .inl ⟨rfl, rfl⟩, World.ownsRow_nil _ _ _ _⟩
 ·exact ⟨_, cap, rfl, .inr ⟨g, rfl⟩, by simp, .inr ⟨g, cap, cur, rfl, h1, h2, by omega, h4, h5, by simp⟩⟩
theorem slice_zero {A : Option Addr} {n cap : Nat} (w : World) (h : A = none ∧ cap = 0 ∨ ∃ g, A = some ⟨g, 0, none⟩) : (Instr.sliceAt 182 (.slice A n cap) none (some (.int .i64 0)) none).run Tryz.prog w = .ok (.slice A 0 cap) w := by
 have hu : Tryz.prog.underlying 182 = some (.slice (Tryz.prog.elem 182)) := by kernel_rfl
 have hs : (sizeOf (Tryz.prog.elem 182)).run Tryz.prog w = .ok 2 w := by kernel_rfl
 rw [run_sliceAt_slice w 182 _ _ _ _ hu, run_slice_h w 182 A n cap hu .i64 0 (by omega) (by omega), hs]
 have e : sliced A 0 (0 : Int).toNat cap 2 = .slice A 0 cap := by
  unfold sliced
  rcases h with ⟨rfl, rfl⟩ | ⟨g, rfl⟩
  ·rfl
  ·show Value.slice (if cap = 0 then _ else some _) 0 (cap - 0) = _
   rw [Nat.sub_zero]
   split <;> rfl
 rw [← e]
 rfl
end Go.Proofs.YtdeppcddknakjaaGreatDoor.Rx
namespace Go.Proofs.YtdeppcddknakjaaGreatDoor.Rx
open Go.RowKit
theorem Blk.setCells_ {g : Nat} {t : TypeId} : ∀ (vs pre rest : List Value) (w : World), rest.length = vs.length → Blk w g t (pre ++ rest) → Blk (w.setCells g pre.length vs) g t (pre ++ vs)
 | [], pre, rest, w, hl, h => by
  have : rest = [] := List.length_eq_zero_iff.1 hl
  subst this
  exact h
 | v :: vs, pre, rest, w, hl, h => by
  match rest, hl with
  | x :: rest, hl =>
   rw [World.setCells]
   have h1 := h.set pre.length v
   rw [List.set_append, if_neg (by omega), Nat.sub_self, List.set_cons_zero] at h1
   have h2 := Blk.setCells_ vs (pre ++ [v]) rest (w.setCell ⟨g, pre.length, none⟩ v) (by simpa using hl) (by simpa using h1)
   rw [List.length_append, List.length_singleton] at h2
   simpa using h2
theorem Blk.wiped {w : World} {g : Nat} {t : TypeId} {l vs : List Value} (h : Blk w g t l) (hl : l.length = vs.length) : Blk (w.setCells g 0 vs) g t vs := Blk.setCells_ vs [] l w hl h
theorem But.setCells {S : Nat → Prop} {g : Nat} {a : World} (hp : g < a.heap.size → S g) : ∀ (vs : List Value) (o : Nat) (b : World), But S a b → But S a (b.setCells g o vs)
 | [], o, b, h => h
 | v :: vs, o, b, h => by
  rw [World.setCells]
  exact But.setCells hp vs (o + 1) _ (h.setCell (p := ⟨g, o, none⟩) hp v)
theorem own_slice (A : Option Addr) (n c n' c' : Nat) : (Value.slice A n c).ownBlock = (Value.slice A n' c').ownBlock := by cases A <;> rfl
section
variable {w w' : World} {PT : Nat → Prop} {M : List Nd} {first : Nat} {s : ByteArray} {B rb gr p n1 cap1 : Nat} {A1 : Option Addr} {xs1 : List Value} {v now later : Value} {R : Rn}
/-- The positions before the next byte are those behind the last one. -/
theorem RunW.swap (h : RunW w PT M first s B rb gr p v (.slice A1 n1 cap1) later R) (ho : w.ownsRow B 202 2 (.slice A1 0 cap1) 0 []) :
  Hid (RunW ((w.setCell ⟨rb, 4, none⟩ later).setCell ⟨rb, 5, none⟩ (.slice A1 0 cap1)).drew.drew PT M first s B rb gr p v later (.slice A1 0 cap1) ⟨R.rch, [], R.bs, R.fd⟩) ∧
  Hid (((w.setCell ⟨rb, 4, none⟩ later).setCell ⟨rb, 5, none⟩ (.slice A1 0 cap1)).drew.drew.ownsRow B 202 2 later R.lat.length (posC R.lat)) ∧
  Hid (But (· = rb) w ((w.setCell ⟨rb, 4, none⟩ later).setCell ⟨rb, 5, none⟩ (.slice A1 0 cap1)).drew.drew) := by
 have hn := h.ne
 have k : But (· = rb) w ((w.setCell ⟨rb, 4, none⟩ later).setCell ⟨rb, 5, none⟩ (.slice A1 0 cap1)) := (But.setCell (S := (· = rb)) (But.refl _ _) (p := ⟨rb, 4, none⟩) (fun _ => rfl) _).setCell (p := ⟨rb, 5, none⟩) (fun _ => rfl) _
 have hr : some rb ≠ (Value.slice A1 0 cap1).ownBlock := own_not ho h.blk (by decide)
 refine ⟨RunW.drew (RunW.drew ⟨(h.blk.set 4 later).set 5 (.slice A1 0 cap1), h.pg.keep (fun _ h => h) (fun g j hg => ?_), h.rch.but k (fun e => hn.1 e.symm), h.len, ho.on_but k (fun g hg (e : g = rb) => hr (by rw [hg, e])), h.low, h.base⟩), h.lat.on_but k.drew.drew (fun g hg (e : g = rb) => hn.2.1 (by rw [hg, e])), k.drew.drew⟩
 obtain ⟨g0, cap, _, _, _⟩ := h.pg
 have h1 := h.low g hg
 have h2 := h.base
 exact k.cell (p := ⟨g, j, none⟩) (by show g < _; omega) (fun e => by have e : g = rb := e; omega)
/-- No state is reached any more. -/
theorem RunW.wipe {now0 later0 : Value} (h : RunW w PT M first s B rb gr p v now0 later0 ⟨R.rch, [], R.bs, R.fd⟩) :
  RunW (w.setCells gr 0 (List.replicate M.length (.bool false))) PT M first s B rb gr p v now0 later0 (blank M.length R.bs R.fd) ∧ But (· = gr) w (w.setCells gr 0 (List.replicate M.length (.bool false))) := by
 have hn := h.ne
 have k : But (· = gr) w (w.setCells gr 0 (List.replicate M.length (.bool false))) := But.setCells (S := (· = gr)) (fun _ => rfl) _ 0 w (But.refl _ _)
 refine ⟨⟨h.blk.but k hn.1, h.pg.keep (fun _ h => h) (fun g j hg => ?_), ?_, by show (List.replicate M.length false).length = _; simp, h.lat.on_but k (fun g hg e => hn.2.2.1 (by rw [hg, e])), h.low, h.base⟩, k⟩
 ·obtain ⟨g0, cap, _, _, _⟩ := h.pg
  have h1 := h.low g hg
  have h2 := h.base
  exact k.cell (p := ⟨g, j, none⟩) (by show g < _; omega) (fun e => by have e : g = gr := e; omega)
 ·have h2 := h.rch.wiped (vs := List.replicate M.length (.bool false)) (by simp [h.len])
  show Blk _ _ _ ((List.replicate M.length false).map Value.bool)
  rw [List.map_replicate]
  exact h2
end
theorem zero4 (w : World) : (zeroValue 4).run Tryz.prog w = .ok (.bool false) w := by kernel_rfl
/-- What the loop keeps, in memory. -/
def SrI (PT : Nat → Prop) (M : List Nd) (first : Nat) (s : ByteArray) (last B rb gr : Nat) (v : Value) (w0 : World) (p : Nat) (now later : Value) (R : Rn) (n1 : Nat) (xs1 : List Value) (wr : World) : Prop :=
 Hid (RunW wr PT M first s B rb gr p v now later R) ∧ Hid (wr.ownsRow B 202 2 now n1 xs1) ∧ Hid (∀ g, now.ownBlock = some g → later.ownBlock ≠ some g) ∧ Hid (Inv M first s.data.toList last p R.lat R.bs R.fd) ∧ Hid (∀ x ∈ R.lat, x.1 < M.length) ∧ Hid (Below B w0 wr)
/-- What the search leaves. -/
def SrP (M : List Nd) (first : Nat) (s : ByteArray) (last B rb : Nat) (w : World) (e : Ending) (w' : World) : Prop :=
 e = .returned (.tuple #[]) ∧ ∃ p L bs fd, p ≤ s.size + 1 ∧ (p = s.size + 1 ∨ (L = [] ∧ (fd = true ∨ last < p))) ∧ Inv M first s.data.toList last p L bs fd ∧ w'.cell? ⟨rb, 7, none⟩ = some (.int .i64 (bs.1 : Int)) ∧ w'.cell? ⟨rb, 8, none⟩ = some (.int .i64 (bs.2 : Int)) ∧ w'.cell? ⟨rb, 9, none⟩ = some (.bool fd) ∧ Below B w w'
theorem SrI.next {PT : Nat → Prop} {M : List Nd} {first : Nat} {s : ByteArray} {last B rb gr p n2 cap1 : Nat} {A1 : Option Addr} {v now lj : Value} {w W2 W5 : World} {R5 : Rn} {xs x y : List Value}
  (hW : RunW W5 PT M first s B rb gr p v now lj R5) (hB : But (RunS rb gr (.slice A1 0 cap1)) W2 W5) (hT : RowTo W2 (.slice A1 0 cap1) lj) (hO : W2.ownsRow B 202 2 now n2 xs) (hrb : Blk W2 rb 184 x) (hgr : Blk W2 gr 4 y)
  (hNL : ∀ g, now.ownBlock = some g → (Value.slice A1 0 cap1).ownBlock ≠ some g) (hLB : ∀ g, (Value.slice A1 0 cap1).ownBlock = some g → B ≤ g) (h2 : Below B w W2) (hBB : B ≤ w.heap.size)
  (hI : Inv M first s.data.toList last (p + 1) R5.lat R5.bs R5.fd) (hL : ∀ x ∈ R5.lat, x.1 < M.length) {n : Int} (hn : n = ((p + 1 : Nat) : Int)) :
  SrI PT M first s last B rb gr v w (p + 1) now lj R5 n2 xs (W5.setCell ⟨rb, 3, none⟩ (.int .i64 n)) := by
 subst hn
 have k : But (· = rb) W5 (W5.setCell ⟨rb, 3, none⟩ (.int .i64 (((p + 1 : Nat) : Int)))) := But.setCell (S := (· = rb)) (But.refl _ _) (p := ⟨rb, 3, none⟩) (fun _ => rfl) _
 have hnr : some rb ≠ now.ownBlock := own_not hO hrb (by decide)
 have hng : some gr ≠ now.ownBlock := own_not hO hgr (by decide)
 have O5 : W5.ownsRow B 202 2 now n2 xs := hO.on_but hB (fun g hg e => by
  rcases e with e | e | e
  ·exact hnr (by rw [hg, e])
  ·exact hng (by rw [hg, e])
  ·exact hNL g hg e.symm)
 refine ⟨hW.put k (hW.blk.set 3 _) rfl rfl, O5.on_but k (fun g hg (e : g = rb) => hnr (by rw [hg, e])), fun g h1 h2 => ?_, hI, hL, (h2.trans (hB.below (Nat.le_trans hBB h2.size) (fun n hn => ?_))).trans (k.below (by have := hB.size; have := h2.size; omega) (fun n (hn : n = rb) => by rw [hn]; exact hW.base.1))⟩
 ·rcases hT with e | e
  ·exact hNL g h1 (by rw [← e]; exact h2)
  ·have h3 := e g h2
   have h4 := (World.ownsRow.lt hO g h1).2
   omega
 ·rcases hn with hn | hn | hn
  ·rw [hn]; exact hW.base.1
  ·rw [hn]; exact hW.base.2
  ·exact hLB n hn.symm
def atR (rb : Nat) (w : World) : Nat := match w.cell? ⟨rb, 3, none⟩ with
 | some (.int _ n) => n.toNat
 | _ => 0
theorem atR_of {w : World} {PT : Nat → Prop} {M : List Nd} {first : Nat} {s : ByteArray} {B rb gr p : Nat} {v now later : Value} {R : Rn} (h : RunW w PT M first s B rb gr p v now later R) : atR rb w = p := by
 have h3 : w.cell? ⟨rb, 3, none⟩ = some (.int .i64 (p : Int)) := h.blk.cell 3
 unfold atR
 rw [h3]
 rfl
set_option maxHeartbeats 4000000 in
set_option maxRecDepth 100000 in
theorem search_any (PT : Nat → Prop) (M : List Nd) (first : Nat) (s : ByteArray) (last B rb gr : Nat) (v : Value) (h0 : ∀ q, M[q]? = some .fin ↔ q = 0) (hM : ∀ q x, M[q]? = some x → q = 0 ∨ x.ok M.length) (hf : first < M.length) (hlen : ∀ (j : Nat) (l : List Nat), M[j]? = some (.fork l) → l.length ≤ 1000000000) (hml : M.length ≤ 1000) (hs : s.size ≤ 1000000) (hlast : last ≤ 1000000)
  (w : World) (h : RunW w PT M first s B rb gr 0 v (.slice none 0 0) (.slice none 0 0) (blank M.length (0, 0) false)) :
  Calls Tryz.prog 160 #[.pointer (some ⟨rb, 0, none⟩), .int .i64 (last : Int)] w (SrP M first s last B rb w) := by
 have H := Lib.hid h
 have H0 := Lib.hid h0
 have HM := Lib.hid hM
 have f3 := h.blk.froz 3
 have hs' : s.size ≤ maxLen := by unfold maxLen; omega
 have BB : Hid (B ≤ rb ∧ B ≤ gr ∧ rb < w.heap.size) := ⟨h.base.1, h.base.2, h.blk.lt⟩
 have c3 : w.cell? ⟨rb, 3, none⟩ = some (.int .i64 ((0 : Nat) : Int)) := h.blk.cell 3
 have HM' : ∀ j (h : j < M.length), M[j] = .fin ∨ M[j].ok M.length := fun j hj => by
  rcases hM j M[j] (List.getElem?_eq_getElem hj) with e | e
  ·have := (h0 j).2 e
   rw [List.getElem?_eq_getElem hj] at this
   injection this with this
   exact .inl this
  ·exact .inr e
 have HRR := Lib.hid (fun v now p => reach_any PT M first s B rb gr p v now HM' hlen hs' (M.length + 1))
 clear h h0 hM hlen HM' hs'
 go_enter Tryz.func160, Tryz.ntmps160
 go_wp2_with fail
 go_loopw [] (fun wr => ∃ p now later R n1 xs1, p ≤ s.size + 1 ∧ SrI PT M first s last B rb gr v w p now later R n1 xs1 wr) (fun wr => s.size + 1 - atR rb wr)
 case atStart =>
  have k : But (· = rb) w (w.setCell ⟨rb, 3, none⟩ (.int .i64 0)) := But.setCell (S := (· = rb)) (But.refl _ _) (p := ⟨rb, 3, none⟩) (fun _ => rfl) _
  exact ⟨0, _, _, _, _, _, Nat.zero_le _, H.out.put k (H.out.blk.set 3 _) rfl rfl, World.ownsRow_nil _ _ _ _, fun g h => (by cases h), Inv.start _ _ _ _, fun x hx => (by cases hx), k.below (by have := BB.out; omega) (fun n (hn : n = rb) => by rw [hn]; exact BB.out.1)⟩
 case round =>
  obtain ⟨p, now, later, R, n1, xs1, hp, HW, HO, HNL, HI, HLT, HB⟩ := hrel
  have c2 : wr.cell? ⟨rb, 2, none⟩ = some (.string s) := HW.out.blk.cell 2
  have c3 : wr.cell? ⟨rb, 3, none⟩ = some (.int .i64 (p : Int)) := HW.out.blk.cell 3
  obtain ⟨A1, cap1, rfl, hA1, ho0⟩ := own_zero HO.out
  obtain ⟨A2, cap2, rfl, hA2, ho2⟩ := own_zero HW.out.lat
  have AT := Lib.hid (atR_of HW.out)
  by_cases hps : p ≤ s.size
  ·have c4 : wr.cell? ⟨rb, 4, none⟩ = some (.slice A1 n1 cap1) := HW.out.blk.cell 4
   have c5 : wr.cell? ⟨rb, 5, none⟩ = some (.slice A2 R.lat.length cap2) := HW.out.blk.cell 5
   have f4 := HW.out.blk.froz 4
   have f5 := HW.out.blk.froz 5
   have hsl := fun w => slice_zero (n := n1) w hA1
   have hle : (p : Int) ≤ (s.size : Int) := by omega
   obtain ⟨S1, S2, S3⟩ := HW.out.swap ho0
   have LB : Hid (∀ g, (Value.slice A1 0 cap1).ownBlock = some g → B ≤ g ∧ g < wr.heap.size) := World.ownsRow.lt ho0
   have NL : Hid (∀ g, (Value.slice A2 R.lat.length cap2).ownBlock = some g → (Value.slice A1 0 cap1).ownBlock ≠ some g) := fun g h1 h2 => HNL.out g ((own_slice _ _ _ _ _).trans h2) h1
   clear hA1 ho0 HW HO HNL
   go_upto_region 1 with fail
   go_region
   go_upto_region 3 with fail
   go_region
   go_upto_region 4 with fail
   generalize ((wr.setCell ⟨rb, 4, none⟩ (.slice A2 R.lat.length cap2)).setCell ⟨rb, 5, none⟩ (.slice A1 0 cap1)).drew.drew = W1 at *
   clear c2 c3 c4 c5 f4 f5 hsl
   have B1 : Hid (Below B w W1) := HB.out.trans (S3.out.below (by have := HB.out.size; have := BB.out; omega) (fun n hn => by have := BB.out; omega))
   have WS : Hid (wr.heap.size ≤ W1.heap.size) := S3.out.size
   clear HB S3
   have c2 : W1.cell? ⟨rb, 2, none⟩ = some (.string s) := S1.out.blk.cell 2
   have c3 : W1.cell? ⟨rb, 3, none⟩ = some (.int .i64 (p : Int)) := S1.out.blk.cell 3
   have c4 : W1.cell? ⟨rb, 4, none⟩ = some (.slice A2 R.lat.length cap2) := S1.out.blk.cell 4
   have c6 : W1.cell? ⟨rb, 6, none⟩ = some (.slice (some ⟨gr, 0, none⟩) M.length M.length) := S1.out.blk.cell 6
   have c7 : W1.cell? ⟨rb, 7, none⟩ = some (.int .i64 (R.bs.1 : Int)) := S1.out.blk.cell 7
   have c8 : W1.cell? ⟨rb, 8, none⟩ = some (.int .i64 (R.bs.2 : Int)) := S1.out.blk.cell 8
   have c9 : W1.cell? ⟨rb, 9, none⟩ = some (.bool R.fd) := S1.out.blk.cell 9
   go_cut [60] (fun c wx => c = .bool (decide (R.lat.length = 0) && (R.fd || decide (last < p))) ∧ wx = W1)
   case first =>
    by_cases hz : R.lat.length = 0
    ·have hz' : (R.lat.length : Int) = 0 := by omega
     cases hfd : R.fd with
     | true =>
      rw [hfd] at c9
      go_wp2_with fail
      go_meet
      case rel => exact ⟨by simp [hz, hfd], rfl⟩
     | false =>
      rw [hfd] at c9
      by_cases hlp : last < p
      ·have hlp' : (last : Int) < (p : Int) := by omega
       go_wp2_with fail
       go_meet
       case rel => exact ⟨by simp [hz, hlp, hfd], rfl⟩
      ·have hlp' : ¬ ((last : Int) < (p : Int)) := by omega
       go_wp2_with fail
       go_meet
       case rel => exact ⟨by simp [hz, hlp, hfd], rfl⟩
    ·have hz' : ¬ ((R.lat.length : Int) = 0) := by omega
     go_wp2_with fail
     go_meet
     case rel => exact ⟨by simp [hz], rfl⟩
   case rest =>
    obtain ⟨rfl, rfl⟩ := hcut
    cases hst : (decide (R.lat.length = 0) && (R.fd || decide (last < p))) with
    | true =>
     have HX : Hid (R.lat = [] ∧ (R.fd = true ∨ last < p)) := by
      simp only [Bool.and_eq_true, decide_eq_true_eq, Bool.or_eq_true] at hst
      exact ⟨List.length_eq_zero_iff.1 hst.1, hst.2⟩
     clear hst
     go_wp2_with fail
     go_end0
     exact ⟨rfl, p, R.lat, R.bs, R.fd, hp, .inr HX.out, HI.out, c7, c8, c9, B1.out⟩
    | false =>
     clear hst c7 c8 c9 c2 c3
     have hcl : ∀ ty, (Builtin.clear_ #[108] ty #[.slice (some ⟨gr, 0, none⟩) M.length M.length]).run Tryz.prog wc = .ok (.tuple #[]) (wc.setCells gr 0 (List.replicate M.length (.bool false))) :=
      fun ty => Lib.run_clear_slice wc 108 4 ty (.bool false) Tryz.underlying108 zero4 rfl rfl gr 0 M.length M.length (by omega) (fun j hj => by rw [Nat.zero_add, S1.out.rch.cell, List.getElem?_map, List.getElem?_eq_getElem (by have := S1.out.len; simp only at this ⊢; omega)]; rfl) (fun j _ => S1.out.rch.froz _)
     obtain ⟨K1, K2⟩ := S1.out.wipe
     have K1 := Lib.hid K1
     have K2 := Lib.hid K2
     have hO : Hid ((wc.setCells gr 0 (List.replicate M.length (.bool false))).ownsRow B 202 2 (.slice A2 R.lat.length cap2) R.lat.length (posC R.lat)) := S2.out.on_but K2.out (fun g hg e => own_not S2.out S1.out.rch (by decide) (by rw [hg, e]))
     go_upto_region 6 with (simp only [hcl])
     have c4' : (wc.setCells gr 0 (List.replicate M.length (.bool false))).cell? ⟨rb, 4, none⟩ = some (.slice A2 R.lat.length cap2) := K1.out.blk.cell 4
     have WS2 : Hid (wr.heap.size ≤ (wc.setCells gr 0 (List.replicate M.length (.bool false))).heap.size) := Nat.le_trans WS.out K2.out.size
     have B2 : Hid (Below B w (wc.setCells gr 0 (List.replicate M.length (.bool false)))) := B1.out.trans (K2.out.below (by have := B1.out.size; have := BB.out; omega) (fun n hn => by have := BB.out; omega))
     clear hcl c4 c6 S1 S2 K2 B1 WS
     generalize wc.setCells gr 0 (List.replicate M.length (.bool false)) = W2 at *
     have HR := Lib.hid (HRR.out v (.slice A2 R.lat.length cap2) p)
     go_wp2_with fail
     go_loopw [70] (fun vi wr => ∃ (j : Nat) (lj : Value), j ≤ R.lat.length ∧ vi = .int .i64 j ∧ Hid (RunW wr PT M first s B rb gr p v (.slice A2 R.lat.length cap2) lj (mid M s.data.toList p R.lat R.bs R.fd j)) ∧ Hid (But (RunS rb gr (.slice A1 0 cap1)) W2 wr) ∧ Hid (RowTo W2 (.slice A1 0 cap1) lj)) (fun vi _ => R.lat.length - (intOf vi).toNat)
     case atStart => exact ⟨0, _, Nat.zero_le _, rfl, by (rw [mid_zero]; exact K1.out), But.refl _ _, RowTo.refl _ _⟩
     case round =>
      obtain ⟨j, lj, hj, rfl, HQ, HBq, HT⟩ := hrel
      have hrb := (K1.out.blk)
      have hnr : Hid (some rb ≠ (Value.slice A2 R.lat.length cap2).ownBlock) := own_not hO.out K1.out.blk (by decide)
      have hng : Hid (some gr ≠ (Value.slice A2 R.lat.length cap2).ownBlock) := own_not hO.out K1.out.rch (by decide)
      clear hrb
      have OQ : Hid (wr.ownsRow B 202 2 (.slice A2 R.lat.length cap2) R.lat.length (posC R.lat)) := hO.out.on_but HBq.out (fun g hg e => by
       rcases e with e | e | e
       ·exact hnr.out (by rw [hg, e])
       ·exact hng.out (by rw [hg, e])
       ·exact NL.out g hg e.symm)
      have MC := Lib.hid (mid_cnt M s.data.toList p R.lat R.bs R.fd j)
      by_cases hlt : j < R.lat.length
      ·obtain ⟨g2, rfl⟩ : ∃ g2, A2 = some ⟨g2, 0, none⟩ := by
        rcases hA2 with ⟨rfl, h0⟩ | h
        ·rcases OQ.out.2 with ⟨_, h1⟩ | ⟨g, cap, cur, h1, _⟩
         ·omega
         ·cases h1
        ·exact h
       obtain ⟨q, i, hqi⟩ : ∃ q i, R.lat[j] = (q, i) := ⟨_, _, rfl⟩
       have PA := posC_at R.lat j hlt
       rw [hqi] at PA
       have d0 : wr.cell? ⟨g2, j * 2, none⟩ = some (.int .i64 (q : Int)) := (World.ownsRow.cellAt OQ.out (j * 2) (by omega)).trans PA.1
       have d1 : wr.cell? ⟨g2, j * 2 + 1, none⟩ = some (.int .i64 (i : Int)) := (World.ownsRow.cellAt OQ.out (j * 2 + 1) (by omega)).trans PA.2
       have hq : q < M.length := by
        have := HLT.out _ (List.getElem_mem hlt)
        rw [hqi] at this
        exact this
       have HQ3 : Hid (RunW (wr.alloc (.cells #[.int .i64 (q : Int), .int .i64 (i : Int)] 202)) PT M first s B rb gr p v (.slice (some ⟨g2, 0, none⟩) R.lat.length cap2) lj (mid M s.data.toList p R.lat R.bs R.fd j)) := HQ.out.put (But.alloc (But.refl _ _) _) (HQ.out.blk.alloc _) rfl rfl
       have CR := Lib.hid (HR.out _ (mid M s.data.toList p R.lat R.bs R.fd j) lj q i HQ3.out (by have := MC.out; omega) (by have := MC.out; omega) hq)
       have HE := Lib.hid (mid_step M s.data.toList p R.lat R.bs R.fd j hlt)
       have HQI := Lib.hid hqi
       have hj0 : (0 : Int) ≤ (j : Int) := Int.natCast_nonneg _
       have hj1 : (j : Int) < (R.lat.length : Int) := by omega
       have hj2 : (j : Int) < 9223372036854775807 := by
        rcases OQ.out.2 with ⟨_, h1⟩ | ⟨g, cap, cur, h1, h2, h3, h4, h5, _⟩
        ·omega
        ·unfold maxLen at h5
         omega
       clear PA hqi HQ OQ
       go_wp2_with (go_at_call 181; (with_reducible refine CR.out.mono ?_); rintro e w4 ⟨rfl, l4, hw4, hb4, hr4⟩)
       go_roundw
       case rel => exact ⟨j + 1, l4, by omega, by go_num, by (rw [HE.out, HQI.out]; exact hw4.out), (HBq.out.alloc _).run hb4.out HT.out, HT.out.trans (hr4.out.wk (by rw [World.size_alloc]; omega)) HBq.out.size⟩
       case measure => simp [intOf]; omega
      ·obtain rfl : j = R.lat.length := by omega
       have c3q : wr.cell? ⟨rb, 3, none⟩ = some (.int .i64 (p : Int)) := HQ.out.blk.cell 3
       have c1q : wr.cell? ⟨rb, 1, none⟩ = some (.int .i64 (first : Int)) := HQ.out.blk.cell 1
       have PS := Lib.hid (HI.out.step (by rw [← size_len] at hps; exact hps) H0.out HM.out hf)
       have PL := Lib.hid (pass_lt HI.out H0.out HM.out)
       by_cases hpl : p ≤ last
       ·have hpl' : (p : Int) ≤ (last : Int) := by omega
        have CR := Lib.hid (HR.out _ (mid M s.data.toList p R.lat R.bs R.fd R.lat.length) lj first p HQ.out.drew (by have := MC.out; omega) (by have := MC.out; omega) hf)
        rw [pass_yes hpl] at PS PL
        go_upto_region 12 with fail
        go_region_with (go_at_call 181; (with_reducible refine CR.out.mono ?_); rintro e w5 ⟨rfl, l5, hw5, hb5, hr5⟩; have c3z : w5.cell? ⟨rb, 3, none⟩ = some (.int .i64 (p : Int)) := hw5.out.blk.cell 3; have f3z := hw5.out.blk.froz 3)
        all_goals
         go_wp2_with fail
         have NX := Lib.hid (SrI.next (n := (p : Int) + 1) hw5.out (HBq.out.drew.run hb5.out HT.out) (HT.out.trans hr5.out HBq.out.size) hO.out K1.out.blk K1.out.rch NL.out (fun g h => (LB.out g h).1) B2.out (by have := BB.out; omega) PS.out PL.out (by omega))
         go_roundw
         case rel => exact ⟨p + 1, _, _, _, _, _, by omega, NX.out⟩
         case measure => rw [AT.out, atR_of NX.out.1.out]; omega
       ·have hpl' : ¬ ((p : Int) ≤ (last : Int)) := by omega
        rw [pass_no hpl] at PS PL
        have f3q := HQ.out.blk.froz 3
        have NX := Lib.hid (SrI.next (n := (p : Int) + 1) HQ.out HBq.out HT.out hO.out K1.out.blk K1.out.rch NL.out (fun g h => (LB.out g h).1) B2.out (by have := BB.out; omega) PS.out PL.out (by omega))
        go_wp2_with fail
        go_roundw
        case rel => exact ⟨p + 1, _, _, _, _, _, by omega, NX.out⟩
        case measure => rw [AT.out, atR_of NX.out.1.out]; omega
  ·obtain rfl : p = s.size + 1 := by omega
   have c7 : wr.cell? ⟨rb, 7, none⟩ = some (.int .i64 (R.bs.1 : Int)) := HW.out.blk.cell 7
   have c8 : wr.cell? ⟨rb, 8, none⟩ = some (.int .i64 (R.bs.2 : Int)) := HW.out.blk.cell 8
   have c9 : wr.cell? ⟨rb, 9, none⟩ = some (.bool R.fd) := HW.out.blk.cell 9
   have hle : ¬ (((s.size + 1 : Nat) : Int) ≤ (s.size : Int)) := by omega
   clear hA1 hA2 ho0 ho2 HW HO HNL
   go_upto_region 1 with fail
   go_region
   all_goals
    go_wp2_with fail
    go_end0
    exact ⟨rfl, s.size + 1, R.lat, R.bs, R.fd, Nat.le_refl _, .inl rfl, HI.out, c7, c8, c9, HB.out.drew⟩
end Go.Proofs.YtdeppcddknakjaaGreatDoor.Rx
namespace Go.Proofs.YtdeppcddknakjaaGreatDoor.Rx
open Go.RowKit
mutual
def fewF : Pe → Prop
 | .byte _ _ => True
 | .cls _ _ => True
 | .sub e _ => e.length ≤ 1001 ∧ fewE e
def fewA : List Pe → Prop
 | [] => True
 | p :: l => fewF p ∧ fewA l
/-- No expression has many alternatives. -/
def fewE : List (List Pe) → Prop
 | [] => True
 | a :: e => fewA a ∧ fewE e
end
mutual
theorem PeV.few {w : World} {T : Nat → Prop} : ∀ {p : Pe} {C : List Value}, PeV w T C p → fewF p
 | .byte _ _, C, _ => by rw [fewF]; trivial
 | .cls _ _, C, _ => by rw [fewF]; trivial
 | .sub e r, C, h => by
  rw [PeV] at h
  obtain ⟨h1, b, cap, _, _, h2⟩ := h
  rw [fewF]
  exact ⟨h1.2, AltsV.few h2⟩
theorem AltsV.few {w : World} {T : Nat → Prop} : ∀ {e : List (List Pe)} {b k : Nat}, AltsV w T b k e → fewE e
 | [], b, k, _ => by rw [fewE]; trivial
 | a :: e, b, k, h => by
  rw [AltsV] at h
  rw [fewE]
  refine ⟨?_, AltsV.few h.2⟩
  obtain ⟨A, cap, _, h1⟩ := h.1
  match a, h1 with
  | [], _ => rw [fewA]; trivial
  | p :: l, h1 =>
   obtain ⟨g, _, _, h2⟩ := h1 (by simp)
   exact RowV.few h2
theorem RowV.few {w : World} {T : Nat → Prop} : ∀ {l : List Pe} {b k : Nat}, RowV w T b k l → fewA l
 | [], b, k, _ => by rw [fewA]; trivial
 | p :: l, b, k, h => by
  rw [RowV] at h
  rw [fewA]
  obtain ⟨C, _, h1⟩ := h.1
  exact ⟨PeV.few h1, RowV.few h.2⟩
end
theorem ExV.few {w : World} {T : Nat → Prop} {v : Value} {x : List (List Pe)} (h : ExV w T v x) : x.length ≤ 1001 ∧ fewE x := by
 obtain ⟨h1, b, cap, _, _, h2⟩ := h
 exact ⟨h1.2, AltsV.few h2⟩
/-- A state that forks does so to few. -/
def Nd.few : Nd → Prop
 | .fork l => l.length ≤ 1001
 | _ => True
def AllFew (m : List Nd) : Prop := ∀ x ∈ m, x.few
theorem AllFew.snoc {m : List Nd} {x : Nd} (h : AllFew m) (hx : x.few) : AllFew (m ++ [x]) := fun y hy => by
 rcases List.mem_append.1 hy with hy | hy
 ·exact h y hy
 ·rw [List.mem_singleton.1 hy]; exact hx
theorem AllFew.set {m : List Nd} {x : Nd} {k : Nat} (h : AllFew m) (hx : x.few) : AllFew (m.set k x) := fun y hy => by
 rcases List.mem_or_eq_of_mem_set hy with hy | rfl
 ·exact h y hy
 ·exact hx
theorem cR_few {r : Rp} {g : List Nd → Nat → Nat × List Nd} (h : ∀ m nx, AllFew m → AllFew (g m nx).2) (m : List Nd) (nx : Nat) (hm : AllFew m) : AllFew (cR r g m nx).2 := by
 cases r with
 | one => exact h m nx hm
 | opt => exact (h m nx hm).snoc (by show 2 ≤ 1001; omega)
 | star => exact (h _ _ (hm.snoc (by trivial))).set (by show 2 ≤ 1001; omega)
 | plus => exact (h _ _ (hm.snoc (by trivial))).set (by show 2 ≤ 1001; omega)
theorem cB_one : ∀ (e : List (List Pe)) (m : List Nd) (nx : Nat), (cB e m nx).1.length = e.length
 | [], m, nx => by rw [cB]; rfl
 | a :: e, m, nx => by rw [cB, List.length_cons, List.length_cons, cB_one e]
mutual
theorem cF_few : ∀ (p : Pe) (m : List Nd) (nx : Nat), fewF p → AllFew m → AllFew (cF p m nx).2
 | .byte c r, m, nx, _, hm => by rw [cF]; exact cR_few (fun m nx hm => hm.snoc (by trivial)) m nx hm
 | .cls f r, m, nx, _, hm => by rw [cF]; exact cR_few (fun m nx hm => hm.snoc (by trivial)) m nx hm
 | .sub e r, m, nx, h, hm => by
  rw [fewF] at h
  rw [cF]
  exact cR_few (fun m nx hm => (cB_few e m nx h.2 hm).snoc (by show (cB e m nx).1.length ≤ 1001; rw [cB_one]; exact h.1)) m nx hm
theorem cA_few : ∀ (l : List Pe) (m : List Nd) (nx : Nat), fewA l → AllFew m → AllFew (cA l m nx).2
 | [], m, nx, _, hm => by rw [cA]; exact hm
 | p :: l, m, nx, h, hm => by
  rw [fewA] at h
  rw [cA]
  exact cF_few p _ _ h.1 (cA_few l m nx h.2 hm)
theorem cB_few : ∀ (e : List (List Pe)) (m : List Nd) (nx : Nat), fewE e → AllFew m → AllFew (cB e m nx).2
 | [], m, nx, _, hm => by rw [cB]; exact hm
 | a :: e, m, nx, h, hm => by
  rw [fewE] at h
  rw [cB]
  exact cB_few e _ nx h.2 (cA_few a m nx h.1 hm)
end
theorem pm_few {x : List (List Pe)} (h : x.length ≤ 1001 ∧ fewE x) (j : Nat) (l : List Nat) (hj : (pm x)[j]? = some (.fork l)) : l.length ≤ 1000000000 := by
 have h1 : AllFew (pm x) := AllFew.snoc (cB_few x [.fin] 0 h.2 (fun y hy => by rw [List.mem_singleton.1 hy]; trivial)) (by show (cB x [.fin] 0).1.length ≤ 1001; rw [cB_one]; exact h.1)
 have h2 : (Nd.fork l).few := h1 _ (List.mem_of_getElem? hj)
 have h2 : l.length ≤ 1001 := h2
 omega
theorem pm_fin (x : List (List Pe)) (q : Nat) : (pm x)[q]? = some .fin ↔ q = 0 := by
 refine ⟨fun hq => ?_, fun hq => (by rw [hq]; exact pm_zero x)⟩
 rcases pm_at (List.getElem?_eq_some_iff.1 hq).1 with h1 | ⟨h1, y, h2, h3⟩
 ·exact h1.1
 ·rw [hq] at h2
  cases h2
  exact h3.elim
theorem pm_ok (x : List (List Pe)) (q : Nat) (y : Nd) (hq : (pm x)[q]? = some y) : q = 0 ∨ y.ok (pm x).length := by
 rcases pm_at (List.getElem?_eq_some_iff.1 hq).1 with h1 | ⟨h1, z, h2, h3⟩
 ·exact .inl h1.1
 ·rw [hq] at h2
  cases h2
  exact .inr h3
/-- What a search says of the text p of an expression. -/
def ResS (p s : List UInt8) (last : Nat) (bs : Nat × Nat) (fd : Bool) : Prop :=
 (check p ≠ 0 ∧ bs = (0, 0) ∧ fd = false) ∨ ∃ r, check p = 0 ∧ parse p = some r ∧ Res r s last bs fd
theorem info32 : (Tryz.prog.info? 141).map (·.size) = some 2 := by kernel_rfl
theorem res_found {fn : Func} {p u : Tmp} (h : fn.results = #[.cell p 141, .tmp u]) {tmps : Array Value} {V : World} {g : Nat} {x y z : Value} (hp : tmps.getD p undef = .pointer (some ⟨g, 0, none⟩)) (hz : tmps.getD u undef = z) (hg : Blk V g 141 [x, y]) :
  (results fn tmps).run Tryz.prog V = .ok (.tuple #[.agg #[x, y], z]) V := by
 have hl := run_loadVar_row (P := Tryz.prog) V g 141 141 #[x, y] (0, 0) _ hg Tryz.underlying141 rfl info32
 rw [results_cell_tmp h, hp, hz]
 simp [asAddr, hl, Result.andThen]
/-- What search returns. -/
def SeaP (p s : ByteArray) (last : Nat) (w : World) (e : Ending) (w' : World) : Prop :=
 ∃ (bs : Nat × Nat) (fd : Bool), e = .returned (.tuple #[.agg #[.int .i64 (bs.1 : Int), .int .i64 (bs.2 : Int)], .bool fd]) ∧ Hid (ResS p.data.toList s.data.toList last bs fd) ∧ Hid (Below w.heap.size w w')
set_option maxHeartbeats 4000000 in
set_option maxRecDepth 100000 in
theorem search34_any (p s : ByteArray) (last : Nat) (hp : p.size ≤ maxLen) (hs : s.size ≤ 1000000) (hl : last ≤ 1000000) (w : World) : Calls Tryz.prog 133 #[.string p, .string s, .int .i64 (last : Int)] w (SeaP p s last w) := by
 have CP := Lib.hid (fun w => parse_any p hp w)
 have hw0 : Hid (Below w.heap.size w (w.alloc (.cells #[.int .i64 0, .int .i64 0] 141))) := (Below.refl _ _).alloc (Nat.le_refl _) _
 have k0 : Hid (Blk (w.alloc (.cells #[.int .i64 0, .int .i64 0] 141)) w.heap.size 141 [.int .i64 0, .int .i64 0]) := Blk.new w 141 _
 have z0 : Hid ((w.alloc (.cells #[.int .i64 0, .int .i64 0] 141)).heap.size = w.heap.size + 1) := World.size_alloc _ _
 go_enter Tryz.func133, Tryz.ntmps133
 go_wp2_with fail
 refine (CP.out _).mono ?_
 rintro e w1 ⟨v, n, rfl, b1, hn, hx⟩
 have W1 : Hid (Below w.heap.size w w1) := hw0.out.trans (b1.out.mono (by rw [z0.out]; omega))
 have k1 : Hid (Blk w1 w.heap.size 141 [.int .i64 0, .int .i64 0]) := k0.out.below b1.out (by rw [z0.out]; omega)
 have S1 : Hid (w.heap.size + 1 ≤ w1.heap.size) := by have := b1.out.size; rw [z0.out] at this; exact this
 generalize w.alloc (.cells #[.int .i64 0, .int .i64 0] 141) = w0 at *
 by_cases hc : check p.data.toList = 0
 ·have hn0 : (n != 0) = false := by rw [hn.out, hc]; rfl
  obtain ⟨x, hv, hpx, hwx⟩ := hx.out hc
  have CN := Lib.hid (newRun_any x hwx v s w1 (Fresh w0 w1) hv (fun _ h => h.2))
  have FW := Lib.hid (pm_few hv.few)
  have HPX := Lib.hid hpx
  have HC := Lib.hid hc
  have PLn := Lib.hid (pm_len x)
  have HWX := Lib.hid hwx
  clear hv hpx hwx hn hx hc b1
  go_wp2_with fail
  refine CN.out.mono ?_
  rintro e w2 ⟨rb, gr, v2, B, rfl, hB, hr, b2⟩
  have BLT := Lib.hid hr.out.base
  have HB := Lib.hid hB
  have k2 : Hid (Blk w2 w.heap.size 141 [.int .i64 0, .int .i64 0]) := k1.out.below b2.out (by have := S1.out; omega)
  have W2 : Hid (Below w.heap.size w w2) := W1.out.trans (b2.out.mono W1.out.size)
  have CS := Lib.hid (search_any _ (pm x) (ps x) s last B rb gr v2 (pm_fin x) (pm_ok x) (ps_lt x) FW.out (by rw [PLn.out]; have := HWX.out; omega) hs hl w2 hr.out)
  clear hr CN
  go_wp2_with fail
  refine CS.out.mono ?_
  rintro e w3 ⟨rfl, q, L, bs, fd, h1, h2, h3, c7, c8, c9, b3⟩
  have RS : Hid (ResS p.data.toList s.data.toList last bs fd) := .inr ⟨_, HC.out, HPX.out, h3.end_ (by rw [size_len]; exact h1) (by rw [size_len]; exact h2)⟩
  have k3 : Hid (Blk w3 w.heap.size 141 [.int .i64 0, .int .i64 0]) := k2.out.below b3 (by have := S1.out; have := HB.out; omega)
  have W3 : Hid (Below w.heap.size w w3) := W2.out.trans (b3.mono (by have := S1.out; have := HB.out; omega))
  have e0 : w3.cell? ⟨w.heap.size, 0, none⟩ = some (.int .i64 0) := k3.out.cell 0
  have e1 : w3.cell? ⟨w.heap.size, 1, none⟩ = some (.int .i64 0) := k3.out.cell 1
  have f0 := k3.out.froz 0
  have f1 := k3.out.froz 1
  clear h1 h2 h3 b3 CS
  go_wp2_with fail
  go_region
  all_goals
   go_wp2_with fail
   refine bodyPost_ret (res_found rfl rfl rfl (((k3.out.set 0 (.int .i64 (bs.1 : Int))).set 1 (.int .i64 (bs.2 : Int))))) rfl ?_
   exact ⟨bs, fd, rfl, RS.out, ((W3.out.setCell (p := ⟨w.heap.size, 0, none⟩) (Nat.le_refl _) _).setCell (p := ⟨w.heap.size, 1, none⟩) (Nat.le_refl _) _).drew⟩
 ·have hn0 : (n != 0) = true := by
   have h := hn.out
   simp
   intro e
   exact hc (h.symm.trans e)
  have HC := Lib.hid hc
  have d0 : w1.cell? ⟨w.heap.size, 0, none⟩ = some (.int .i64 0) := k1.out.cell 0
  have d1 : w1.cell? ⟨w.heap.size, 1, none⟩ = some (.int .i64 0) := k1.out.cell 1
  have f0 := k1.out.froz 0
  have f1 := k1.out.froz 1
  clear hn hx hc
  go_wp2_with fail
  refine bodyPost_ret (res_found rfl rfl rfl ((k1.out.set 0 (.int .i64 0)).set 1 (.int .i64 0))) rfl ?_
  exact ⟨(0, 0), false, rfl, .inl ⟨HC.out, rfl, rfl⟩, (W1.out.setCell (p := ⟨w.heap.size, 0, none⟩) (Nat.le_refl _) _).setCell (p := ⟨w.heap.size, 1, none⟩) (Nat.le_refl _) _⟩
/-- Whether p matches the whole of s. -/
def MatS (p s : List UInt8) : Prop := ∃ r, check p = 0 ∧ parse p = some r ∧ Mat r s
/-- What Match returns. -/
def MatP (p s : ByteArray) (w : World) (e : Ending) (w' : World) : Prop := ∃ b : Bool, e = .returned (.bool b) ∧ Hid (b = true ↔ MatS p.data.toList s.data.toList) ∧ Hid (Below w.heap.size w w')
set_option maxHeartbeats 4000000 in
set_option maxRecDepth 100000 in
theorem match_any (p s : ByteArray) (hp : p.size ≤ maxLen) (hs : s.size ≤ 1000000) (w : World) : Calls Tryz.prog 99 #[.string p, .string s] w (MatP p s w) := by
 have CS := Lib.hid (fun w => search34_any p s 0 hp hs (by omega) w)
 go_enter Tryz.func99, Tryz.ntmps99
 go_wp2_with fail
 refine (CS.out _).mono ?_
 rintro e w1 ⟨bs, fd, rfl, RS, b1⟩
 have W2 : Hid (∀ o, Below w.heap.size w (w1.alloc o)) := fun o => b1.out.alloc b1.out.size _
 cases fd with
 | false =>
  have HF : Hid (¬ MatS p.data.toList s.data.toList) := fun ⟨r, h1, h2, h3⟩ => by
   rcases RS.out with ⟨h4, _⟩ | ⟨r', _, h5, h6⟩
   ·exact h4 h1
   ·rw [h2] at h5
    cases h5
    exact absurd (h6.whole.2 h3).1 (by decide)
  go_wp2_with fail
  go_ret
  exact ⟨false, rfl, ⟨fun h => (by cases h), fun h => absurd h HF.out⟩, W2.out _⟩
 | true =>
  have HT : Hid (bs.2 = s.size ↔ MatS p.data.toList s.data.toList) := by
   rcases RS.out with ⟨_, _, h4⟩ | ⟨r', h4, h5, h6⟩
   ·cases h4
   ·constructor
    ·intro h
     exact ⟨r', h4, h5, h6.whole.1 ⟨rfl, by rw [size_len]; exact h⟩⟩
    ·rintro ⟨r, h1, h2, h3⟩
     rw [h2] at h5
     cases h5
     have := (h6.whole.2 h3).2
     rwa [size_len] at this
  by_cases h : bs.2 = s.size
  ·have hi : (bs.2 : Int) = (s.size : Int) := by omega
   go_wp2_with fail
   go_ret
   exact ⟨true, rfl, ⟨fun _ => HT.out.1 h, fun _ => rfl⟩, W2.out _⟩
  ·have hi : ((bs.2 : Int) == (s.size : Int)) = false := beq_false_of_ne (by omega)
   go_wp2_with fail
   go_ret
   exact ⟨false, rfl, ⟨fun h => (by cases h), fun h' => absurd (HT.out.2 h') h⟩, W2.out _⟩
end Go.Proofs.YtdeppcddknakjaaGreatDoor.Rx
