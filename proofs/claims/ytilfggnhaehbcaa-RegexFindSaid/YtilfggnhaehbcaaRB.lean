/- Layer 6: read's step. -/
import Derived.Test.YtilfggnhaehbcaaRA
set_option linter.unusedVariables false
set_option linter.unusedSimpArgs false
namespace Go.Proofs.Ytilfggnhaehbcaa.Rx
open Go.RowKit
theorem info91 : (Try.prog.info? 91).map (fun i => (i.zero, i.size, i.bytes)) = some (some (.agg #[.int .i64 0, .int .i64 0]), 2, 16) := by kernel_rfl
/-- What read's step leaves. -/
def rdR (s : List UInt8) (p : Nat) (f : UInt8 → Bool) (nx i : Nat) (R : Rn) : Rn := ⟨R.rch, if eats s p f = true then R.lat ++ [(nx, i)] else R.lat, R.bs, R.fd⟩
theorem eats_at {s : ByteArray} {p : Nat} (h : p < s.size) (f : UInt8 → Bool) : eats s.data.toList p f = f s[p] := by
  unfold eats
  have e : s.data.toList[p]? = some s[p] := by
    rw [List.getElem?_eq_getElem (by simpa using h)]
    simp [ByteArray.getElem_eq_getElem_data]
  rw [e]
theorem eats_end {s : ByteArray} {p : Nat} (h : s.size ≤ p) (f : UInt8 → Bool) : eats s.data.toList p f = false := by
  unfold eats
  have e : s.data.toList[p]? = none := by
    rw [List.getElem?_eq_none]
    simpa using h
  rw [e]
section
variable {w w' : World} {PT : Nat → Prop} {M : List Nd} {first : Nat} {s : ByteArray} {B rb gr p : Nat} {v now later : Value} {R : Rn}
theorem RunW.drewN (h : RunW w PT M first s B rb gr p v now later R) (q : Nat) : RunW (w.drewN q) PT M first s B rb gr p v now later R :=
  h.put (w' := w.drewN q) ⟨rfl, rfl, rfl, Nat.le_refl _, fun _ _ _ => rfl⟩ h.blk rfl rfl
/-- A position is appended. -/
theorem RunW.push {W w1 : World} {o : Obj} {gg cap nx i : Nat} (h : RunW W PT M first s B rb gr p v now later R)
    (K2 : Blk w1 rb 74 [v, .int .i64 (first : Int), .string s, .int .i64 (p : Int), now, later, .slice (some ⟨gr, 0, none⟩) M.length M.length, .int .i64 (R.bs.1 : Int), .int .i64 (R.bs.2 : Int), .bool R.fd])
    (OW : w1.ownsRow B 91 2 (.slice (some ⟨gg, 0, none⟩) (R.lat.length + 1) cap) (R.lat.length + 1) (posC R.lat ++ [.int .i64 (nx : Int), .int .i64 (i : Int)])) (GR : ((W.alloc o).drew).grownBy w1 later.ownBlock) (HAT : later.ownBlock = some gg ∨ gg = W.heap.size + 1) :
    RunW (w1.setCell ⟨rb, 5, none⟩ (.slice (some ⟨gg, 0, none⟩) (R.lat.length + 1) cap)) PT M first s B rb gr p v now (.slice (some ⟨gg, 0, none⟩) (R.lat.length + 1) cap) ⟨R.rch, R.lat ++ [(nx, i)], R.bs, R.fd⟩ ∧
    But (RunS rb gr later) W (w1.setCell ⟨rb, 5, none⟩ (.slice (some ⟨gg, 0, none⟩) (R.lat.length + 1) cap)) ∧ RowTo W later (.slice (some ⟨gg, 0, none⟩) (R.lat.length + 1) cap) := by
  have hn := h.ne
  have hb0 : But (RunS rb gr later) W ((W.alloc o).drew) := ((But.refl _ _).alloc o).drew
  have hb1 : But (RunS rb gr later) W w1 := hb0.grown GR (fun k e _ => .inr (.inr e.symm))
  have hb1' : But (fun n => some n = later.ownBlock) W w1 := But.grown (S := fun n => some n = later.ownBlock) (b := (W.alloc o).drew) ((But.refl _ _).alloc o).drew GR (fun k e _ => e.symm)
  have hgn : gg ≠ rb ∧ gg ≠ gr := by
    rcases HAT with e | e
    · exact ⟨fun e' => hn.2.1 (by rw [e, e']), fun e' => hn.2.2.1 (by rw [e, e'])⟩
    · exact ⟨by omega, by omega⟩
  have hb2 : But (· = rb) w1 (w1.setCell ⟨rb, 5, none⟩ (.slice (some ⟨gg, 0, none⟩) (R.lat.length + 1) cap)) := But.setCell (S := (· = rb)) (But.refl _ _) (p := ⟨rb, 5, none⟩) (fun _ => rfl) _
  refine ⟨⟨K2.set 5 _, h.pg.keep (fun _ h => h) (fun g j hg => ?_), (h.rch.but hb1' (fun e => hn.2.2.1 e)).but hb2 (fun e => hn.1 e.symm), h.len, ?_, h.low, h.base⟩, hb1.setCell (p := ⟨rb, 5, none⟩) (fun _ => .inl rfl) _, ?_⟩
  · have h1 := h.low g hg
    have h2 := h.base
    refine (hb2.cell (p := ⟨g, j, none⟩) (by show g < _; have := hb1.size; omega) (fun e => by have e : g = rb := e; omega)).trans (hb1'.cell (p := ⟨g, j, none⟩) (by show g < _; omega) (fun e => ?_))
    have h3 := (World.ownsRow.lt h.lat g e.symm).1
    omega
  · show World.ownsRow _ _ _ _ _ (R.lat ++ [(nx, i)]).length (posC (R.lat ++ [(nx, i)]))
    rw [List.length_append, List.length_singleton, posC_snoc]
    exact OW.on_but hb2 (fun g hg e => by cases hg; exact hgn.1 e)
  · rcases HAT with e | e
    · exact .inl e.symm
    · refine .inr (fun k hk => ?_)
      have hk : some gg = some k := hk
      injection hk with hk
      omega
theorem but_drewN (S : Nat → Prop) (w : World) (q : Nat) : But S w (w.drewN q) := ⟨rfl, rfl, rfl, Nat.le_refl _, fun _ _ _ => rfl⟩
theorem rdR_no (q : List UInt8) (p : Nat) (f : UInt8 → Bool) (nx i : Nat) (R : Rn) (h : eats q p f = false) : rdR q p f nx i R = R := by simp [rdR, h]
theorem rdR_yes (q : List UInt8) (p : Nat) (f : UInt8 → Bool) (nx i : Nat) (R : Rn) (h : eats q p f = true) : rdR q p f nx i R = ⟨R.rch, R.lat ++ [(nx, i)], R.bs, R.fd⟩ := by simp [rdR, h]
end
set_option maxHeartbeats 4000000 in
set_option maxRecDepth 100000 in
theorem read_step (w : World) (PT : Nat → Prop) (M : List Nd) (first : Nat) (s : ByteArray) (B rb gr p : Nat) (v now later : Value) (R : Rn) (i nx b1 b2 : Nat) (f : UInt8 → Bool) (h : RunW w PT M first s B rb gr p v now later R) (hp1 : PT b1) (hp2 : PT b2) (hb1 : w.rangeAt b1 0 (clsC f)) (hb2 : w.cell? ⟨b2, 0, none⟩ = some (.int .i64 (nx : Int))) (hr : R.lat.length ≤ 1000000) (hs : s.size ≤ maxLen) :
    Calls Try.prog 89 #[.pointer (some ⟨rb, 0, none⟩), .int .i64 (i : Int), .pointer (some ⟨b1, 0, none⟩), .pointer (some ⟨b2, 0, none⟩)] w (StepP w PT M first s B rb gr p v now later (rdR s.data.toList p f nx i R)) := by
  have H := Lib.hid h
  have c2 : w.cell? ⟨rb, 2, none⟩ = some (.string s) := h.blk.cell 2
  have c3 : w.cell? ⟨rb, 3, none⟩ = some (.int .i64 (p : Int)) := h.blk.cell 3
  have c5 : w.cell? ⟨rb, 5, none⟩ = some later := h.blk.cell 5
  have f5 := h.blk.froz 5
  obtain ⟨A, cp, rfl⟩ : ∃ A cp, later = .slice A R.lat.length cp := by
    rcases h.lat.2 with ⟨rfl, h0⟩ | ⟨g, cap, cur, rfl, _⟩
    · exact ⟨_, _, by rw [h0]⟩
    · exact ⟨_, _, rfl⟩
  have HB2 := Lib.hid hb2
  have HP := Lib.hid (And.intro hp1 hp2)
  by_cases hlt : p < s.size
  · have hc : w.cell? ⟨b1, s[p].toNat, none⟩ = some (.bool (f s[p])) := by
      have h1 := hb1 s[p].toNat _ (clsC_at f s[p].toNat_lt)
      rw [Nat.zero_add, UInt8.ofNat_toNat] at h1
      exact h1
    have hlt' : decide ((p : Int) < (s.size : Int)) = true := by simp; omega
    have hsp := s[p].toNat_lt
    have HE := Lib.hid (eats_at hlt f)
    cases hf : f s[p] with
    | false =>
      rw [hf] at hc
      go_enter Try.func89, Try.ntmps89
      go_wp2_with fail
      go_quiet (fail)
      go_wp2_with fail
      go_end0
      refine ⟨rfl, _, ?_, but_drewN _ _ _, RowTo.refl _ _⟩
      rw [rdR_no _ _ _ _ _ _ (by rw [HE.out]; exact hf)]
      exact H.out.drewN _
    | true =>
      rw [hf] at hc
      obtain ⟨i0, hi, hz0, hz1, hz2⟩ := info_parts info91
      have HI := Lib.hid hi
      have HZ0 := Lib.hid hz0
      have HZ1 := Lib.hid hz1
      have HZ2 := Lib.hid hz2
      clear hi hz0 hz1 hz2
      go_enter Try.func89, Try.ntmps89
      go_wp2_with fail
      go_quiet (fail)
      go_wp2_with fail
      have H1 := Lib.hid (H.out.drewN nq)
      have B1 : Hid (But (RunS rb gr (.slice A R.lat.length cp)) w (w.drewN nq)) := but_drewN _ _ _
      have d5 : (w.drewN nq).cell? ⟨rb, 5, none⟩ = some (.slice A R.lat.length cp) := c5
      have d2 : (w.drewN nq).cell? ⟨b2, 0, none⟩ = some (.int .i64 (nx : Int)) := hb2
      have hap : (Value.slice A R.lat.length cp).ownBlock ≠ some rb := fun e => H.out.ne.2.1 e.symm
      have hap2 : (Value.slice A R.lat.length cp).ownBlock ≠ some b2 := fun e => by
        have h1 := (World.ownsRow.lt H.out.lat b2 e).1
        have h2 := H.out.low b2 HP.out.2
        omega
      have lg : rb < (w.drewN nq).heap.size := H1.out.blk.lt
      have lb : b2 < (w.drewN nq).heap.size := World.block_lt_of_cell? (w.drewN nq) _ d2
      have hbase : B ≤ (w.drewN nq).heap.size := by
        have h1 := H1.out.base.1
        have h2 := H1.out.blk.lt
        omega
      have SZW : Hid ((w.drewN nq).heap.size = w.heap.size) := rfl
      clear h hb1 hb2 c2 c3 c5 f5 hc hlt'
      generalize w.drewN nq = W at *
      go_region_law
        ((refine step_append_lies _ (by rfl) _ _ _ (by rfl) B 91 i0 _ 2 16 Try.underlying72 HI.out HZ0.out HZ1.out HZ2.out rfl (by omega) (.slice A R.lat.length cp) R.lat.length (posC R.lat) (by rfl) ((H1.out.lat.alloc _).drew) ⟨W.heap.size, 0, none⟩ 1 1 [.int .i64 (nx : Int), .int .i64 (i : Int)] (by rfl) (by rfl) (World.news_of_block (cs := #[.int .i64 (nx : Int), .int .i64 (i : Int)]) (t := 91) (fr := (0, 0)) (heap_alloc_new W _)) (by simp [Value.oneCell']) (by omega) (by simp only [maxLen]; omega) (by omega) (by simp; omega) (W.heap.size + 1) (by simp) ?_; intro gg cap w1 hown1 hgrow hat hlt1; have hk2 : Blk w1 rb 74 _ := (hgrow.block rb (by simp; omega) (fun e => hap e.symm)).trans (H1.out.blk.alloc (.cells #[.int .i64 (nx : Int), .int .i64 (i : Int)] 91)); have e5 : w1.cell? ⟨rb, 5, none⟩ = some (.slice A R.lat.length cp) := hk2.cell 5; have f5 := hk2.froz 5; have e2 : w1.cell? ⟨b2, 0, none⟩ = some (.int .i64 (nx : Int)) := (hgrow.cell_far _ (by simp; omega) (Ne.symm hap2)).trans ((World.cell?_alloc_lt _ _ _ lb).trans d2); have K2 := Lib.hid hk2; have OW := Lib.hid hown1; have GR := Lib.hid hgrow; have HAT := Lib.hid hat; clear hk2 hown1 hgrow hat))
      all_goals
        try (go_wp2_with fail)
        go_end0
        obtain ⟨q1, q2, q3⟩ := H1.out.push K2.out OW.out GR.out HAT.out
        refine ⟨rfl, _, ?_, B1.out.trans q2 (fun _ _ h => h), q3.imp id (fun h k hk => (by have := h k hk; have := SZW.out; omega))⟩
        rw [rdR_yes _ _ _ _ _ _ (by rw [HE.out]; exact hf)]
        exact q1
  · have hlt' : decide ((p : Int) < (s.size : Int)) = false := by simp; omega
    have HE := Lib.hid (eats_end (Nat.le_of_not_lt hlt) f)
    go_enter Try.func89, Try.ntmps89
    go_wp2_with fail
    go_quiet (fail)
    go_wp2_with fail
    go_end0
    refine ⟨rfl, _, ?_, but_drewN _ _ _, RowTo.refl _ _⟩
    rw [rdR_no _ _ _ _ _ _ HE.out]
    exact H.out.drewN _
end Go.Proofs.Ytilfggnhaehbcaa.Rx
