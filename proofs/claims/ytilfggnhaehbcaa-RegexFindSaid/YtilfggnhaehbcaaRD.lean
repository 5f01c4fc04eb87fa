/- Layer 6: reach and fork, by the states that are not reached. -/
import Derived.Test.YtilfggnhaehbcaaRC
set_option linter.unusedVariables false
set_option linter.unusedSimpArgs false
namespace Go.Proofs.Ytilfggnhaehbcaa.Rx
open Go.RowKit
theorem fold_cnt {M : List Nd} {s : List UInt8} {p k i : Nat} : ∀ (l : List Nat) (R : Rn), cnt (l.foldl (fun R x => dfs M s p k R x i) R) ≤ cnt R ∧ (l.foldl (fun R x => dfs M s p k R x i) R).lat.length + cnt (l.foldl (fun R x => dfs M s p k R x i) R) ≤ R.lat.length + cnt R
  | [], R => ⟨Nat.le_refl _, Nat.le_refl _⟩
  | x :: l, R => by
    have h4 := dfs_cnt (M := M) (s := s) (p := p) k R x i
    have h5 := fold_cnt (M := M) (s := s) (p := p) (k := k) (i := i) l (dfs M s p k R x i)
    rw [List.foldl_cons]
    exact ⟨by omega, by omega⟩
theorem fold_take {M : List Nd} {s : List UInt8} {p k i : Nat} (l : List Nat) (R : Rn) (j : Nat) (hj : j < l.length) : (l.take (j + 1)).foldl (fun R x => dfs M s p k R x i) R = dfs M s p k ((l.take j).foldl (fun R x => dfs M s p k R x i) R) l[j] i := by
  rw [List.take_add_one, List.getElem?_eq_getElem hj, List.foldl_append]
  rfl
theorem But.run {rb gr : Nat} {later l1 : Value} {w w1 w2 : World} (h : But (RunS rb gr later) w w1) (k : But (RunS rb gr l1) w1 w2) (hr : RowTo w later l1) : But (RunS rb gr later) w w2 := h.trans k (fun n hn hs => by
  rcases hs with hs | hs | hs
  · exact .inl hs
  · exact .inr (.inl hs)
  · rcases hr with e | e
    · exact .inr (.inr (by rw [← e]; exact hs))
    · have := e n hs.symm
      omega)
theorem RunW.keep_pt {w w1 : World} {PT : Nat → Prop} {M : List Nd} {first : Nat} {s : ByteArray} {B rb gr p : Nat} {v now later : Value} {R : Rn} (h : RunW w PT M first s B rb gr p v now later R) (k : But (RunS rb gr later) w w1) (g j : Nat) (hg : PT g) : w1.cell? ⟨g, j, none⟩ = w.cell? ⟨g, j, none⟩ := by
  have h1 := h.low g hg
  have h2 := h.base
  have h3 := h.blk.lt
  refine k.cell (p := ⟨g, j, none⟩) (by show g < _; omega) (fun hs => ?_)
  rcases hs with hs | hs | hs
  · have hs : g = rb := hs
    omega
  · have hs : g = gr := hs
    omega
  · have := (World.ownsRow.lt h.lat g hs.symm).1
    omega
/-- What reach does. -/
def Rch57 (PT : Nat → Prop) (M : List Nd) (first : Nat) (s : ByteArray) (B rb gr p : Nat) (v now : Value) (k : Nat) : Prop := ∀ (w : World) (R : Rn) (later : Value) (q i : Nat), RunW w PT M first s B rb gr p v now later R → cnt R < k → R.lat.length + cnt R ≤ 1000000 → q < M.length →
  Calls Try.prog 57 #[.pointer (some ⟨rb, 0, none⟩), .int .i64 (q : Int), .int .i64 (i : Int)] w (StepP w PT M first s B rb gr p v now later (dfs M s.data.toList p k R q i))
set_option maxHeartbeats 4000000 in
set_option maxRecDepth 100000 in
theorem fork_step (PT : Nat → Prop) (M : List Nd) (first : Nat) (s : ByteArray) (B rb gr p : Nat) (v now : Value) (k : Nat) (HR : Rch57 PT M first s B rb gr p v now k) (w : World) (R : Rn) (later : Value) (i b1 : Nat) (l : List Nat) (A : Option Addr) (cap : Nat)
    (h : RunW w PT M first s B rb gr p v now later R) (hc : cnt R < k) (hrm : R.lat.length + cnt R ≤ 1000000) (hl : ∀ x ∈ l, x < M.length) (hll : l.length ≤ 1000000000) (hp1 : PT b1) (hb1 : w.cell? ⟨b1, 0, none⟩ = some (.slice A l.length cap)) (hk : l ≠ [] → ∃ g, A = some ⟨g, 0, none⟩ ∧ PT g ∧ ∀ j (h : j < l.length), w.cell? ⟨g, j, none⟩ = some (.int .i64 (l[j] : Nat))) :
    Calls Try.prog 82 #[.pointer (some ⟨rb, 0, none⟩), .int .i64 (i : Int), .pointer (some ⟨b1, 0, none⟩)] w (StepP w PT M first s B rb gr p v now later (l.foldl (fun R x => dfs M s.data.toList p k R x i) R)) := by
  have HH := Lib.hid HR
  have H := Lib.hid h
  have HC := Lib.hid hc
  have HRM := Lib.hid hrm
  have HL := Lib.hid hl
  have HK := Lib.hid hk
  clear HR h hc hrm hl hk
  go_enter Try.func82, Try.ntmps82
  go_wp2_with fail
  go_loopw [9] (fun vi wr => ∃ (j : Nat) (lj : Value), j ≤ l.length ∧ vi = .int .i64 j ∧ Hid (RunW wr PT M first s B rb gr p v now lj ((l.take j).foldl (fun R x => dfs M s.data.toList p k R x i) R)) ∧ Hid (But (RunS rb gr later) w wr) ∧ Hid (RowTo w later lj)) (fun vi _ => l.length - (intOf vi).toNat)
  case atStart => exact ⟨0, later, Nat.zero_le _, rfl, by (rw [List.take_zero]; exact H.out), But.refl _ _, RowTo.refl _ _⟩
  case round =>
    obtain ⟨j, lj, hj, rfl, HW, HB, HT⟩ := hrel
    by_cases hlt : j < l.length
    · obtain ⟨g, rfl, hpg, hcs⟩ := HK.out (fun e => by rw [e] at hlt; simp at hlt)
      have hcj : wr.cell? ⟨g, j, none⟩ = some (.int .i64 (l[j] : Nat)) := (H.out.keep_pt HB.out g j hpg).trans (hcs j hlt)
      have FC := fold_cnt (M := M) (s := s.data.toList) (p := p) (k := k) (i := i) (l.take j) R
      have CR := Lib.hid (HH.out wr _ lj l[j] i HW.out (by have := HC.out; omega) (by have := HRM.out; omega) (HL.out _ (List.getElem_mem hlt)))
      have HE := Lib.hid (fold_take (M := M) (s := s.data.toList) (p := p) (k := k) (i := i) l R j hlt)
      have hj0 : (0 : Int) ≤ (j : Int) := Int.natCast_nonneg _
      have hj1 : (j : Int) < (l.length : Int) := by omega
      clear hcs FC HW
      generalize l[j] = x at *
      generalize (l.take j).foldl (fun R x => dfs M s.data.toList p k R x i) R = Rj at *
      go_wp2_with (go_at_call 57; (with_reducible refine CR.out.mono ?_); rintro e w2 ⟨rfl, l2, hw2, hb2, hr2⟩)
      go_roundw
      case rel => exact ⟨j + 1, l2, by omega, by go_num, by (rw [HE.out]; exact hw2.out), HB.out.run hb2.out HT.out, HT.out.trans hr2.out HB.out.size⟩
      case measure => simp [intOf]; omega
    · obtain rfl : j = l.length := by omega
      have HW' := HW.out
      rw [List.take_of_length_le (Nat.le_refl _)] at HW'
      have HF := Lib.hid HW'
      clear HW HW'
      go_wp2_with fail
      go_end0
      exact ⟨rfl, lj, HF.out, HB.out, HT.out⟩
set_option maxHeartbeats 4000000 in
set_option maxRecDepth 100000 in
theorem reach_skip (w : World) (PT : Nat → Prop) (M : List Nd) (first : Nat) (s : ByteArray) (B rb gr p : Nat) (v now later : Value) (R : Rn) (q i : Nat) (h : RunW w PT M first s B rb gr p v now later R) (hq : q < M.length) (hsk : skips R q i = true) :
    Calls Try.prog 57 #[.pointer (some ⟨rb, 0, none⟩), .int .i64 (q : Int), .int .i64 (i : Int)] w (StepP w PT M first s B rb gr p v now later R) := by
  have hq2 : q < R.rch.length := by rw [h.len]; exact hq
  have H := Lib.hid h
  have hr0 : R.rch[q]? = some R.rch[q] := List.getElem?_eq_getElem hq2
  unfold skips at hsk
  rw [hr0] at hsk
  have c6 : w.cell? ⟨rb, 6, none⟩ = some (.slice (some ⟨gr, 0, none⟩) M.length M.length) := h.blk.cell 6
  have c7 : w.cell? ⟨rb, 7, none⟩ = some (.int .i64 (R.bs.1 : Int)) := h.blk.cell 7
  have c9 : w.cell? ⟨rb, 9, none⟩ = some (.bool R.fd) := h.blk.cell 9
  have cq : w.cell? ⟨gr, q, none⟩ = some (.bool R.rch[q]) := by rw [h.rch.cell, List.getElem?_map, hr0]; rfl
  have hq0 : (0 : Int) ≤ (q : Int) := Int.natCast_nonneg _
  have hq1 : (q : Int) < (M.length : Int) := by omega
  clear h hr0
  cases hb : R.rch[q] with
  | true =>
    rw [hb] at cq
    clear hsk
    go_enter Try.func57, Try.ntmps57
    go_wp2_with fail
    go_end0
    exact ⟨rfl, later, H.out, But.refl _ _, RowTo.refl _ _⟩
  | false =>
    rw [hb] at cq hsk
    have hfd : R.fd = true ∧ R.bs.1 < i := by simpa using hsk
    rw [hfd.1] at c9
    have hle : (R.bs.1 : Int) < (i : Int) := by have := hfd.2; omega
    clear hsk hfd
    go_enter Try.func57, Try.ntmps57
    go_wp2_with fail
    go_end0
    exact ⟨rfl, later, H.out, But.refl _ _, RowTo.refl _ _⟩
/-- **reach, at every program whose states are whole.** -/
theorem reach_any (PT : Nat → Prop) (M : List Nd) (first : Nat) (s : ByteArray) (B rb gr p : Nat) (v now : Value) (hM : ∀ j (h : j < M.length), M[j] = .fin ∨ M[j].ok M.length) (hlen : ∀ (j : Nat) (l : List Nat), M[j]? = some (.fork l) → l.length ≤ 1000000000) (hs : s.size ≤ maxLen) : ∀ k, Rch57 PT M first s B rb gr p v now k
  | 0 => fun w R later q i _ hc _ _ => by omega
  | k + 1 => fun w R later q i h hc hrm hq => by
    cases hsk : skips R q i with
    | true =>
      rw [dfs, if_pos hsk]
      exact reach_skip w PT M first s B rb gr p v now later R q i h hq hsk
    | false =>
      have hd : dfs M s.data.toList p (k + 1) R q i = (kids M q).foldl (fun R x => dfs M s.data.toList p k R x i) (visit M s.data.toList p R q i) := by
        rw [dfs, if_neg (by rw [hsk]; decide)]
      obtain ⟨g, cap, rfl, hg, hst⟩ := h.pg
      obtain ⟨u, hu, hv⟩ := hst q hq
      have hMq : M[q]? = some M[q] := List.getElem?_eq_getElem hq
      have hcm : cnt (markR R q) + 1 = cnt R := by
        have h1 := visit_cnt (M := M) (s := s.data.toList) (p := p) (i := i) (skips_no.1 hsk).1
        have h2 : cnt (visit M s.data.toList p R q i) = cnt (markR R q) := by unfold cnt; rw [visit_rch]; rfl
        omega
      have hml : (markR R q).lat = R.lat := rfl
      rw [hd]
      cases hx : M[q] with
      | fin =>
        rw [hx] at hv hMq
        cases hv
        have e1 : (kids M q).foldl (fun R x => dfs M s.data.toList p k R x i) (visit M s.data.toList p R q i) = ⟨R.rch.set q true, R.lat, (i, p), true⟩ := by
          unfold kids visit
          rw [hMq]
          rfl
        rw [e1]
        exact reach_67 w PT M first s B rb gr p now later R _ q i g cap h hq hsk hg hu (fun h1 => finish_any _ PT M first s B rb gr p _ now later (markR R q) i h1)
      | hole =>
        rcases hM q hq with e | e
        · rw [hx] at e; cases e
        · rw [hx] at e; exact e.elim
      | read f nx =>
        rw [hx] at hv hMq
        obtain ⟨b1, b2, rfl, hp1, hp2, hb1, hb2⟩ := hv
        have e1 : (kids M q).foldl (fun R x => dfs M s.data.toList p k R x i) (visit M s.data.toList p R q i) = rdR s.data.toList p f nx i (markR R q) := by
          unfold kids visit
          rw [hMq]
          rfl
        rw [e1]
        have hbut : But (RunS rb gr later) w (w.setCell ⟨gr, q, none⟩ (.bool true)) := But.setCell (But.refl _ _) (p := ⟨gr, q, none⟩) (fun _ => .inr (.inl rfl)) _
        exact reach_89 w PT M first s B rb gr p now later R _ q i g cap b1 b2 h hq hsk hg hu (fun h1 => read_step _ PT M first s B rb gr p _ now later (markR R q) i nx b1 b2 f h1 hp1 hp2 (fun j v hv => (h.keep_pt hbut b1 _ hp1).trans (hb1 j v hv)) ((h.keep_pt hbut b2 0 hp2).trans hb2) (by rw [hml]; omega) hs)
      | fork l =>
        rw [hx] at hv hMq
        obtain ⟨b1, A, cap1, rfl, hp1, hb1, hk⟩ := hv
        have e1 : (kids M q).foldl (fun R x => dfs M s.data.toList p k R x i) (visit M s.data.toList p R q i) = l.foldl (fun R x => dfs M s.data.toList p k R x i) (markR R q) := by
          unfold kids visit
          rw [hMq]
          rfl
        rw [e1]
        have hok : ∀ x ∈ l, x < M.length := by
          rcases hM q hq with e | e
          · rw [hx] at e; cases e
          · rw [hx] at e; exact e
        have hbut : But (RunS rb gr later) w (w.setCell ⟨gr, q, none⟩ (.bool true)) := But.setCell (But.refl _ _) (p := ⟨gr, q, none⟩) (fun _ => .inr (.inl rfl)) _
        exact reach_82 w PT M first s B rb gr p now later R _ q i g cap b1 h hq hsk hg hu (fun h1 => fork_step PT M first s B rb gr p _ now k (reach_any PT M first s B rb gr p _ now hM hlen hs k) _ (markR R q) later i b1 l A cap1 h1 (by omega) (by rw [hml]; omega) hok (hlen q l hMq) hp1 ((h.keep_pt hbut b1 0 hp1).trans hb1) (fun hne => by
          obtain ⟨g2, h2, h3, h4⟩ := hk hne
          exact ⟨g2, h2, h3, fun j hj => (h.keep_pt hbut g2 j h3).trans (h4 j hj)⟩))
end Go.Proofs.Ytilfggnhaehbcaa.Rx
