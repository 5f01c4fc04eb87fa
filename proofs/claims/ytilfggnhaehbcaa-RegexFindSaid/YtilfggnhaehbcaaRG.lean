/- Layer 6: the program's search: the loop. -/
import Derived.Deep.DeepCutAuto
import Derived.Deep.RegionWith
import Derived.Test.YtilfggnhaehbcaaRF
set_option linter.unusedVariables false
set_option linter.unusedSimpArgs false
namespace Go.Proofs.Ytilfggnhaehbcaa.Rx
open Go.RowKit
theorem Blk.setCells_ {g : Nat} {t : TypeId} : ∀ (vs pre rest : List Value) (w : World), rest.length = vs.length → Blk w g t (pre ++ rest) → Blk (w.setCells g pre.length vs) g t (pre ++ vs)
  | [], pre, rest, w, hl, h => by
    have : rest = [] := List.length_eq_zero_iff.1 hl
    subst this
    exact h
  | v :: vs, pre, rest, w, hl, h => by
    match rest, hl with
    | x :: rest, hl =>
      rw [World.setCells]
      have h1 := h.set pre.length v
      rw [List.set_append, if_neg (by omega), Nat.sub_self, List.set_cons_zero] at h1
      have h2 := Blk.setCells_ vs (pre ++ [v]) rest (w.setCell ⟨g, pre.length, none⟩ v) (by simpa using hl) (by simpa using h1)
      rw [List.length_append, List.length_singleton] at h2
      simpa using h2
theorem Blk.wiped {w : World} {g : Nat} {t : TypeId} {l vs : List Value} (h : Blk w g t l) (hl : l.length = vs.length) : Blk (w.setCells g 0 vs) g t vs := Blk.setCells_ vs [] l w hl h
theorem But.setCells {S : Nat → Prop} {g : Nat} {a : World} (hp : g < a.heap.size → S g) : ∀ (vs : List Value) (o : Nat) (b : World), But S a b → But S a (b.setCells g o vs)
  | [], o, b, h => h
  | v :: vs, o, b, h => by
    rw [World.setCells]
    exact But.setCells hp vs (o + 1) _ (h.setCell (p := ⟨g, o, none⟩) hp v)
theorem own_slice (A : Option Addr) (n c n' c' : Nat) : (Value.slice A n c).ownBlock = (Value.slice A n' c').ownBlock := by cases A <;> rfl
section
variable {w w' : World} {PT : Nat → Prop} {M : List Nd} {first : Nat} {s : ByteArray} {B rb gr p n1 cap1 : Nat} {A1 : Option Addr} {xs1 : List Value} {v now later : Value} {R : Rn}
/-- The positions before the next byte are those behind the last one. -/
theorem RunW.swap (h : RunW w PT M first s B rb gr p v (.slice A1 n1 cap1) later R) (ho : w.ownsRow B 91 2 (.slice A1 0 cap1) 0 []) :
    Hid (RunW ((w.setCell ⟨rb, 4, none⟩ later).setCell ⟨rb, 5, none⟩ (.slice A1 0 cap1)).drew.drew PT M first s B rb gr p v later (.slice A1 0 cap1) ⟨R.rch, [], R.bs, R.fd⟩) ∧
    Hid (((w.setCell ⟨rb, 4, none⟩ later).setCell ⟨rb, 5, none⟩ (.slice A1 0 cap1)).drew.drew.ownsRow B 91 2 later R.lat.length (posC R.lat)) ∧
    Hid (But (· = rb) w ((w.setCell ⟨rb, 4, none⟩ later).setCell ⟨rb, 5, none⟩ (.slice A1 0 cap1)).drew.drew) := by
  have hn := h.ne
  have k : But (· = rb) w ((w.setCell ⟨rb, 4, none⟩ later).setCell ⟨rb, 5, none⟩ (.slice A1 0 cap1)) := (But.setCell (S := (· = rb)) (But.refl _ _) (p := ⟨rb, 4, none⟩) (fun _ => rfl) _).setCell (p := ⟨rb, 5, none⟩) (fun _ => rfl) _
  have hr : some rb ≠ (Value.slice A1 0 cap1).ownBlock := own_not ho h.blk (by decide)
  refine ⟨RunW.drew (RunW.drew ⟨(h.blk.set 4 later).set 5 (.slice A1 0 cap1), h.pg.keep (fun _ h => h) (fun g j hg => ?_), h.rch.but k (fun e => hn.1 e.symm), h.len, ho.on_but k (fun g hg (e : g = rb) => hr (by rw [hg, e])), h.low, h.base⟩), h.lat.on_but k.drew.drew (fun g hg (e : g = rb) => hn.2.1 (by rw [hg, e])), k.drew.drew⟩
  obtain ⟨g0, cap, _, _, _⟩ := h.pg
  have h1 := h.low g hg
  have h2 := h.base
  exact k.cell (p := ⟨g, j, none⟩) (by show g < _; omega) (fun e => by have e : g = rb := e; omega)
/-- No state is reached any more. -/
theorem RunW.wipe {now0 later0 : Value} (h : RunW w PT M first s B rb gr p v now0 later0 ⟨R.rch, [], R.bs, R.fd⟩) :
    RunW (w.setCells gr 0 (List.replicate M.length (.bool false))) PT M first s B rb gr p v now0 later0 (blank M.length R.bs R.fd) ∧ But (· = gr) w (w.setCells gr 0 (List.replicate M.length (.bool false))) := by
  have hn := h.ne
  have k : But (· = gr) w (w.setCells gr 0 (List.replicate M.length (.bool false))) := But.setCells (S := (· = gr)) (fun _ => rfl) _ 0 w (But.refl _ _)
  refine ⟨⟨h.blk.but k hn.1, h.pg.keep (fun _ h => h) (fun g j hg => ?_), ?_, by show (List.replicate M.length false).length = _; simp, h.lat.on_but k (fun g hg e => hn.2.2.1 (by rw [hg, e])), h.low, h.base⟩, k⟩
  · obtain ⟨g0, cap, _, _, _⟩ := h.pg
    have h1 := h.low g hg
    have h2 := h.base
    exact k.cell (p := ⟨g, j, none⟩) (by show g < _; omega) (fun e => by have e : g = gr := e; omega)
  · have h2 := h.rch.wiped (vs := List.replicate M.length (.bool false)) (by simp [h.len])
    show Blk _ _ _ ((List.replicate M.length false).map Value.bool)
    rw [List.map_replicate]
    exact h2
end
theorem zero4 (w : World) : (zeroValue 4).run Try.prog w = .ok (.bool false) w := by kernel_rfl
/-- What the loop keeps, in memory. -/
def SrI (PT : Nat → Prop) (M : List Nd) (first : Nat) (s : ByteArray) (last B rb gr : Nat) (v : Value) (w0 : World) (p : Nat) (now later : Value) (R : Rn) (n1 : Nat) (xs1 : List Value) (wr : World) : Prop :=
  Hid (RunW wr PT M first s B rb gr p v now later R) ∧ Hid (wr.ownsRow B 91 2 now n1 xs1) ∧ Hid (∀ g, now.ownBlock = some g → later.ownBlock ≠ some g) ∧ Hid (Inv M first s.data.toList last p R.lat R.bs R.fd) ∧ Hid (∀ x ∈ R.lat, x.1 < M.length) ∧ Hid (Below B w0 wr)
/-- What the search leaves. -/
def SrP (M : List Nd) (first : Nat) (s : ByteArray) (last B rb : Nat) (w : World) (e : Ending) (w' : World) : Prop :=
  e = .returned (.tuple #[]) ∧ ∃ p L bs fd, p ≤ s.size + 1 ∧ (p = s.size + 1 ∨ (L = [] ∧ (fd = true ∨ last < p))) ∧ Inv M first s.data.toList last p L bs fd ∧ w'.cell? ⟨rb, 7, none⟩ = some (.int .i64 (bs.1 : Int)) ∧ w'.cell? ⟨rb, 8, none⟩ = some (.int .i64 (bs.2 : Int)) ∧ w'.cell? ⟨rb, 9, none⟩ = some (.bool fd) ∧ Below B w w'
theorem SrI.next {PT : Nat → Prop} {M : List Nd} {first : Nat} {s : ByteArray} {last B rb gr p n2 cap1 : Nat} {A1 : Option Addr} {v now lj : Value} {w W2 W5 : World} {R5 : Rn} {xs x y : List Value}
    (hW : RunW W5 PT M first s B rb gr p v now lj R5) (hB : But (RunS rb gr (.slice A1 0 cap1)) W2 W5) (hT : RowTo W2 (.slice A1 0 cap1) lj) (hO : W2.ownsRow B 91 2 now n2 xs) (hrb : Blk W2 rb 74 x) (hgr : Blk W2 gr 4 y)
    (hNL : ∀ g, now.ownBlock = some g → (Value.slice A1 0 cap1).ownBlock ≠ some g) (hLB : ∀ g, (Value.slice A1 0 cap1).ownBlock = some g → B ≤ g) (h2 : Below B w W2) (hBB : B ≤ w.heap.size)
    (hI : Inv M first s.data.toList last (p + 1) R5.lat R5.bs R5.fd) (hL : ∀ x ∈ R5.lat, x.1 < M.length) {n : Int} (hn : n = ((p + 1 : Nat) : Int)) :
    SrI PT M first s last B rb gr v w (p + 1) now lj R5 n2 xs (W5.setCell ⟨rb, 3, none⟩ (.int .i64 n)) := by
  subst hn
  have k : But (· = rb) W5 (W5.setCell ⟨rb, 3, none⟩ (.int .i64 (((p + 1 : Nat) : Int)))) := But.setCell (S := (· = rb)) (But.refl _ _) (p := ⟨rb, 3, none⟩) (fun _ => rfl) _
  have hnr : some rb ≠ now.ownBlock := own_not hO hrb (by decide)
  have hng : some gr ≠ now.ownBlock := own_not hO hgr (by decide)
  have O5 : W5.ownsRow B 91 2 now n2 xs := hO.on_but hB (fun g hg e => by
    rcases e with e | e | e
    · exact hnr (by rw [hg, e])
    · exact hng (by rw [hg, e])
    · exact hNL g hg e.symm)
  refine ⟨hW.put k (hW.blk.set 3 _) rfl rfl, O5.on_but k (fun g hg (e : g = rb) => hnr (by rw [hg, e])), fun g h1 h2 => ?_, hI, hL, (h2.trans (hB.below (Nat.le_trans hBB h2.size) (fun n hn => ?_))).trans (k.below (by have := hB.size; have := h2.size; omega) (fun n (hn : n = rb) => by rw [hn]; exact hW.base.1))⟩
  · rcases hT with e | e
    · exact hNL g h1 (by rw [← e]; exact h2)
    · have h3 := e g h2
      have h4 := (World.ownsRow.lt hO g h1).2
      omega
  · rcases hn with hn | hn | hn
    · rw [hn]; exact hW.base.1
    · rw [hn]; exact hW.base.2
    · exact hLB n hn.symm
def atR (rb : Nat) (w : World) : Nat := match w.cell? ⟨rb, 3, none⟩ with
  | some (.int _ n) => n.toNat
  | _ => 0
theorem atR_of {w : World} {PT : Nat → Prop} {M : List Nd} {first : Nat} {s : ByteArray} {B rb gr p : Nat} {v now later : Value} {R : Rn} (h : RunW w PT M first s B rb gr p v now later R) : atR rb w = p := by
  have h3 : w.cell? ⟨rb, 3, none⟩ = some (.int .i64 (p : Int)) := h.blk.cell 3
  unfold atR
  rw [h3]
  rfl
set_option maxHeartbeats 4000000 in
set_option maxRecDepth 100000 in
theorem search_any (PT : Nat → Prop) (M : List Nd) (first : Nat) (s : ByteArray) (last B rb gr : Nat) (v : Value) (h0 : ∀ q, M[q]? = some .fin ↔ q = 0) (hM : ∀ q x, M[q]? = some x → q = 0 ∨ x.ok M.length) (hf : first < M.length) (hlen : ∀ (j : Nat) (l : List Nat), M[j]? = some (.fork l) → l.length ≤ 1000000000) (hml : M.length ≤ 1000) (hs : s.size ≤ 1000000) (hlast : last ≤ 1000000)
    (w : World) (h : RunW w PT M first s B rb gr 0 v (.slice none 0 0) (.slice none 0 0) (blank M.length (0, 0) false)) :
    Calls Try.prog 44 #[.pointer (some ⟨rb, 0, none⟩), .int .i64 (last : Int)] w (SrP M first s last B rb w) := by
  have H := Lib.hid h
  have H0 := Lib.hid h0
  have HM := Lib.hid hM
  have f3 := h.blk.froz 3
  have hs' : s.size ≤ maxLen := by unfold maxLen; omega
  have BB : Hid (B ≤ rb ∧ B ≤ gr ∧ rb < w.heap.size) := ⟨h.base.1, h.base.2, h.blk.lt⟩
  have c3 : w.cell? ⟨rb, 3, none⟩ = some (.int .i64 ((0 : Nat) : Int)) := h.blk.cell 3
  have HM' : ∀ j (h : j < M.length), M[j] = .fin ∨ M[j].ok M.length := fun j hj => by
    rcases hM j M[j] (List.getElem?_eq_getElem hj) with e | e
    · have := (h0 j).2 e
      rw [List.getElem?_eq_getElem hj] at this
      injection this with this
      exact .inl this
    · exact .inr e
  have HRR := Lib.hid (fun v now p => reach_any PT M first s B rb gr p v now HM' hlen hs' (M.length + 1))
  clear h h0 hM hlen HM' hs'
  go_enter Try.func44, Try.ntmps44
  go_wp2_with fail
  go_loopw [] (fun wr => ∃ p now later R n1 xs1, p ≤ s.size + 1 ∧ SrI PT M first s last B rb gr v w p now later R n1 xs1 wr) (fun wr => s.size + 1 - atR rb wr)
  case atStart =>
    have k : But (· = rb) w (w.setCell ⟨rb, 3, none⟩ (.int .i64 0)) := But.setCell (S := (· = rb)) (But.refl _ _) (p := ⟨rb, 3, none⟩) (fun _ => rfl) _
    exact ⟨0, _, _, _, _, _, Nat.zero_le _, H.out.put k (H.out.blk.set 3 _) rfl rfl, World.ownsRow_nil _ _ _ _, fun g h => (by cases h), Inv.start _ _ _ _, fun x hx => (by cases hx), k.below (by have := BB.out; omega) (fun n (hn : n = rb) => by rw [hn]; exact BB.out.1)⟩
  case round =>
    obtain ⟨p, now, later, R, n1, xs1, hp, HW, HO, HNL, HI, HLT, HB⟩ := hrel
    have c2 : wr.cell? ⟨rb, 2, none⟩ = some (.string s) := HW.out.blk.cell 2
    have c3 : wr.cell? ⟨rb, 3, none⟩ = some (.int .i64 (p : Int)) := HW.out.blk.cell 3
    obtain ⟨A1, cap1, rfl, hA1, ho0⟩ := own_zero HO.out
    obtain ⟨A2, cap2, rfl, hA2, ho2⟩ := own_zero HW.out.lat
    have AT := Lib.hid (atR_of HW.out)
    by_cases hps : p ≤ s.size
    · have c4 : wr.cell? ⟨rb, 4, none⟩ = some (.slice A1 n1 cap1) := HW.out.blk.cell 4
      have c5 : wr.cell? ⟨rb, 5, none⟩ = some (.slice A2 R.lat.length cap2) := HW.out.blk.cell 5
      have f4 := HW.out.blk.froz 4
      have f5 := HW.out.blk.froz 5
      have hsl := fun w => slice_zero (n := n1) w hA1
      have hle : (p : Int) ≤ (s.size : Int) := by omega
      obtain ⟨S1, S2, S3⟩ := HW.out.swap ho0
      have LB : Hid (∀ g, (Value.slice A1 0 cap1).ownBlock = some g → B ≤ g ∧ g < wr.heap.size) := World.ownsRow.lt ho0
      have NL : Hid (∀ g, (Value.slice A2 R.lat.length cap2).ownBlock = some g → (Value.slice A1 0 cap1).ownBlock ≠ some g) := fun g h1 h2 => HNL.out g ((own_slice _ _ _ _ _).trans h2) h1
      clear hA1 ho0 HW HO HNL
      go_upto_region 1 with fail
      go_region
      go_upto_region 3 with fail
      go_region
      go_upto_region 4 with fail
      generalize ((wr.setCell ⟨rb, 4, none⟩ (.slice A2 R.lat.length cap2)).setCell ⟨rb, 5, none⟩ (.slice A1 0 cap1)).drew.drew = W1 at *
      clear c2 c3 c4 c5 f4 f5 hsl
      have B1 : Hid (Below B w W1) := HB.out.trans (S3.out.below (by have := HB.out.size; have := BB.out; omega) (fun n hn => by have := BB.out; omega))
      have WS : Hid (wr.heap.size ≤ W1.heap.size) := S3.out.size
      clear HB S3
      have c2 : W1.cell? ⟨rb, 2, none⟩ = some (.string s) := S1.out.blk.cell 2
      have c3 : W1.cell? ⟨rb, 3, none⟩ = some (.int .i64 (p : Int)) := S1.out.blk.cell 3
      have c4 : W1.cell? ⟨rb, 4, none⟩ = some (.slice A2 R.lat.length cap2) := S1.out.blk.cell 4
      have c6 : W1.cell? ⟨rb, 6, none⟩ = some (.slice (some ⟨gr, 0, none⟩) M.length M.length) := S1.out.blk.cell 6
      have c7 : W1.cell? ⟨rb, 7, none⟩ = some (.int .i64 (R.bs.1 : Int)) := S1.out.blk.cell 7
      have c8 : W1.cell? ⟨rb, 8, none⟩ = some (.int .i64 (R.bs.2 : Int)) := S1.out.blk.cell 8
      have c9 : W1.cell? ⟨rb, 9, none⟩ = some (.bool R.fd) := S1.out.blk.cell 9
      go_cut [60] (fun c wx => c = .bool (decide (R.lat.length = 0) && (R.fd || decide (last < p))) ∧ wx = W1)
      case first =>
        by_cases hz : R.lat.length = 0
        · have hz' : (R.lat.length : Int) = 0 := by omega
          cases hfd : R.fd with
          | true =>
            rw [hfd] at c9
            go_wp2_with fail
            go_meet
            case rel => exact ⟨by simp [hz, hfd], rfl⟩
          | false =>
            rw [hfd] at c9
            by_cases hlp : last < p
            · have hlp' : (last : Int) < (p : Int) := by omega
              go_wp2_with fail
              go_meet
              case rel => exact ⟨by simp [hz, hlp, hfd], rfl⟩
            · have hlp' : ¬ ((last : Int) < (p : Int)) := by omega
              go_wp2_with fail
              go_meet
              case rel => exact ⟨by simp [hz, hlp, hfd], rfl⟩
        · have hz' : ¬ ((R.lat.length : Int) = 0) := by omega
          go_wp2_with fail
          go_meet
          case rel => exact ⟨by simp [hz], rfl⟩
      case rest =>
        obtain ⟨rfl, rfl⟩ := hcut
        cases hst : (decide (R.lat.length = 0) && (R.fd || decide (last < p))) with
        | true =>
          have HX : Hid (R.lat = [] ∧ (R.fd = true ∨ last < p)) := by
            simp only [Bool.and_eq_true, decide_eq_true_eq, Bool.or_eq_true] at hst
            exact ⟨List.length_eq_zero_iff.1 hst.1, hst.2⟩
          clear hst
          go_wp2_with fail
          go_end0
          exact ⟨rfl, p, R.lat, R.bs, R.fd, hp, .inr HX.out, HI.out, c7, c8, c9, B1.out⟩
        | false =>
          clear hst c7 c8 c9 c2 c3
          have hcl : ∀ ty, (Builtin.clear_ #[57] ty #[.slice (some ⟨gr, 0, none⟩) M.length M.length]).run Try.prog wc = .ok (.tuple #[]) (wc.setCells gr 0 (List.replicate M.length (.bool false))) :=
            fun ty => Lib.run_clear_slice wc 57 4 ty (.bool false) Try.underlying57 zero4 rfl rfl gr 0 M.length M.length (by omega) (fun j hj => by rw [Nat.zero_add, S1.out.rch.cell, List.getElem?_map, List.getElem?_eq_getElem (by have := S1.out.len; simp only at this ⊢; omega)]; rfl) (fun j _ => S1.out.rch.froz _)
          obtain ⟨K1, K2⟩ := S1.out.wipe
          have K1 := Lib.hid K1
          have K2 := Lib.hid K2
          have hO : Hid ((wc.setCells gr 0 (List.replicate M.length (.bool false))).ownsRow B 91 2 (.slice A2 R.lat.length cap2) R.lat.length (posC R.lat)) := S2.out.on_but K2.out (fun g hg e => own_not S2.out S1.out.rch (by decide) (by rw [hg, e]))
          go_upto_region 6 with (simp only [hcl])
          have c4' : (wc.setCells gr 0 (List.replicate M.length (.bool false))).cell? ⟨rb, 4, none⟩ = some (.slice A2 R.lat.length cap2) := K1.out.blk.cell 4
          have WS2 : Hid (wr.heap.size ≤ (wc.setCells gr 0 (List.replicate M.length (.bool false))).heap.size) := Nat.le_trans WS.out K2.out.size
          have B2 : Hid (Below B w (wc.setCells gr 0 (List.replicate M.length (.bool false)))) := B1.out.trans (K2.out.below (by have := B1.out.size; have := BB.out; omega) (fun n hn => by have := BB.out; omega))
          clear hcl c4 c6 S1 S2 K2 B1 WS
          generalize wc.setCells gr 0 (List.replicate M.length (.bool false)) = W2 at *
          have HR := Lib.hid (HRR.out v (.slice A2 R.lat.length cap2) p)
          go_wp2_with fail
          go_loopw [70] (fun vi wr => ∃ (j : Nat) (lj : Value), j ≤ R.lat.length ∧ vi = .int .i64 j ∧ Hid (RunW wr PT M first s B rb gr p v (.slice A2 R.lat.length cap2) lj (mid M s.data.toList p R.lat R.bs R.fd j)) ∧ Hid (But (RunS rb gr (.slice A1 0 cap1)) W2 wr) ∧ Hid (RowTo W2 (.slice A1 0 cap1) lj)) (fun vi _ => R.lat.length - (intOf vi).toNat)
          case atStart => exact ⟨0, _, Nat.zero_le _, rfl, by (rw [mid_zero]; exact K1.out), But.refl _ _, RowTo.refl _ _⟩
          case round =>
            obtain ⟨j, lj, hj, rfl, HQ, HBq, HT⟩ := hrel
            have hrb := (K1.out.blk)
            have hnr : Hid (some rb ≠ (Value.slice A2 R.lat.length cap2).ownBlock) := own_not hO.out K1.out.blk (by decide)
            have hng : Hid (some gr ≠ (Value.slice A2 R.lat.length cap2).ownBlock) := own_not hO.out K1.out.rch (by decide)
            clear hrb
            have OQ : Hid (wr.ownsRow B 91 2 (.slice A2 R.lat.length cap2) R.lat.length (posC R.lat)) := hO.out.on_but HBq.out (fun g hg e => by
              rcases e with e | e | e
              · exact hnr.out (by rw [hg, e])
              · exact hng.out (by rw [hg, e])
              · exact NL.out g hg e.symm)
            have MC := Lib.hid (mid_cnt M s.data.toList p R.lat R.bs R.fd j)
            by_cases hlt : j < R.lat.length
            · obtain ⟨g2, rfl⟩ : ∃ g2, A2 = some ⟨g2, 0, none⟩ := by
                rcases hA2 with ⟨rfl, h0⟩ | h
                · rcases OQ.out.2 with ⟨_, h1⟩ | ⟨g, cap, cur, h1, _⟩
                  · omega
                  · cases h1
                · exact h
              obtain ⟨q, i, hqi⟩ : ∃ q i, R.lat[j] = (q, i) := ⟨_, _, rfl⟩
              have PA := posC_at R.lat j hlt
              rw [hqi] at PA
              have d0 : wr.cell? ⟨g2, j * 2, none⟩ = some (.int .i64 (q : Int)) := (World.ownsRow.cellAt OQ.out (j * 2) (by omega)).trans PA.1
              have d1 : wr.cell? ⟨g2, j * 2 + 1, none⟩ = some (.int .i64 (i : Int)) := (World.ownsRow.cellAt OQ.out (j * 2 + 1) (by omega)).trans PA.2
              have hq : q < M.length := by
                have := HLT.out _ (List.getElem_mem hlt)
                rw [hqi] at this
                exact this
              have HQ3 : Hid (RunW (wr.alloc (.cells #[.int .i64 (q : Int), .int .i64 (i : Int)] 91)) PT M first s B rb gr p v (.slice (some ⟨g2, 0, none⟩) R.lat.length cap2) lj (mid M s.data.toList p R.lat R.bs R.fd j)) := HQ.out.put (But.alloc (But.refl _ _) _) (HQ.out.blk.alloc _) rfl rfl
              have CR := Lib.hid (HR.out _ (mid M s.data.toList p R.lat R.bs R.fd j) lj q i HQ3.out (by have := MC.out; omega) (by have := MC.out; omega) hq)
              have HE := Lib.hid (mid_step M s.data.toList p R.lat R.bs R.fd j hlt)
              have HQI := Lib.hid hqi
              have hj0 : (0 : Int) ≤ (j : Int) := Int.natCast_nonneg _
              have hj1 : (j : Int) < (R.lat.length : Int) := by omega
              have hj2 : (j : Int) < 9223372036854775807 := by
                rcases OQ.out.2 with ⟨_, h1⟩ | ⟨g, cap, cur, h1, h2, h3, h4, h5, _⟩
                · omega
                · unfold maxLen at h5
                  omega
              clear PA hqi HQ OQ
              go_wp2_with (go_at_call 57; (with_reducible refine CR.out.mono ?_); rintro e w4 ⟨rfl, l4, hw4, hb4, hr4⟩)
              go_roundw
              case rel => exact ⟨j + 1, l4, by omega, by go_num, by (rw [HE.out, HQI.out]; exact hw4.out), (HBq.out.alloc _).run hb4.out HT.out, HT.out.trans (hr4.out.wk (by rw [World.size_alloc]; omega)) HBq.out.size⟩
              case measure => simp [intOf]; omega
            · obtain rfl : j = R.lat.length := by omega
              have c3q : wr.cell? ⟨rb, 3, none⟩ = some (.int .i64 (p : Int)) := HQ.out.blk.cell 3
              have c1q : wr.cell? ⟨rb, 1, none⟩ = some (.int .i64 (first : Int)) := HQ.out.blk.cell 1
              have PS := Lib.hid (HI.out.step (by rw [← size_len] at hps; exact hps) H0.out HM.out hf)
              have PL := Lib.hid (pass_lt HI.out H0.out HM.out)
              by_cases hpl : p ≤ last
              · have hpl' : (p : Int) ≤ (last : Int) := by omega
                have CR := Lib.hid (HR.out _ (mid M s.data.toList p R.lat R.bs R.fd R.lat.length) lj first p HQ.out.drew (by have := MC.out; omega) (by have := MC.out; omega) hf)
                rw [pass_yes hpl] at PS PL
                go_upto_region 12 with fail
                go_region_with (go_at_call 57; (with_reducible refine CR.out.mono ?_); rintro e w5 ⟨rfl, l5, hw5, hb5, hr5⟩; have c3z : w5.cell? ⟨rb, 3, none⟩ = some (.int .i64 (p : Int)) := hw5.out.blk.cell 3; have f3z := hw5.out.blk.froz 3)
                all_goals
                  go_wp2_with fail
                  have NX := Lib.hid (SrI.next (n := (p : Int) + 1) hw5.out (HBq.out.drew.run hb5.out HT.out) (HT.out.trans hr5.out HBq.out.size) hO.out K1.out.blk K1.out.rch NL.out (fun g h => (LB.out g h).1) B2.out (by have := BB.out; omega) PS.out PL.out (by omega))
                  go_roundw
                  case rel => exact ⟨p + 1, _, _, _, _, _, by omega, NX.out⟩
                  case measure => rw [AT.out, atR_of NX.out.1.out]; omega
              · have hpl' : ¬ ((p : Int) ≤ (last : Int)) := by omega
                rw [pass_no hpl] at PS PL
                have f3q := HQ.out.blk.froz 3
                have NX := Lib.hid (SrI.next (n := (p : Int) + 1) HQ.out HBq.out HT.out hO.out K1.out.blk K1.out.rch NL.out (fun g h => (LB.out g h).1) B2.out (by have := BB.out; omega) PS.out PL.out (by omega))
                go_wp2_with fail
                go_roundw
                case rel => exact ⟨p + 1, _, _, _, _, _, by omega, NX.out⟩
                case measure => rw [AT.out, atR_of NX.out.1.out]; omega
    · obtain rfl : p = s.size + 1 := by omega
      have c7 : wr.cell? ⟨rb, 7, none⟩ = some (.int .i64 (R.bs.1 : Int)) := HW.out.blk.cell 7
      have c8 : wr.cell? ⟨rb, 8, none⟩ = some (.int .i64 (R.bs.2 : Int)) := HW.out.blk.cell 8
      have c9 : wr.cell? ⟨rb, 9, none⟩ = some (.bool R.fd) := HW.out.blk.cell 9
      have hle : ¬ (((s.size + 1 : Nat) : Int) ≤ (s.size : Int)) := by omega
      clear hA1 hA2 ho0 ho2 HW HO HNL
      go_upto_region 1 with fail
      go_region
      all_goals
        go_wp2_with fail
        go_end0
        exact ⟨rfl, s.size + 1, R.lat, R.bs, R.fd, Nat.le_refl _, .inl rfl, HI.out, c7, c8, c9, HB.out.drew⟩
end Go.Proofs.Ytilfggnhaehbcaa.Rx
