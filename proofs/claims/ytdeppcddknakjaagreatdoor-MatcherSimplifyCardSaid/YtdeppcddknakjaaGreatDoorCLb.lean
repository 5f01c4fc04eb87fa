
/- Layer 5: texts of lists of labels. Layer 5: Compare. Layer 5: Format and Hash. Layer 5: append onto the row of a constant (its block bears a mark behind its only cell), or onto one of the call's own. Layer 5: Format of the program; Hash. Layer 5: the order of names, of lists. Layer 5: the iterator named. Layer 5: Get of the program. Layer 5: the calls of the laws. Layer 5: what Keep and Drop keep. Layer 5: what With does. -/
import Derived.Lib.AppendStr
import Derived.Lib.UnsafeStr
import Derived.Lib.ConvBytes
import Derived.Lib.QuietBelow
import Derived.Laws.IdiomStrings
import Derived.Laws.BytesArg
import Derived.Deep.QuietTactic
import Derived.BigQuiet
import Derived.Test.YtdeppcddknakjaaGreatDoorCLa
import Derived.Deep.RegionHeld3
import Derived.Deep.DeepCutAuto
import Derived.Lib.SlBytesConst
import Derived.RangeFuncNested
import Derived.RangeFuncBound
import Derived.RangeFuncCalls
import Derived.RangeFuncLeaves
import Derived.RangeFuncBox
import Derived.Maps.AppendAt
import Derived.Maps.OwnIn
import Derived.Shelf.Abstract
import Derived.Shelf.RegionOpen
import Derived.OwnWalkIn
import Derived.TacticsInMore
import Derived.LoopNIn
import Derived.LoopIn
import Derived.Sort.CutIn
set_option maxRecDepth 100000
set_option linter.unusedVariables false
set_option linter.unusedSimpArgs false
namespace Go.Proofs.YtdeppcddknakjaaGreatDoor.Lab
open Go.RowKit
theorem info5 : (Tryz.prog.info? 5).map (fun i => (i.zero, i.size, i.bytes)) = some (some (.int .u8 0), 1, 1) := by kernel_rfl
/-- v owns the bytes l. -/
def OwnB (w : World) (B : Nat) (v : Value) (l : List UInt8) : Prop := w.ownsRow B 5 1 v l.length (Lib.byteCells l)
theorem OwnB.snoc {w : World} {B n : Nat} {v : Value} {l m : List UInt8} {xs : List Value} (h : w.ownsRow B 5 1 v (l.length + n) (Lib.byteCells l ++ xs)) (hx : xs = Lib.byteCells m) (hn : n = m.length) : OwnB w B v (l ++ m) := by
  unfold OwnB
  subst hx
  subst hn
  rw [List.length_append, Lib.byteCells_append]
  exact h
theorem OwnB.conv {B : Nat} {W : World} {v : Value} {l : List UInt8} (h : OwnB W B v l) : ∃ A n cap, v = .slice A n cap ∧ (convert 78 9 (.slice A n cap)).run Tryz.prog W = .ok (.string ⟨l.toArray⟩) W := by
  rcases h.2 with ⟨rfl, h0⟩ | ⟨g, cap, cur, rfl, hr⟩
  · have : l = [] := List.eq_nil_of_length_eq_zero h0
    subst this
    refine ⟨none, 0, 0, rfl, ?_⟩
    exact run_convert_bytes_nil (P := Tryz.prog) W 78 5 Tryz.underlying78 Tryz.underlying5 0 0 9 Tryz.underlying9
  · refine ⟨_, _, _, rfl, run_convert_bytes_back W 78 9 5 ⟨g, 0, none⟩ cap l Tryz.underlying78 Tryz.underlying5 Tryz.underlying9 fun j hj => ?_⟩
    rw [World.ownsRow.cells (g := g) h rfl j (.int .u8 (l[j].toNat : Int)) (by simp [Lib.byteCells, List.getElem?_eq_getElem hj])]
theorem OwnB.lt {w : World} {B : Nat} {v : Value} {l : List UInt8} (h : OwnB w B v l) : ∀ g, v.ownBlock = some g → B ≤ g ∧ g < w.heap.size := World.ownsRow.lt h
theorem OwnB.below {w w' : World} {B : Nat} {v : Value} {l : List UInt8} (h : OwnB w B v l) (hb : Below w.heap.size w w') : OwnB w' B v l := by
  refine ⟨h.1, ?_⟩
  rcases h.2 with h0 | ⟨g, cap, cur, e, h1, h2, h3⟩
  · exact .inl h0
  · exact .inr ⟨g, cap, cur, e, h1, (hb.block g (by have := (World.ownsRow.lt h g (by rw [e]; rfl)).2; omega)).trans h2, h3⟩

/-- A byte of a value as it is written; a value. -/
def quo1 (c : UInt8) : List UInt8 := if c.toNat = 10 then [92, 110] else if c.toNat = 92 ∨ c.toNat = 34 then [92, c] else [c]
def quo (l : List UInt8) : List UInt8 := l.flatMap quo1
theorem quo_nil : quo [] = [] := rfl
theorem quo_append (a b : List UInt8) : quo (a ++ b) = quo a ++ quo b := by unfold quo; rw [List.flatMap_append]
theorem quo_one (c : UInt8) : quo [c] = quo1 c := by simp [quo]
theorem quo1_len (c : UInt8) : (quo1 c).length ≤ 2 := by
  unfold quo1
  split
  · simp
  · split <;> simp
theorem quo_len : ∀ l : List UInt8, (quo l).length ≤ 2 * l.length
  | [] => by simp [quo]
  | c :: r => by
    have h := quo_len r
    have h1 := quo1_len c
    rw [show c :: r = [c] ++ r from rfl, quo_append, List.length_append, quo_one, List.length_append, List.length_singleton]
    omega
theorem quo_snoc (s : ByteArray) {k : Nat} (h : k < s.size) : quo (s.data.toList.take (k + 1)) = quo (s.data.toList.take k) ++ quo1 s[k] := by
  rw [take_snoc s h, quo_append, quo_one]
theorem quo1_nl {c : UInt8} (h : c.toNat = 10) : quo1 c = [92, 110] := if_pos h
theorem quo1_esc {c : UInt8} (h : ¬ c.toNat = 10) (h2 : c.toNat = 92 ∨ c.toNat = 34) : quo1 c = [92, c] := by unfold quo1; rw [if_neg h, if_pos h2]
theorem quo1_plain {c : UInt8} (h : ¬ c.toNat = 10) (h2 : ¬ c.toNat = 92) (h3 : ¬ c.toNat = 34) : quo1 c = [c] := by unfold quo1; rw [if_neg h, if_neg (by omega)]
def StrPost (l : List UInt8) (w : World) (e : Ending) (w' : World) : Prop := e = .returned (.string ⟨l.toArray⟩) ∧ Below w.heap.size w w'
def BytesPost (l : List UInt8) (B : Nat) (w : World) (e : Ending) (w' : World) : Prop := ∃ v, e = .returned v ∧ OwnB w' B v l ∧ Below B w w'
theorem row_below {B : Nat} {w W V V1 : World} {v : Value} {l : List UInt8} (hB : Below B w W) (hown : OwnB W B v l) (hV : Below W.heap.size W V) (hg : V.grownBy V1 v.ownBlock) (hsz : B ≤ W.heap.size) : Below B w V1 :=
  (hB.trans (hV.mono hsz)).grown hg (Nat.le_trans hsz hV.size) (fun g e => (hown.lt g e).1)
end Go.Proofs.YtdeppcddknakjaaGreatDoor.Lab
namespace Go.Proofs.YtdeppcddknakjaaGreatDoor.Lab
open Go.RowKit
/-- How two labels compare; two lists. -/
def cmpX (x y : Lb) : Int := if cmpS x.n y.n = 0 then cmpS x.v y.v else cmpS x.n y.n
def cmpL : List Lb → List Lb → Int
  | [], [] => 0
  | [], _ :: _ => -1
  | _ :: _, [] => 1
  | x :: a, y :: b => if cmpX x y = 0 then cmpL a b else cmpX x y
structure CmpAt (a b : List Lb) (k : Nat) : Prop where
  eq : cmpL a b = cmpL (a.drop k) (b.drop k)
theorem CmpAt.start (a b : List Lb) : CmpAt a b 0 := ⟨rfl⟩
theorem CmpAt.no {a b : List Lb} {k : Nat} (H : CmpAt a b k) (ha : k < a.length) (hb : k < b.length) (h : ¬ cmpX a[k] b[k] = 0) : cmpL a b = cmpX a[k] b[k] := by
  rw [H.eq, drop_at ha, drop_at hb, cmpL, if_neg h]
theorem CmpAt.next {a b : List Lb} {k : Nat} (H : CmpAt a b k) (ha : k < a.length) (hb : k < b.length) (h : cmpX a[k] b[k] = 0) : CmpAt a b (k + 1) := by
  refine ⟨?_⟩
  rw [H.eq, drop_at ha, drop_at hb, cmpL, if_pos h]
theorem CmpAt.less {a b : List Lb} {k : Nat} (H : CmpAt a b k) (ha : a.length = k) (hb : k < b.length) : cmpL a b = -1 := by
  rw [H.eq, List.drop_of_length_le (by omega), drop_at hb, cmpL]
theorem CmpAt.more {a b : List Lb} {k : Nat} (H : CmpAt a b k) (ha : k < a.length) (hb : b.length = k) : cmpL a b = 1 := by
  rw [H.eq, List.drop_of_length_le (l := b) (by omega), drop_at ha, cmpL]
theorem CmpAt.same {a b : List Lb} {k : Nat} (H : CmpAt a b k) (ha : a.length = k) (hb : b.length = k) : cmpL a b = 0 := by
  rw [H.eq, List.drop_of_length_le (by omega), List.drop_of_length_le (by omega), cmpL]
theorem quiet_add_left {P : Program} {f : FuncId} {args : Array Value} {w : World} {a n : Nat} {v : Value}
    (h : Calls P f args (w.drewN (a + n)) fun e w' => e = .returned v ∧ w.drewN (a + n) = w') :
    Calls P f args (w.drewN (a + n)) fun e w'' => e = .returned v ∧ ∃ m, w'' = w.drewN (a + m) :=
  h.mono fun _ _ ⟨he, hm⟩ => ⟨he, n, hm.symm⟩
theorem quiet_left {P : Program} {f : FuncId} {args : Array Value} {w : World} {n : Nat} {v : Value}
    (h : Calls P f args (w.drewN n) fun e w' => e = .returned v ∧ w.drewN n = w') : Calls P f args (w.drewN n) fun e w'' => e = .returned v ∧ ∃ m, w'' = w.drewN m :=
  h.mono fun _ _ ⟨he, hm⟩ => ⟨he, n, hm.symm⟩
def orI (x y : Int) : Int := if x = 0 then y else x
end Go.Proofs.YtdeppcddknakjaaGreatDoor.Lab
namespace Go.Proofs.YtdeppcddknakjaaGreatDoor.Lab
open Go.RowKit Go.Sort
/-- A label as it is written; a list of labels. -/
def lab1 (x : Lb) : List UInt8 := x.n.data.toList ++ [61, 34] ++ quo x.v.data.toList ++ [34]
def tailL (l : List Lb) : List UInt8 := l.flatMap fun x => 44 :: lab1 x
def bodyL : List Lb → List UInt8
  | [] => []
  | x :: r => lab1 x ++ tailL r
def fmtL (l : List Lb) : List UInt8 := [123] ++ bodyL l ++ [125]
theorem tailL_append (a b : List Lb) : tailL (a ++ b) = tailL a ++ tailL b := by unfold tailL; rw [List.flatMap_append]
theorem tailL_one (x : Lb) : tailL [x] = 44 :: lab1 x := by simp [tailL]
theorem bodyL_snoc {l : List Lb} (x : Lb) (h : l ≠ []) : bodyL (l ++ [x]) = bodyL l ++ [44] ++ lab1 x := by
  cases l with
  | nil => exact absurd rfl h
  | cons y r =>
    rw [List.cons_append, bodyL, bodyL, tailL_append, tailL_one]
    simp
theorem bodyL_one (x : Lb) : bodyL ([] ++ [x]) = lab1 x := by simp [bodyL, tailL]
theorem bodyL_zero {l : List Lb} {k : Nat} (hk : k < l.length) (h : k = 0) : bodyL (l.take (k + 1)) = bodyL (l.take k) ++ lab1 l[k] := by
  rw [take_snocL l hk]
  subst h
  rw [List.take_zero, bodyL_one]
  rfl
theorem bodyL_pos {l : List Lb} {k : Nat} (hk : k < l.length) (h : 0 < k) : bodyL (l.take (k + 1)) = bodyL (l.take k) ++ [44] ++ lab1 l[k] := by
  rw [take_snocL l hk, bodyL_snoc]
  intro e
  have := congrArg List.length e
  rw [List.length_take, List.length_nil] at this
  omega
theorem bodyL_take_le (l : List Lb) (k : Nat) : (bodyL (l.take k)).length ≤ (bodyL l).length := by
  cases l with
  | nil => simp
  | cons y r =>
    cases k with
    | zero => simp [bodyL]
    | succ k =>
      have e : tailL r = tailL (r.take k) ++ tailL (r.drop k) := by rw [← tailL_append, List.take_append_drop]
      rw [List.take_succ_cons, bodyL, bodyL, e]
      simp only [List.length_append]
      omega
theorem fmtL_len (l : List Lb) : (fmtL l).length = (bodyL l).length + 2 := by unfold fmtL; simp only [List.length_append, List.length_singleton]; omega
set_option maxHeartbeats 4000000 in
theorem escaped_any (s : ByteArray) (hs : s.size ≤ 100000) (B : Nat) (v : Value) (l : List UInt8) (hl : l.length ≤ 100000000) (w : World) (hv : OwnB w B v l) (hB : B ≤ w.heap.size) :
    Calls Tryz.prog 145 #[v, .string s] w (BytesPost (l ++ quo s.data.toList) B w) := by
  obtain ⟨i0, hi, hz0, hz1, hz2⟩ := info_parts info5
  have O0 : Hid (OwnB w B v (l ++ quo (s.data.toList.take 0))) := by
    rw [List.take_zero, quo_nil, List.append_nil]
    exact hv
  have B0 : Hid (Below B w w) := Below.refl _ _
  clear hv
  go_enter Tryz.func145, Tryz.ntmps145
  go_wp2
  go_loopw [0, 9] (fun vo vi wr => ∃ k : Nat, k ≤ s.size ∧ vi = .int .i64 k ∧ Hid (OwnB wr B vo (l ++ quo (s.data.toList.take k))) ∧ Hid (Below B w wr) ∧ Hid (B ≤ wr.heap.size)) (fun _ vi _ => s.size - (intOf vi).toNat)
  case atStart => exact ⟨0, by omega, rfl, O0, B0, hB⟩
  case round =>
    clear O0 B0 hB
    obtain ⟨k, hk, rfl, HO, HB, HSZ⟩ := hrel
    by_cases hlt : k < s.size
    · have HE := Lib.hid (quo_snoc s hlt)
      have hc256 := s[k].toNat_lt
      obtain ⟨m, hm⟩ : ∃ m, l ++ quo (s.data.toList.take k) = m := ⟨_, rfl⟩
      have hml : m.length ≤ 100200000 := by
        have h1 := quo_len (s.data.toList.take k)
        have h2 : (s.data.toList.take k).length ≤ k := List.length_take_le _ _
        rw [← hm, List.length_append]; omega
      have HE2 : Hid (∀ q, quo1 s[k] = q → l ++ quo (s.data.toList.take (k + 1)) = m ++ q) := fun q h => by rw [HE.out, h, ← hm, List.append_assoc]
      rw [hm] at HO
      clear hm HE
      by_cases hc : s[k].toNat = 10
      · have HQ := Lib.hid (HE2.out _ (quo1_nl hc))
        have t1 : ((s[k].toNat : Int) == 10) = true := by simp [hc]
        clear hc HE2
        go_wp2_with (at_builtin; refine Lib.wpList_append_own_string _ rfl (.tmp 22) (.const (.string ⟨#[92, 110]⟩)) 78 9 rfl B 5 i0 Tryz.underlying78 Tryz.underlying9 hi hz0 hz1 hz2 _ _ _ rfl HO.out ⟨#[92, 110]⟩ rfl (by simp only [maxLen, ByteArray.size]; simp; omega) (by simp only [ByteArray.size]; simp; omega) HSZ.out ?_; intro v1 w1 hown' hgrow _; have HO1 := Lib.hid (OwnB.snoc (m := [92, 110]) hown' rfl rfl); have B1 := Lib.hid (row_below HB.out HO.out (Below.refl _ _) hgrow HSZ.out); have HSZ1 := Lib.hid (Nat.le_trans HSZ.out hgrow.size); clear hown' hgrow)
        go_roundw
        case rel => exact ⟨k + 1, by omega, by go_num, by rw [HQ.out]; exact HO1.out, B1, HSZ1⟩
        case measure => simp [intOf]; omega
      · have t1 : ((s[k].toNat : Int) == 10) = false := by simp; omega
        by_cases hesc : s[k].toNat = 92 ∨ s[k].toNat = 34
        · have HQ := Lib.hid (HE2.out _ (quo1_esc hc hesc))
          clear hc HE2
          have hes : (((s[k].toNat : Int) == 92) = true) ∨ (((s[k].toNat : Int) == 92) = false ∧ ((s[k].toNat : Int) == 34) = true) := by
            rcases hesc with h | h
            · exact .inl (by simp [h])
            · exact .inr ⟨by simp [h], by simp [h]⟩
          clear hesc
          rcases hes with t2 | ⟨t2, t3⟩
          all_goals
            go_wp2_with (at_builtin; refine wpList_append_own _ rfl (.tmp 27) (.tmp 29) 78 rfl B 5 i0 _ 1 1 Tryz.underlying78 hi hz0 hz1 hz2 rfl (by decide) _ _ _ rfl (HO.out.below ((Below.refl _ _).alloc (Nat.le_refl _) _)) ⟨wr.heap.size, 0, none⟩ 2 2 [.int .u8 92, .int .u8 (s[k].toNat : Int)] rfl rfl (cell_two_new _ _ _ _) (by simp [Value.oneCell']) (by simp only [maxLen]; omega) (by omega) (by have := HSZ.out; simp; omega) ?_; intro v1 w1 hown' hgrow _; have HO1 := Lib.hid (OwnB.snoc (m := [92, s[k]]) hown' rfl rfl); have B1 := Lib.hid (row_below HB.out HO.out ((Below.refl _ _).alloc (Nat.le_refl _) _) hgrow HSZ.out); have HSZ1 := Lib.hid (Nat.le_trans HSZ.out (by have := hgrow.size; simp at this; omega) : B ≤ w1.heap.size); clear hown' hgrow)
            go_roundw
            case rel => exact ⟨k + 1, by omega, by go_num, by rw [HQ.out]; exact HO1.out, B1, HSZ1⟩
            case measure => simp [intOf]; omega
        · have HQ := Lib.hid (HE2.out _ (quo1_plain hc (fun h => hesc (.inl h)) (fun h => hesc (.inr h))))
          have t2 : ((s[k].toNat : Int) == 92) = false := by simp; omega
          have t3 : ((s[k].toNat : Int) == 34) = false := by simp; omega
          clear hc hesc HE2
          go_wp2_with (at_builtin; refine wpList_append_own _ rfl (.tmp 16) (.tmp 18) 78 rfl B 5 i0 _ 1 1 Tryz.underlying78 hi hz0 hz1 hz2 rfl (by decide) _ _ _ rfl (HO.out.below ((Below.refl _ _).alloc (Nat.le_refl _) _)) ⟨wr.heap.size, 0, none⟩ 1 1 [.int .u8 (s[k].toNat : Int)] rfl rfl (cell_one_new _ _ _) (by simp [Value.oneCell']) (by simp only [maxLen]; omega) (by omega) (by have := HSZ.out; simp; omega) ?_; intro v1 w1 hown' hgrow _; have HO1 := Lib.hid (OwnB.snoc (m := [s[k]]) hown' rfl rfl); have B1 := Lib.hid (row_below HB.out HO.out ((Below.refl _ _).alloc (Nat.le_refl _) _) hgrow HSZ.out); have HSZ1 := Lib.hid (Nat.le_trans HSZ.out (by have := hgrow.size; simp at this; omega) : B ≤ w1.heap.size); clear hown' hgrow)
          go_roundw
          case rel => exact ⟨k + 1, by omega, by go_num, by rw [HQ.out]; exact HO1.out, B1, HSZ1⟩
          case measure => simp [intOf]; omega
    · obtain rfl : k = s.size := by omega
      have h2 := HO.out
      rw [List.take_of_length_le (by rw [Array.length_toList]; exact Nat.le_refl _)] at h2
      have H2 := Lib.hid h2
      clear HO h2
      go_wp2
      go_ret
      exact ⟨_, rfl, H2.out, HB.out⟩
end Go.Proofs.YtdeppcddknakjaaGreatDoor.Lab
namespace Go.Proofs.YtdeppcddknakjaaGreatDoor.Lab
open Go.RowKit
/-- v owns the bytes l, or it is the constant's row still. -/
def OwnM (w : World) (B : Nat) (v : Value) (l : List UInt8) : Prop :=
  OwnB w B v l ∨ (l = [123] ∧ ∃ g, v = .slice (some ⟨g, 0, none⟩) 1 1 ∧ B ≤ g ∧ w.heap[g]? = some (.cells #[.int .u8 123] 5 (1, 2)))
theorem OwnM.below {w w' : World} {B : Nat} {v : Value} {l : List UInt8} (h : OwnM w B v l) (hb : Below w.heap.size w w') : OwnM w' B v l := by
  rcases h with h | ⟨hl, g, hv, hg, hh⟩
  · exact .inl (h.below hb)
  · exact .inr ⟨hl, g, hv, hg, (hb.block g (Array.getElem?_eq_some_iff.1 hh).1).trans hh⟩
theorem OwnM.lt {w : World} {B : Nat} {v : Value} {l : List UInt8} (h : OwnM w B v l) : ∀ g, v.ownBlock = some g → B ≤ g ∧ g < w.heap.size := fun k hk => by
  rcases h with h | ⟨hl, g, rfl, hg, hh⟩
  · exact h.lt k hk
  · simp only [Value.ownBlock, Option.some.injEq] at hk
    subst hk
    exact ⟨hg, (Array.getElem?_eq_some_iff.1 hh).1⟩
theorem OwnM.ne {w : World} {B : Nat} {v : Value} {l : List UInt8} (h : OwnM w B v l) {g : Nat} {cs : Array Value} {fz : Nat × Nat} (hh : w.heap[g]? = some (.cells cs 51 fz)) : some g ≠ v.ownBlock := by
  intro e
  rcases h with h | ⟨hl, g', rfl, hg, hh'⟩
  · rcases h.2 with ⟨rfl, _⟩ | ⟨g', cap, cur, rfl, _, hh', _⟩
    · simp [Value.ownBlock] at e
    · have : g = g' := by simpa [Value.ownBlock] using e
      subst this
      rw [hh] at hh'
      simp at hh'
  · have : g = g' := by simpa [Value.ownBlock] using e
    subst this
    rw [hh] at hh'
    simp at hh'
theorem grown_own (w : World) (B : Nat) (hB : B ≤ w.heap.size) (l m : List UInt8) (old : Nat) (hm : l.length + m.length ≤ 100000000) (row : Option Nat) :
    OwnB (w.drew.alloc (.cells ((Lib.byteCells l).toArray ++ (Lib.byteCells m).toArray ++ Builtin.zeroCells (Value.int .u8 0).cells (grownCap w (l.length + m.length) old 5 - (l.length + m.length))) 5)) B
      (.slice (some ⟨w.heap.size, 0, none⟩) (l.length + m.length) (grownCap w (l.length + m.length) old 5)) (l ++ m) ∧
    w.grownBy (w.drew.alloc (.cells ((Lib.byteCells l).toArray ++ (Lib.byteCells m).toArray ++ Builtin.zeroCells (Value.int .u8 0).cells (grownCap w (l.length + m.length) old 5 - (l.length + m.length))) 5)) row := by
  have hge := grownCap_ge w (l.length + m.length) old 5
  have hcm : grownCap w (l.length + m.length) old 5 ≤ maxLen := grownCap_le_maxLen w (l.length + m.length) old 5 (by simp only [maxLen]; omega)
  have hlen : (Lib.byteCells (l ++ m)).length = (l.length + m.length) * 1 := by rw [Lib.byteCells_length, List.length_append, Nat.mul_one]
  refine ⟨?_, ⟨rfl, rfl, rfl, by simp, fun k hk _ => Below.heap_alloc w.drew _ k hk⟩⟩
  unfold OwnB
  rw [List.length_append]
  refine ⟨hlen, .inr ⟨w.heap.size, _, _, rfl, hB, heap_alloc_new w.drew _, hge, hcm, ?_, ?_⟩⟩
  · have hz1 : (Value.int IntKind.u8 0).cells.size = 1 := rfl
    simp only [Array.size_append, List.size_toArray, size_zeroCells, hz1, Lib.byteCells_length]
    omega
  · simp only [Array.toList_append, ← Lib.byteCells_append]
    rw [← hlen]
    exact List.take_left
theorem run_append_M_string {w : World} {B : Nat} {v : Value} {l : List UInt8} (ty : TypeId) (h : OwnM w B v l) (s : ByteArray) (hl : l.length + s.size ≤ 100000000) (hB : B ≤ w.heap.size) :
    ∃ v' w', (Builtin.append_ #[78, 9] ty #[v, .string s]).run Tryz.prog w = .ok v' w' ∧ OwnM w' B v' (l ++ s.data.toList) ∧ w.grownBy w' v.ownBlock ∧ (0 < s.size → OwnB w' B v' (l ++ s.data.toList)) := by
  obtain ⟨i0, hi, hz0, hz1, hz2⟩ := info_parts info5
  have hsz : s.data.toList.length = s.size := Array.length_toList
  rcases h with h | ⟨rfl, g, rfl, hg, hh⟩
  · obtain ⟨v', w', hr, h2, h3, _⟩ := Lib.run_append_own_string (P := Tryz.prog) w B 78 9 ty 5 i0 Tryz.underlying78 Tryz.underlying9 hi hz0 hz1 hz2 v _ _ h s (by simp only [maxLen]; omega) (by omega) hB
    have ho := OwnB.snoc (m := s.data.toList) h2 rfl hsz.symm
    exact ⟨v', w', hr, .inl ho, h3, fun _ => ho⟩
  · rcases Nat.eq_zero_or_pos s.size with h0 | h0
    · have hn : s.data.toList = [] := List.eq_nil_of_length_eq_zero (by omega)
      have hf := Lib.run_firstCells_string (P := Tryz.prog) w 1 s
      rw [h0, show Lib.strCells s = [] by unfold Lib.strCells; rw [hn]; rfl] at hf
      refine ⟨_, w, ?_, by rw [hn, List.append_nil]; exact .inr ⟨rfl, g, rfl, hg, hh⟩, ⟨rfl, rfl, rfl, Nat.le_refl _, fun _ _ _ => rfl⟩, fun h => absurd h (by omega)⟩
      simp [Builtin.append_, run_underlying Tryz.underlying78, run_underlying Tryz.underlying9, sizeOf, typeInfo, hi, hz1, Builtin.lenOf, h0, hf, storeCells]
    · have hr := Lib.run_append_grow_string (P := Tryz.prog) w 78 9 ty 5 i0 (.int .u8 0) Tryz.underlying78 Tryz.underlying9 hi hz0 ⟨g, 0, none⟩ 1 1 [.int .u8 123] (by rw [hz1]; rfl)
        (fun j u hu => by
          have : j = 0 := by have := (List.getElem?_eq_some_iff.1 hu).1; simpa using this
          subst this
          cases hu
          simp [Addr.add, World.cell?, hh]) s (by omega) (by omega) (by rw [hz2]; exact growslice_fits (by omega) (by omega))
      have hgr := grown_own w B hB [123] s.data.toList 1 (by rw [hsz]; exact hl) (Value.ownBlock (.slice (some ⟨g, 0, none⟩) 1 1))
      rw [hsz] at hgr
      exact ⟨_, _, hr, .inl hgr.1, hgr.2, fun _ => hgr.1⟩
theorem run_append_M {w : World} {B : Nat} {v : Value} {l m : List UInt8} (ty : TypeId) (h : OwnM w B v l) (a : Addr) (c : Nat) (hm : 0 < m.length) (hnews : ∀ j u, (Lib.byteCells m)[j]? = some u → w.cell? (a.add j) = some u) (hl : l.length + m.length ≤ 100000000) (hB : B ≤ w.heap.size) :
    ∃ v' w', (Builtin.append_ #[78, 78] ty #[v, .slice (some a) m.length c]).run Tryz.prog w = .ok v' w' ∧ OwnB w' B v' (l ++ m) ∧ w.grownBy w' v.ownBlock := by
  obtain ⟨i0, hi, hz0, hz1, hz2⟩ := info_parts info5
  have h1 : ∀ u ∈ Lib.byteCells m, u.oneCell' = true := fun u hu => by
    simp only [Lib.byteCells, List.mem_map] at hu
    obtain ⟨b, _, rfl⟩ := hu
    rfl
  rcases h with h | ⟨rfl, g, rfl, hg, hh⟩
  · obtain ⟨v', w', hr, h2, h3, _⟩ := run_append_own (P := Tryz.prog) w B 78 ty 5 i0 _ 1 1 Tryz.underlying78 hi hz0 hz1 hz2 rfl (by decide) v _ _ h a m.length c (Lib.byteCells m) (by rw [Lib.byteCells_length, Nat.mul_one]) hnews h1 (by simp only [maxLen]; omega) (by omega) hB
    exact ⟨v', w', hr, OwnB.snoc (m := m) h2 rfl rfl, h3⟩
  · have hr := run_append_grow (P := Tryz.prog) w 78 ty 5 i0 (.int .u8 0) Tryz.underlying78 hi hz0 ⟨g, 0, none⟩ 1 1 [.int .u8 123] (by rw [hz1]; rfl)
        (fun j u hu => by
          have : j = 0 := by have := (List.getElem?_eq_some_iff.1 hu).1; simpa using this
          subst this
          cases hu
          simp [Addr.add, World.cell?, hh]) a m.length c (Lib.byteCells m) (by rw [hz1, Lib.byteCells_length, Nat.mul_one]) hnews (by simp only [List.length_singleton] at hl; omega) (by simp only [List.length_singleton] at hl; omega) (by rw [hz2]; simp only [List.length_singleton] at hl; exact growslice_fits (by omega) (by omega))
    have hgr := grown_own w B hB [123] m 1 hl (Value.ownBlock (.slice (some ⟨g, 0, none⟩) 1 1))
    exact ⟨_, _, hr, hgr.1, hgr.2⟩
theorem wpList_append_M_string {w : World} {ops : Array Oper} {rest : List Oper} {o : Oper} {a : Act} {Q : Exit → Act → World → Prop} (hgd : o.guard = none) (sl x : Operand)
    (ho : o.op = .call { callee := .builtin .append, args := #[sl, x], argTypes := #[78, 9] }) (B : Nat) (v : Value) (l : List UInt8) (hs : a.eval sl = v) (hown : OwnM w B v l) (s : ByteArray) (hx : a.eval x = .string s)
    (hl : l.length + s.size ≤ 100000000) (hB : B ≤ w.heap.size)
    (h : ∀ v' w', OwnM w' B v' (l ++ s.data.toList) → w.grownBy w' v.ownBlock → (0 < s.size → OwnB w' B v' (l ++ s.data.toList)) → wpList Tryz.prog ops Q rest (a.put o.dst v') w') : wpList Tryz.prog ops Q (o :: rest) a w := by
  refine wpList_plain hgd fun K hK => ?_
  obtain ⟨v', w', hr, h2, h3, h4⟩ := run_append_M_string o.type hown s hl hB
  unfold Oper.wp execOp
  simp only [ho, resolve, invoke, builtin, Sem.run_bind, Sem.run_pure, Result.andThen_ok, List.map_toArray, List.map_cons, List.map_nil, hs, hx, hr]
  exact hK _ _ (h v' w' h2 h3 h4)
theorem wpList_append_M {w : World} {ops : Array Oper} {rest : List Oper} {o : Oper} {a : Act} {Q : Exit → Act → World → Prop} (hgd : o.guard = none) (sl x : Operand)
    (ho : o.op = .call { callee := .builtin .append, args := #[sl, x], argTypes := #[78, 78] }) (B : Nat) (v : Value) (l : List UInt8) (hs : a.eval sl = v) (hown : OwnM w B v l) (ad : Addr) (c : Nat) (m : List UInt8) (n : Nat) (hx : a.eval x = .slice (some ad) n c) (hn : n = m.length) (hm : 0 < m.length)
    (hnews : ∀ j u, (Lib.byteCells m)[j]? = some u → w.cell? (ad.add j) = some u) (hl : l.length + m.length ≤ 100000000) (hB : B ≤ w.heap.size)
    (h : ∀ v' w', OwnB w' B v' (l ++ m) → w.grownBy w' v.ownBlock → wpList Tryz.prog ops Q rest (a.put o.dst v') w') : wpList Tryz.prog ops Q (o :: rest) a w := by
  subst hn
  refine wpList_plain hgd fun K hK => ?_
  obtain ⟨v', w', hr, h2, h3⟩ := run_append_M o.type hown ad c hm hnews hl hB
  unfold Oper.wp execOp
  simp only [ho, resolve, invoke, builtin, Sem.run_bind, Sem.run_pure, Result.andThen_ok, List.map_toArray, List.map_cons, List.map_nil, hs, hx, hr]
  exact hK _ _ (h v' w' h2 h3)
end Go.Proofs.YtdeppcddknakjaaGreatDoor.Lab
namespace Go.Proofs.YtdeppcddknakjaaGreatDoor.Lab
open Go.RowKit
/-- What a round of Format holds. -/
structure FS (w : World) (vb : Value) (lb : List UInt8) (g : Nat) (x : Lb) (V : World) : Prop where
  own : OwnM V w.heap.size vb lb
  bel : Below w.heap.size w V
  box : V.heap[g]? = some (.cells #[.string x.n, .string x.v] 51 (0, 0))
  ge : w.heap.size ≤ V.heap.size
theorem FS.cells {w V : World} {vb : Value} {lb : List UInt8} {g : Nat} {x : Lb} (h : FS w vb lb g x V) : V.cell? ⟨g, 0, none⟩ = some (.string x.n) ∧ V.cell? ⟨g, 1, none⟩ = some (.string x.v) := by
  constructor <;> simp [World.cell?, h.box]
theorem FS.lt {w V : World} {vb : Value} {lb : List UInt8} {g : Nat} {x : Lb} (h : FS w vb lb g x V) : g < V.heap.size := (Array.getElem?_eq_some_iff.1 h.box).1
theorem FS.app {w V V0 V1 : World} {vb v1 : Value} {lb m : List UInt8} {g : Nat} {x : Lb} (h : FS w vb lb g x V) (hV : Below V.heap.size V V0) (hg : V0.grownBy V1 vb.ownBlock) (ho : OwnM V1 w.heap.size v1 m) : FS w v1 m g x V1 :=
  ⟨ho, (h.bel.trans (hV.mono h.ge)).grown hg (Nat.le_trans h.ge hV.size) (fun g e => (h.own.lt g e).1), (hg.block g (Nat.lt_of_lt_of_le h.lt hV.size) (h.own.ne h.box)).trans ((hV.block g h.lt).trans h.box), Nat.le_trans h.ge (Nat.le_trans hV.size hg.size)⟩
theorem fin_below {w V V0 V1 : World} {vb : Value} {lb : List UInt8} (ho : OwnM V w.heap.size vb lb) (hb : Below w.heap.size w V) (hge : w.heap.size ≤ V.heap.size) (hV : Below V.heap.size V V0) (hg : V0.grownBy V1 vb.ownBlock) : Below w.heap.size w V1 :=
  (hb.trans (hV.mono hge)).grown hg (Nat.le_trans hge hV.size) (fun g e => (ho.lt g e).1)
theorem bytes_one (V : World) (c : UInt8) : ∀ j u, (Lib.byteCells [c])[j]? = some u → (V.alloc (.cells #[.int .u8 (c.toNat : Int)] 5)).cell? ((⟨V.heap.size, 0, none⟩ : Addr).add j) = some u := cell_one_new V (.int .u8 (c.toNat : Int)) 5
theorem bytes_at (V : World) (c : UInt8) (g : Nat) (h : V.heap.size = g) : ∀ j u, (Lib.byteCells [c])[j]? = some u → (V.alloc (.cells #[.int .u8 (c.toNat : Int)] 5)).cell? ((⟨g, 0, none⟩ : Addr).add j) = some u := by
  subst h
  exact bytes_one V c
set_option maxRecDepth 100000 in
set_option maxHeartbeats 4000000 in
theorem format_any (l : List Lb) (hl : l.length ≤ 100000) (hs : ∀ x ∈ l, x.n.size ≤ 100000 ∧ x.v.size ≤ 100000) (hf : (fmtL l).length ≤ 1000000) (A : Option Addr) (c : Nat) (w : World) (hA : LS w w.heap.size A l) :
    Calls Tryz.prog 105 #[.slice A l.length c] w (StrPost (fmtL l) w) := by
  have HA := Lib.hid hA
  have HZ := Lib.hid hs
  clear hA hs
  have O0 : Hid (OwnM (w.alloc (.cells #[.int .u8 123] 5 (1, 2))) w.heap.size (.slice (some ⟨w.heap.size, 0, none⟩) 1 1) ([123] ++ bodyL (l.take 0))) :=
    .inr ⟨rfl, w.heap.size, rfl, Nat.le_refl _, heap_alloc_new w _⟩
  have B0 : Hid (Below w.heap.size w (w.alloc (.cells #[.int .u8 123] 5 (1, 2)))) := (Below.refl _ _).alloc (Nat.le_refl _) _
  have kc := fun (w : World) (C : Array Value) (n c : Nat) => Lib.run_convert_bytes_const (P := Tryz.prog) w 78 5 C n c Tryz.underlying78 Tryz.underlying5
  go_enter Tryz.func105, Tryz.ntmps105
  go_wp2
  go_loopw [3, 10] (fun vo vi wr => ∃ (k : Nat), k ≤ l.length ∧ vi = .int .i64 k ∧ Hid (OwnM wr w.heap.size vo ([123] ++ bodyL (l.take k))) ∧ Hid (Below w.heap.size w wr)) (fun _ vi _ => l.length - (intOf vi).toNat)
  case atStart => exact ⟨0, by omega, rfl, O0, B0⟩
  case round =>
    clear O0 B0 kc
    obtain ⟨k, hk, rfl, HO, HB⟩ := hrel
    by_cases hlt : k < l.length
    · obtain ⟨b, off, rfl, hb, h1', h2'⟩ := HA.out.at_ hlt
      have h1 := (HB.out.cell (p := ⟨b, off + k * 2, none⟩) hb).trans h1'
      have h2 := (HB.out.cell (p := ⟨b, off + k * 2 + 1, none⟩) hb).trans h2'
      obtain ⟨zn, zv⟩ := HZ.out _ (List.getElem_mem hlt)
      clear h1' h2'
      have F0 : Hid (FS w u3 ([123] ++ bodyL (l.take k)) wr.heap.size l[k] (wr.alloc (.cells #[.string l[k].n, .string l[k].v] 51))) :=
        ⟨HO.out.below ((Below.refl _ _).alloc (Nat.le_refl _) _), HB.out.alloc HB.out.size _, heap_alloc_new wr _, by have := HB.out.size; simp; omega⟩
      have hlen : (bodyL (l.take k)).length ≤ 1000000 := by
        have h1 := bodyL_take_le l k
        rw [fmtL_len] at hf
        omega
      have HEZ := Lib.hid (bodyL_zero hlt)
      have HEP := Lib.hid (bodyL_pos hlt)
      generalize bodyL (l.take k) = m at *
      have hlm : ([123] ++ m).length = m.length + 1 := by rw [List.length_append, List.length_singleton]; exact Nat.add_comm _ _
      obtain ⟨mm, hmm⟩ : ∃ mm, [123] ++ m = mm := ⟨_, rfl⟩
      rw [hmm] at hlm F0
      have HMM := Lib.hid hmm
      clear hmm HO
      have hmb : mm.length ≤ 1000001 := by omega
      have hqb := quo_len l[k].v.data.toList
      rw [show l[k].v.data.toList.length = l[k].v.size from Array.length_toList] at hqb
      have hnl : l[k].n.data.toList.length = l[k].n.size := Array.length_toList
      have HNL := Lib.hid hnl
      clear hnl hlm
      obtain ⟨c0, c1⟩ := F0.out.cells
      have HGB := Lib.hid HB.out.size
      by_cases h0 : 0 < k
      · have hg : decide (0 < k) = true := by simp [h0]
        have HE := Lib.hid (HEP.out h0)
        clear HEZ HEP
        go_wp2_with (first
            | (at_builtin; refine wpList_append_M rfl (.tmp 17) (.tmp 18) rfl w.heap.size u3 mm rfl (F0.out.own.below ((Below.refl _ _).alloc (Nat.le_refl _) _)) ⟨wr.heap.size + 1, 0, none⟩ 1 [44] 1 rfl rfl (by decide) (bytes_at _ 44 _ (by simp)) (by simp only [List.length_singleton]; omega) (by have := HGB.out; simp; omega) ?_; intro v1 w1 ho hg; have F1 := Lib.hid (F0.out.app ((Below.refl _ _).alloc (Nat.le_refl _) _) hg (.inl ho)); clear ho hg; obtain ⟨d0, d1⟩ := F1.out.cells; have HG1 := Lib.hid F1.out.lt)
            | (at_builtin; refine wpList_append_M_string rfl (.tmp 20) (.tmp 22) rfl w.heap.size v1 (mm ++ [44]) rfl F1.out.own l[k].n rfl (by have := HNL.out; (try simp only [List.length_append, List.length_singleton, List.length_cons, List.length_nil]); omega) F1.out.ge ?_; intro v2 w2 ho hg _; have F2 := Lib.hid (F1.out.app (Below.refl _ _) hg ho); clear ho hg)
            | (at_builtin; refine wpList_append_M_string rfl (.tmp 24) (.const (.string ⟨#[61, 34]⟩)) rfl w.heap.size v2 _ rfl F2.out.own ⟨#[61, 34]⟩ rfl (by have := HNL.out; (try simp only [List.length_append, List.length_singleton, List.length_cons, List.length_nil]); have h2 : (⟨#[61, 34]⟩ : ByteArray).size = 2 := rfl; omega) F2.out.ge ?_; intro v3 w3 _ hg ho; have OB3 := Lib.hid (ho (by decide)); have F3 := Lib.hid (F2.out.app (Below.refl _ _) hg (.inl OB3.out)); clear ho hg; obtain ⟨e0, e1⟩ := F3.out.cells)
            | (go_at_call 145; (with_reducible refine (escaped_any l[k].v zv w.heap.size v3 _ (by have := HNL.out; (try simp only [List.length_append, List.length_singleton, List.length_cons, List.length_nil]); have h2 : (⟨#[61, 34]⟩ : ByteArray).data.toList.length = 2 := rfl; omega) w3 OB3.out F3.out.ge).mono ?_); rintro e w4 ⟨v4, rfl, ho, hb⟩; have O4 := Lib.hid ho; have B4 := Lib.hid (F3.out.bel.trans hb); have G4 := Lib.hid (Nat.le_trans F3.out.ge hb.size); clear ho hb)
            | (at_builtin; refine wpList_append_M rfl (.tmp 30) (.tmp 31) rfl w.heap.size v4 _ rfl (OwnM.below (.inl O4.out) ((Below.refl _ _).alloc (Nat.le_refl _) _)) ⟨w4.heap.size, 0, none⟩ 1 [34] 1 rfl rfl (by decide) (bytes_one w4 34) (by have := HNL.out; (try simp only [List.length_append, List.length_singleton, List.length_cons, List.length_nil]); have h2 : (⟨#[61, 34]⟩ : ByteArray).data.toList.length = 2 := rfl; omega) (by have := G4.out; simp; omega) ?_; intro v5 w5 ho hg; have O5 := Lib.hid ho; have B5 := Lib.hid (fin_below (.inl O4.out) B4.out G4.out ((Below.refl _ _).alloc (Nat.le_refl _) _) hg); clear ho hg))
        go_roundw
        case rel =>
          refine ⟨k + 1, by omega, by go_num, .inl ?_, B5⟩
          rw [HE.out]
          have h5 := O5.out
          rw [← HMM.out] at h5
          have e : [123] ++ (m ++ [44] ++ lab1 l[k]) = [123] ++ m ++ [44] ++ l[k].n.data.toList ++ (⟨#[61, 34]⟩ : ByteArray).data.toList ++ quo l[k].v.data.toList ++ [34] := by
            unfold lab1
            simp [List.append_assoc]
          rw [e]
          exact h5
        case measure => simp [intOf]; omega
      · have hg : decide (0 < k) = false := by simp; omega
        have HE := Lib.hid (HEZ.out (by omega))
        clear HEZ HEP
        go_wp2_with (first
            | (at_builtin; refine wpList_append_M_string rfl (.tmp 20) (.tmp 22) rfl w.heap.size u3 mm rfl F0.out.own l[k].n rfl (by have := HNL.out; (try simp only [List.length_append, List.length_singleton, List.length_cons, List.length_nil]); omega) F0.out.ge ?_; intro v2 w2 ho hg _; have F2 := Lib.hid (F0.out.app (Below.refl _ _) hg ho); clear ho hg)
            | (at_builtin; refine wpList_append_M_string rfl (.tmp 24) (.const (.string ⟨#[61, 34]⟩)) rfl w.heap.size v2 _ rfl F2.out.own ⟨#[61, 34]⟩ rfl (by have := HNL.out; (try simp only [List.length_append, List.length_singleton, List.length_cons, List.length_nil]); have h2 : (⟨#[61, 34]⟩ : ByteArray).size = 2 := rfl; omega) F2.out.ge ?_; intro v3 w3 _ hg ho; have OB3 := Lib.hid (ho (by decide)); have F3 := Lib.hid (F2.out.app (Below.refl _ _) hg (.inl OB3.out)); clear ho hg; obtain ⟨e0, e1⟩ := F3.out.cells)
            | (go_at_call 145; (with_reducible refine (escaped_any l[k].v zv w.heap.size v3 _ (by have := HNL.out; (try simp only [List.length_append, List.length_singleton, List.length_cons, List.length_nil]); have h2 : (⟨#[61, 34]⟩ : ByteArray).data.toList.length = 2 := rfl; omega) w3 OB3.out F3.out.ge).mono ?_); rintro e w4 ⟨v4, rfl, ho, hb⟩; have O4 := Lib.hid ho; have B4 := Lib.hid (F3.out.bel.trans hb); have G4 := Lib.hid (Nat.le_trans F3.out.ge hb.size); clear ho hb)
            | (at_builtin; refine wpList_append_M rfl (.tmp 30) (.tmp 31) rfl w.heap.size v4 _ rfl (OwnM.below (.inl O4.out) ((Below.refl _ _).alloc (Nat.le_refl _) _)) ⟨w4.heap.size, 0, none⟩ 1 [34] 1 rfl rfl (by decide) (bytes_one w4 34) (by have := HNL.out; (try simp only [List.length_append, List.length_singleton, List.length_cons, List.length_nil]); have h2 : (⟨#[61, 34]⟩ : ByteArray).data.toList.length = 2 := rfl; omega) (by have := G4.out; simp; omega) ?_; intro v5 w5 ho hg; have O5 := Lib.hid ho; have B5 := Lib.hid (fin_below (.inl O4.out) B4.out G4.out ((Below.refl _ _).alloc (Nat.le_refl _) _) hg); clear ho hg))
        go_roundw
        case rel =>
          refine ⟨k + 1, by omega, by go_num, .inl ?_, B5⟩
          rw [HE.out]
          have h5 := O5.out
          rw [← HMM.out] at h5
          have e : [123] ++ (m ++ lab1 l[k]) = [123] ++ m  ++ l[k].n.data.toList ++ (⟨#[61, 34]⟩ : ByteArray).data.toList ++ quo l[k].v.data.toList ++ [34] := by
            unfold lab1
            simp [List.append_assoc]
          rw [e]
          exact h5
        case measure => simp [intOf]; omega
    · have h2 := HO.out
      rw [List.take_of_length_le (by omega)] at h2
      have H2 := Lib.hid h2
      have hbl : ([123] ++ bodyL l).length ≤ 1000001 := by
        rw [fmtL_len] at hf
        rw [List.length_append, List.length_singleton]
        omega
      have HFL : Hid (fmtL l = [123] ++ bodyL l ++ [125]) := rfl
      generalize fmtL l = res at *
      generalize [123] ++ bodyL l = mm at *
      clear HO h2
      go_wp2_with (at_builtin; refine wpList_append_M rfl (.tmp 34) (.tmp 35) rfl w.heap.size u3 mm rfl (H2.out.below ((Below.refl _ _).alloc (Nat.le_refl _) _)) ⟨wr.heap.size, 0, none⟩ 1 [125] 1 rfl rfl (by decide) (bytes_one wr 125) (by simp only [List.length_singleton]; omega) (by have := HB.out.size; simp; omega) ?_; intro v1 w1 ho hg; have BF := Lib.hid (fin_below H2.out HB.out HB.out.size ((Below.refl _ _).alloc (Nat.le_refl _) _) hg); clear hg; obtain ⟨Ac, nc, cc, rfl, hcv⟩ := ho.conv; clear ho)
      go_ret
      rw [HFL.out]
      exact ⟨rfl, BF.out⟩
end Go.Proofs.YtdeppcddknakjaaGreatDoor.Lab
namespace Go.Proofs.YtdeppcddknakjaaGreatDoor.Lab
open Go.RowKit
/-- Less, of lists of bytes. -/
theorem bl_nil (b : List UInt8) : Op.bytesLess b [] = false := by cases b <;> rfl
theorem bl_cons (x y : UInt8) (a b : List UInt8) : Op.bytesLess (x :: a) (y :: b) = true ↔ x.toNat < y.toNat ∨ (x.toNat = y.toNat ∧ Op.bytesLess a b = true) := by
  rw [Op.bytesLess, Bool.or_eq_true, decide_eq_true_iff, Bool.and_eq_true, beq_iff_eq, UInt8.lt_iff_toNat_lt, UInt8.toNat_inj]
theorem bl_irr : ∀ a : List UInt8, Op.bytesLess a a = false
  | [] => rfl
  | x :: a => by
    rw [← Bool.not_eq_true, bl_cons, bl_irr a]
    simp
theorem bl_trans : ∀ a b c : List UInt8, Op.bytesLess a b = true → Op.bytesLess b c = true → Op.bytesLess a c = true
  | a, [], c, h, _ => by rw [bl_nil] at h; cases h
  | a, y :: b, [], _, h => by rw [bl_nil] at h; cases h
  | [], y :: b, z :: c, _, _ => rfl
  | x :: a, y :: b, z :: c, h, k => by
    rw [bl_cons] at h k ⊢
    rcases h with h | ⟨h, h2⟩ <;> rcases k with k | ⟨k, k2⟩
    · exact .inl (by omega)
    · exact .inl (by omega)
    · exact .inl (by omega)
    · exact .inr ⟨by omega, bl_trans a b c h2 k2⟩
theorem bl_total : ∀ a b : List UInt8, Op.bytesLess a b = false → Op.bytesLess b a = false → a = b
  | [], [], _, _ => rfl
  | [], y :: b, h, _ => by cases h
  | x :: a, [], _, h => by cases h
  | x :: a, y :: b, h, k => by
    rw [← Bool.not_eq_true, bl_cons] at h k
    have e : x.toNat = y.toNat := by
      rcases Nat.lt_trichotomy x.toNat y.toNat with h1 | h1 | h1
      · exact absurd (.inl h1) h
      · exact h1
      · exact absurd (.inl h1) k
    have e2 : x = y := UInt8.toNat_inj.1 e
    subst e2
    have h2 : Op.bytesLess a b = false := by
      rw [← Bool.not_eq_true]; exact fun q => h (.inr ⟨rfl, q⟩)
    have k2 : Op.bytesLess b a = false := by
      rw [← Bool.not_eq_true]; exact fun q => k (.inr ⟨rfl, q⟩)
    rw [bl_total a b h2 k2]
theorem bl_asym {a b : List UInt8} (h : Op.bytesLess a b = true) : Op.bytesLess b a = false := by
  rw [← Bool.not_eq_true]
  intro k
  have := bl_trans a b a h k
  rw [bl_irr] at this
  cases this
/-- A three-way comparison. -/
structure Ord3 {α : Type} (f : α → α → Int) : Prop where
  zero : ∀ a b, f a b = 0 ↔ a = b
  neg : ∀ a b, f b a = - f a b
  lt : ∀ a b c, f a b < 0 → f b c < 0 → f a c < 0
theorem Ord3.self {α : Type} {f : α → α → Int} (h : Ord3 f) (a : α) : f a a = 0 := (h.zero a a).2 rfl
theorem ord_S : Ord3 cmpS := by
  have key : ∀ a b : ByteArray, (Op.bytesLess a.toList b.toList = true ∧ cmpS a b = -1 ∧ cmpS b a = 1 ∧ a ≠ b) ∨ (a = b ∧ cmpS a b = 0) ∨ (Op.bytesLess b.toList a.toList = true ∧ cmpS a b = 1 ∧ cmpS b a = -1 ∧ a ≠ b) := fun a b => by
    have ne : ∀ {a b : ByteArray}, Op.bytesLess a.toList b.toList = true → a ≠ b := fun h e => by rw [e, bl_irr] at h; cases h
    cases h : Op.bytesLess a.toList b.toList with
    | true =>
      have n := ne h
      exact .inl ⟨rfl, cmpS_lt h, cmpS_gt (bl_asym h) (by rw [beq_eq_false_iff_ne]; intro e; rw [e, bl_irr] at h; cases h), n⟩
    | false =>
      cases k : Op.bytesLess b.toList a.toList with
      | true =>
        have n := ne k
        exact .inr (.inr ⟨rfl, cmpS_gt h (by rw [beq_eq_false_iff_ne]; intro e; rw [e, bl_irr] at k; cases k), cmpS_lt k, fun e => n e.symm⟩)
      | false =>
        have e := bl_total _ _ h k
        have e2 : a = b := eqS_iff.1 (by unfold eqS; rw [e]; simp)
        exact .inr (.inl ⟨e2, cmpS_eq h (by rw [e]; simp)⟩)
  refine ⟨fun a b => ?_, fun a b => ?_, fun a b c h1 h2 => ?_⟩
  · rcases key a b with ⟨_, h, _, n⟩ | ⟨e, h⟩ | ⟨_, h, _, n⟩
    · exact ⟨fun k => by omega, fun k => absurd k n⟩
    · exact ⟨fun _ => e, fun _ => h⟩
    · exact ⟨fun k => by omega, fun k => absurd k n⟩
  · rcases key a b with ⟨_, h, h', n⟩ | ⟨e, h⟩ | ⟨_, h, h', n⟩
    · omega
    · subst e; omega
    · omega
  · rcases key a b with ⟨l1, h, _, n⟩ | ⟨e, h⟩ | ⟨_, h, _, n⟩
    · rcases key b c with ⟨l2, k, _, _⟩ | ⟨e, k⟩ | ⟨_, k, _, _⟩
      · rw [cmpS_lt (bl_trans _ _ _ l1 l2)]; omega
      · omega
      · omega
    · omega
    · omega
end Go.Proofs.YtdeppcddknakjaaGreatDoor.Lab
namespace Go.Proofs.YtdeppcddknakjaaGreatDoor.Lab
open Go.RowKit Go.Shelf
attribute [local go_sem] Oper.semAt_some

abbrev encLb (x : Lb) : Array Value := #[.agg #[.string x.n, .string x.v]]
theorem keepL_take {b : Bool} {ns : List ByteArray} {l : List Lb} {k : Nat} : keepL b ns (l.take k) <+: keepL b ns l := by
  unfold keepL
  exact List.IsPrefix.filter _ (List.take_prefix _ _)
/-- What a round of the loop tells the iterator. -/
def yq (T F : World → Prop) (W : World) : Bool → Prop
  | true => T W
  | false => F W
def YQ (T F : World → Prop) (e : Ending) (W : World) : Prop := ∃ q : Bool, e = .returned (.bool q) ∧ yq T F W q
set_option maxRecDepth 100000 in
set_option maxHeartbeats 4000000 in
theorem named1_in (n : Nat) (hn : 1 ≤ n) (lc n₀ bl bn bb : Nat) (b : Bool) (l : List Lb) (hl : l.length ≤ 100000) (ns : List ByteArray) (hns : ns.length ≤ maxLen) (A C : Option Addr) (c d : Nat)
    (J Jx : List Lb → World → Prop) (B : Nat) (hJ : AbidesFrom B J) (W : World) (hB : B ≤ W.heap.size)
    (hY : ∀ pre x W, J pre W → pre.length < l.length → YieldAt Fence.wide (n - 1) Tryz.prog lc (encLb x) W fun e W' =>
      (e = .returned (.bool true) ∧ J (pre ++ [x]) W' ∧ Below n₀ W W') ∨ (e = .returned (.bool false) ∧ Jx (pre ++ [x]) W'))
    (hn0 : n₀ ≤ W.heap.size) (hbl : bl < n₀) (hbn : bn < n₀) (hbb : bb < n₀)
    (h1 : W.cell? ⟨bl, 0, none⟩ = some (.slice A l.length c)) (h2 : W.cell? ⟨bn, 0, none⟩ = some (.slice C ns.length d)) (h3 : W.cell? ⟨bb, 0, none⟩ = some (.bool b))
    (hL : LS W n₀ A l) (hN : SS W n₀ C ns) (h0 : J [] W) :
    CallsIn Fence.wide n Tryz.prog 134 #[.func (.yield lc) #[] #[], .pointer (some ⟨bl, 0, none⟩), .pointer (some ⟨bn, 0, none⟩), .pointer (some ⟨bb, 0, none⟩)] W fun e W' => (∃ v, e = .returned v) ∧
      ((∃ ys, ys = keepL b ns l ∧ J ys W') ∨ (∃ pre, pre <+: keepL b ns l ∧ Jx pre W')) := by
  have HJ := Lib.hid hJ
  have HY := Lib.hid hY
  have HN := Lib.hid hns
  have H2 := Lib.hid h2
  have H3 := Lib.hid h3
  have HL := Lib.hid hL
  have HS := Lib.hid hN
  have H0 := Lib.hid h0
  clear hJ hY hns h2 h3 hL hN h0
  have hmx : Tryz.prog.follows .mixedOrders = true := by kernel_rfl
  refine callsIn_of_wp Tryz.func134 rfl trivial ?_ rfl
  simp only [Tryz.ntmps134, List.size_toArray, List.length_cons, List.length_nil, Nat.reduceAdd, Nat.reduceSub, Array.replicate_succ, Array.replicate_zero, List.push_toArray, List.append_toArray, List.nil_append, List.cons_append]
  gi_wp2
  gi_loopw [9] (fun vi wr => ∃ k : Nat, k ≤ l.length ∧ vi = .int .i64 k ∧ Hid (J (keepL b ns (l.take k)) wr) ∧ Hid (Below n₀ W wr)) (fun vi _ => l.length - (intOf vi).toNat)
  case atStart => exact ⟨0, by omega, rfl, H0, Below.refl _ _⟩
  case round =>
    clear H0
    obtain ⟨k, hk, rfl, HJk, HB⟩ := hrel
    by_cases hlt : k < l.length
    · obtain ⟨ba, off, rfl, hba, h4', h5'⟩ := HL.out.at_ hlt
      have h4 := (HB.out.cell (p := ⟨ba, off + k * 2, none⟩) hba).trans h4'
      have h5 := (HB.out.cell (p := ⟨ba, off + k * 2 + 1, none⟩) hba).trans h5'
      have h2 := (HB.out.cell (p := ⟨bn, 0, none⟩) hbn).trans H2.out
      have h3 := (HB.out.cell (p := ⟨bb, 0, none⟩) hbb).trans H3.out
      have hsz := HB.out.size
      have hbn2 : bn < wr.heap.size := by omega
      have hbb2 : bb < wr.heap.size := by omega
      have hba2 : ba < wr.heap.size := by omega
      clear h4' h5'
      have B1 : Below n₀ wr ((wr.alloc (.cells #[.string l[k].n, .string l[k].v] 51)).drew) := ((Below.refl n₀ wr).alloc (by omega) _).drew
      have CC := Lib.hid (contains_any ns HN.out l[k].n C d n₀ ((wr.alloc (.cells #[.string l[k].n, .string l[k].v] 51)).drew) (HS.out.below (HB.out.trans B1)))
      have HB1 := Lib.hid (HB.out.trans B1)
      have J1 : J (keepL b ns (l.take k)) (wr.alloc (.cells #[.string l[k].n, .string l[k].v] 51)) := HJ.out _ _ _ none HJk.out (World.grownBy_alloc wr _ none) (fun r e => by cases e)
      have J2 : Hid (J (keepL b ns (l.take k)) ((wr.alloc (.cells #[.string l[k].n, .string l[k].v] 51)).drew)) := HJ.out _ _ _ none J1 ⟨rfl, rfl, rfl, Nat.le_refl _, fun _ _ _ => rfl⟩ (fun r e => by cases e)
      have HJk2 := HJk
      clear J1 B1 HJk
      have HLN : Hid ((keepL b ns (l.take k)).length < l.length) := by
        have h1 := keepL_len b ns (l.take k)
        have h2 : (l.take k).length ≤ k := List.length_take_le _ _
        exact (by omega : (keepL b ns (l.take k)).length < l.length)
      by_cases hb : hasB ns l[k].n = b
      · have HE := Lib.hid (keepL_yes hlt hb)
        rw [hb] at CC
        clear hb
        obtain ⟨fn, tmps, assign, body, hy, hR⟩ := HY.out _ l[k] _ J2.out HLN.out
        dsimp only [encLb] at hy
        have HRR := Lib.hid (hR.mono (R' := YQ (fun W' => J (keepL b ns (l.take k) ++ [l[k]]) W' ∧ Below n₀ ((wr.alloc (.cells #[.string l[k].n, .string l[k].v] 51)).drew) W') (fun W' => Jx (keepL b ns (l.take k) ++ [l[k]]) W')) (fun e W' h => by
          rcases h with ⟨rfl, hj, hb⟩ | ⟨rfl, hj⟩
          · exact ⟨true, rfl, ⟨hj, hb⟩⟩
          · exact ⟨false, rfl, hj⟩))
        clear hR J2
        clear HJk2 hsz
        gi_wp2
        gi_region_with_o (first
          | (refine ⟨trivial, ?_⟩; gi_at_call 135; with_reducible refine (callsIn_wide.2 CC.out).mono ?_; rintro e w5 ⟨rfl, rfl⟩)
          | (refine HRR.out.mono ?_; rintro e w5 ⟨q, rfl, hq⟩; have HQ := Lib.hid hq; clear hq))
        all_goals (cases q)
        all_goals gi_wp2
        all_goals first
          | (refine bodyPost_ret (results_none rfl _ _ _) rfl ?_
             exact ⟨⟨_, rfl⟩, .inr ⟨_, HE.out ▸ keepL_take, HQ.out⟩⟩)
          | (go_roundw
             case rel => exact ⟨k + 1, by omega, by go_num, by rw [HE.out]; exact HQ.out.1, HB1.out.trans HQ.out.2⟩
             case measure => simp [intOf]; omega)
      · have hb2 : hasB ns l[k].n = !b := by
          cases b <;> cases hh : hasB ns l[k].n <;> simp_all
        have HE := Lib.hid (keepL_no hlt hb2)
        have hb3 := hb2
        clear hb hb2 HY HLN
        have CQ : Hid (∀ q, Calls Tryz.prog 135 #[.slice C ns.length d, .string l[k].n] ((wr.alloc (.cells #[.string l[k].n, .string l[k].v] 51)).drewN q) fun e w' => e = .returned (.bool (!b)) ∧ (wr.alloc (.cells #[.string l[k].n, .string l[k].v] 51)).drewN q = w') := fun q => by
          rw [← hb3]
          exact contains_any ns HN.out l[k].n C d n₀ _ (HS.out.below (HB.out.trans (((Below.refl n₀ wr).alloc (by omega) _).trans ⟨rfl, rfl, rfl, Nat.le_refl _, fun _ _ => rfl⟩)))
        have JQ : Hid (∀ q, J (keepL b ns (l.take k)) ((wr.alloc (.cells #[.string l[k].n, .string l[k].v] 51)).drewN q)) := fun q => HJ.out _ _ _ none (HJ.out _ _ _ none HJk2.out (World.grownBy_alloc wr _ none) (fun r e => by cases e)) ⟨rfl, rfl, rfl, Nat.le_refl _, fun _ _ _ => rfl⟩ (fun r e => by cases e)
        have BQ : Hid (∀ q, Below n₀ W ((wr.alloc (.cells #[.string l[k].n, .string l[k].v] 51)).drewN q)) := fun q => HB.out.trans (((Below.refl n₀ wr).alloc (by omega) _).trans ⟨rfl, rfl, rfl, Nat.le_refl _, fun _ _ => rfl⟩)
        clear hb3 CC J2 HB1
        cases b
        all_goals simp only [Bool.not_false, Bool.not_true] at CQ
        all_goals
          gi_wp2
          refine wpIn_wide.2 ?_
          go_quiet ((go_at_call 135; first | exact quiet_left (CQ.out _) | exact quiet_add_left (CQ.out _)))
          gi_wp2
          go_roundw
          case rel => exact ⟨k + 1, by omega, by go_num, by rw [HE.out]; exact JQ.out _, BQ.out _⟩
          case measure => simp [intOf]; omega
    · obtain rfl : k = l.length := by omega
      have HF : Hid (J (keepL b ns l) wr) := by
        have h := HJk.out
        rw [List.take_of_length_le (Nat.le_refl _)] at h
        exact h
      clear HJk
      gi_wp2
      go_end0
      exact ⟨⟨_, rfl⟩, .inl ⟨_, rfl, HF.out⟩⟩
/-- named: its arguments are boxed. -/
theorem named_any (A C : Option Addr) (k c m d : Nat) (b : Bool) (w : World) :
    Calls Tryz.prog 100 #[.slice A k c, .slice C m d, .bool b] w fun e w' => e = .returned (.func (.func 134) #[] #[.pointer (some ⟨w.heap.size, 0, none⟩), .pointer (some ⟨w.heap.size + 1, 0, none⟩), .pointer (some ⟨w.heap.size + 1 + 1, 0, none⟩)]) ∧ ((w.alloc (.cells #[.slice A k c] 23)).alloc (.cells #[.slice C m d] 60)).alloc (.cells #[.bool b] 4) = w' := by
  go_enter Tryz.func100, Tryz.ntmps100
  go_wp2
  go_ret
  exact ⟨rfl, rfl⟩
theorem named_stops (n : Nat) (hn : 1 ≤ n) (n₀ bl bn bb : Nat) (b : Bool) (l : List Lb) (hl : l.length ≤ 100000) (ns : List ByteArray) (hns : ns.length ≤ maxLen) (A C : Option Addr) (c d : Nat) (w : World)
    (hn0 : n₀ ≤ w.heap.size) (hbl : bl < n₀) (hbn : bn < n₀) (hbb : bb < n₀)
    (h1 : w.cell? ⟨bl, 0, none⟩ = some (.slice A l.length c)) (h2 : w.cell? ⟨bn, 0, none⟩ = some (.slice C ns.length d)) (h3 : w.cell? ⟨bb, 0, none⟩ = some (.bool b))
    (hL : LS w n₀ A l) (hN : SS w n₀ C ns) :
    SeqStopsK Fence.wide n Tryz.prog 134 #[.pointer (some ⟨bl, 0, none⟩), .pointer (some ⟨bn, 0, none⟩), .pointer (some ⟨bb, 0, none⟩)] encLb (Below n₀) (fun ys => ys = keepL b ns l) (fun pre => pre <+: keepL b ns l) l.length w :=
  fun lc J Jx W hW hJ _ hY h0 => by
    have hk : ∀ q : Addr, q.block < n₀ → W.cell? q = w.cell? q := fun q hq => hW.cell (by omega)
    exact named1_in n hn lc n₀ bl bn bb b l hl ns hns A C c d J Jx W.heap.size hJ W (Nat.le_refl _) hY (Nat.le_trans hn0 hW.size) hbl hbn hbb
      ((hk _ hbl).trans h1) ((hk _ hbn).trans h2) ((hk _ hbb).trans h3) (hL.keep hk) (hN.keep hk) h0
end Go.Proofs.YtdeppcddknakjaaGreatDoor.Lab
namespace Go.Proofs.YtdeppcddknakjaaGreatDoor.Lab
open Go.RowKit Go.Shelf
attribute [local go_sem] Oper.semAt_some
theorem row_own {β : Type} (b : Nat) (t : TypeId) (f : β → Array Value) : Own (fun s W => W.heap[b]? = some (.cells (f s) t (0, 0))) := fun s X Y row hs hg hrow =>
  (hg.block b (Array.getElem?_eq_some_iff.1 hs).1 (fun e' => by obtain ⟨o, ho, hc⟩ := hrow b e'.symm; rw [hs] at ho; cases ho; cases hc)).trans hs
theorem cells1 {W : World} {b : Nat} {x : Value} {t : TypeId} (h : W.heap[b]? = some (.cells #[x] t (0, 0))) : W.cell? ⟨b, 0, none⟩ = some x ∧ W.frozen? ⟨b, 0, none⟩ = false := by
  constructor
  · simp [World.cell?, h]
  · simp [World.frozen?, h]
theorem cells2 {W : World} {b : Nat} {x y : Value} {t : TypeId} (h : W.heap[b]? = some (.cells #[x, y] t (0, 0))) : W.cell? ⟨b, 0, none⟩ = some x ∧ W.cell? ⟨b, 1, none⟩ = some y := by
  constructor <;> simp [World.cell?, h]
theorem hset_cell {W : World} {b : Nat} {x y : Value} {t : TypeId} (h : W.heap[b]? = some (.cells #[x] t (0, 0))) : (W.setCell ⟨b, 0, none⟩ y).heap[b]? = some (.cells #[y] t (0, 0)) := by
  simp [World.setCell, Array.getElem?_modify, h]
theorem getL_none {l : List Lb} {s : ByteArray} (h : keepL true [s] l = []) : getL l s = ⟨#[]⟩ := by
  induction l with
  | nil => rfl
  | cons x r ih =>
    unfold keepL at h
    rw [List.filter_cons] at h
    split at h
    · cases h
    · rename_i hx
      rw [getL, if_neg, ih h]
      intro he
      apply hx
      simp only [hasB, List.any_cons, List.any_nil, Bool.or_false, beq_iff_eq, eqS]
      rw [beq_iff_eq] at he
      exact he.symm
theorem getL_some {l : List Lb} {s : ByteArray} {x : Lb} (h : [x] <+: keepL true [s] l) : getL l s = x.v := by
  induction l with
  | nil => obtain ⟨t, ht⟩ := h; cases ht
  | cons y r ih =>
    unfold keepL at h
    rw [List.filter_cons] at h
    split at h
    · rename_i hx
      obtain ⟨t, ht⟩ := h
      injection ht with h1 h2
      subst h1
      simp only [hasB, List.any_cons, List.any_nil, Bool.or_false, beq_iff_eq, eqS] at hx
      rw [getL, if_pos]
      rw [beq_iff_eq]
      exact hx.symm
    · rename_i hx
      rw [getL, if_neg, ih h]
      intro he
      apply hx
      simp only [hasB, List.any_cons, List.any_nil, Bool.or_false, beq_iff_eq, eqS]
      rw [beq_iff_eq] at he
      exact he.symm
set_option maxRecDepth 100000 in
set_option maxHeartbeats 4000000 in
theorem get_in (l : List Lb) (hl : l.length ≤ 100000) (s : ByteArray) (A : Option Addr) (c : Nat) (w : World) (hL : LS w w.heap.size A l) :
    CallsIn Fence.wide 3 Tryz.prog 72 #[.slice A l.length c, .string s] w fun e W' => e = .returned (.string (getL l s)) ∧ Below w.heap.size w W' := by
  have HL := Lib.hid hL
  clear hL
  obtain ⟨W0, hW0⟩ : ∃ W0, W0 = (((((w.alloc (.cells #[.string ⟨#[]⟩] 9)).alloc (.cells #[.string s] 9)).alloc (.cells #[.slice A l.length c] 23)).alloc (.cells #[.slice (some ⟨w.heap.size + 1, 0, none⟩) 1 1] 60)).alloc (.cells #[.bool true] 4)) := ⟨_, rfl⟩
  have hsz : W0.heap.size = w.heap.size + 5 := by rw [hW0]; simp
  have hB0 : Below w.heap.size w W0 := by rw [hW0]; exact ((((((Below.refl _ w).alloc (Nat.le_refl _) _).alloc (by simp) _).alloc (by simp; omega) _).alloc (by simp; omega) _).alloc (by simp; omega) _)
  have r0 : W0.heap[w.heap.size]? = some (.cells #[.string ⟨#[]⟩] 9 (0, 0)) := by
    rw [hW0]
    rw [Below.heap_alloc _ _ _ (by simp; omega), Below.heap_alloc _ _ _ (by simp; omega), Below.heap_alloc _ _ _ (by simp; omega), Below.heap_alloc _ _ _ (by simp)]
    exact World.alloc_heap_new _ _
  have q1 : W0.cell? ⟨w.heap.size + 1 + 1, 0, none⟩ = some (.slice A l.length c) := by rw [hW0]; go_simp
  have q2 : W0.cell? ⟨w.heap.size + 1 + 1 + 1, 0, none⟩ = some (.slice (some ⟨w.heap.size + 1, 0, none⟩) 1 1) := by rw [hW0]; go_simp
  have q3 : W0.cell? ⟨w.heap.size + 1 + 1 + 1 + 1, 0, none⟩ = some (.bool true) := by rw [hW0]; go_simp
  have q4 : SS W0 W0.heap.size (some ⟨w.heap.size + 1, 0, none⟩) [s] := fun _ => ⟨_, 0, rfl, by omega, fun j hj => by
    have : j = 0 := by simpa using hj
    subst this
    rw [hW0]
    go_simp⟩
  have q5 : LS W0 W0.heap.size A l := (HL.out.below hB0).more hB0.size
  have ST := Lib.hid (named_stops 2 (by omega) W0.heap.size (w.heap.size + 1 + 1) (w.heap.size + 1 + 1 + 1) (w.heap.size + 1 + 1 + 1 + 1) true l hl [s] (by unfold maxLen; simp) A (some ⟨w.heap.size + 1, 0, none⟩) c 1 W0 (Nat.le_refl _) (by omega) (by omega) (by omega) q1 q2 q3 q5 q4)
  have H0 := Lib.hid hB0
  have R0 := Lib.hid r0
  clear q1 q2 q3 q4 q5 hB0 r0
  refine callsIn_of_wp_marks Tryz.func72 rfl trivial ?_ rfl
  simp only [Tryz.ntmps72, List.size_toArray, List.length_cons, List.length_nil, Nat.reduceAdd, Nat.reduceSub, Array.replicate_succ, Array.replicate_zero, List.push_toArray, List.append_toArray, List.nil_append, List.cons_append]
  gi_wp2_with (refine ⟨trivial, ?_⟩; gi_at_call 100; with_reducible refine (callsIn_wide.2 (named_any _ _ _ _ _ _ _ _)).mono ?_; rintro e w' ⟨rfl, rfl⟩)
  rw [← hW0]
  clear hW0
  refine wpIn_rangeFunc_ownH rfl (by omega) (gf := 134) (lb := #[.pointer (some ⟨w.heap.size + 1 + 1, 0, none⟩), .pointer (some ⟨w.heap.size + 1 + 1 + 1, 0, none⟩), .pointer (some ⟨w.heap.size + 1 + 1 + 1 + 1, 0, none⟩)]) rfl trivial (enters_of Tryz.func134 (by kernel_rfl) rfl)
    ST.out (fun h k => h.trans k) (fun W l o o' hl h hc _ => (belowK_b (w := W0) (Nat.le_refl _) W l o o' hl h hc ‹_›)) (Below.refl _ _) (fun _ => rfl)
    (fun pre W => pre = [] ∧ Below W0.heap.size W0 W)
    (fun cc pre W => (cc = .ret ∧ ∃ x, pre = [x] ∧ W.heap[w.heap.size]? = some (.cells #[.string x.v] 9 (0, 0))) ∧ Below w.heap.size w W)
    (fun s A B row h hg hr => ⟨h.1, ownFrom_below (β := Unit) (Nat.le_refl _) (Nat.le_refl _) () A B row h.2 hg hr⟩)
    (fun cc => OwnFrom.and (Own.from (fun s A B row h hg hr => by
      obtain ⟨h1, x, h2, h3⟩ := h
      exact ⟨h1, x, h2, row_own (β := Unit) _ _ (fun _ => _) () A B row h3 hg hr⟩) _) (ownFrom_below (Nat.le_refl _) (by omega)))
    ⟨rfl, Below.refl _ _⟩
    (fun x a' W => ∃ Bx, w.heap.size + 5 ≤ Bx ∧ W.heap[Bx]? = some (.cells #[.string x.n, .string x.v] 51 (0, 0)) ∧ a' = { tmps := #[.slice A l.length c, .string s, undef, undef, .pointer (some ⟨w.heap.size, 0, none⟩), .pointer (some ⟨Bx, 0, none⟩), .slice A l.length c, .string s, .slice (some ⟨w.heap.size + 1, 0, none⟩) 1 1, .func (.func 134) #[] #[.pointer (some ⟨w.heap.size + 1 + 1, 0, none⟩), .pointer (some ⟨w.heap.size + 1 + 1 + 1, 0, none⟩), .pointer (some ⟨w.heap.size + 1 + 1 + 1 + 1, 0, none⟩)], .agg #[.string x.n, .string x.v], undef, undef], defers := [] })
    (fun x a' _ A B row hs hg hr => by
      obtain ⟨Bx, i1, i2, i3⟩ := hs
      exact ⟨Bx, i1, row_own (β := Unit) Bx _ (fun _ => _) () A B row i2 hg (fun r e => (hr r e).2), i3⟩)
    ?assign ?body ?done ?stop
  case assign =>
    rintro lc pre x W K ⟨rfl, i2⟩ hK
    have hle := i2.size
    gi_wp2
    exact hK _ _ ((KeepsOthers.alloc _ _).from _) ((Below.refl _ _).alloc hle _) ⟨trivial, i2.alloc hle _⟩ ⟨W.heap.size, by omega, World.alloc_heap_new _ _, rfl⟩
  case body =>
    rintro lc pre x a' W hl0 _ ⟨rfl, i2⟩ ⟨Bx, j1, j2, rfl⟩ hlt
    obtain ⟨u0, u1⟩ := cells2 j2
    have i1 := (i2.block w.heap.size (by omega)).trans R0.out
    obtain ⟨v0, v1⟩ := cells1 i1
    have hBx : Bx ≠ w.heap.size := by omega
    gi_wp2
    exact ⟨(KeepsOthers.setCell _ _ _).from _, ⟨rfl, x, rfl, hset_cell i1⟩, (H0.out.trans (i2.mono (by omega))).setCell (Nat.le_refl _) _⟩
  case done =>
    rintro D ys W hD hys ⟨rfl, i2⟩ hK
    have i1 := (i2.block w.heap.size (by omega)).trans R0.out
    obtain ⟨v0, v1⟩ := cells1 i1
    have HG := Lib.hid (getL_none hys.symm)
    clear hys
    gi_wp2
    have hK' := (KeepsOthers.setCell W ⟨w.heap.size, 0, none⟩ (.string ⟨#[]⟩)).same D _ hK rfl
    refine ⟨by simp, .inl ⟨_, _, rfl, run_takeDeferred hK', ?_⟩⟩
    have hc5 := cell_kept (cells1 (hset_cell (y := .string ⟨#[]⟩) i1)).1 (grownBy_putObj' _ D (.deferred none)) (fun r e => by cases e; exact ⟨_, hK', rfl⟩)
    refine ⟨.string ⟨#[]⟩, ?_, by rw [HG.out], ((H0.out.trans (i2.mono (by omega))).setCell (p := ⟨w.heap.size, 0, none⟩) (Nat.le_refl _) _).trans (belowK_b (w := w) (Nat.le_refl _) _ D _ _ (by omega) hK' rfl rfl)⟩
    simp [results, Tryz.f72, go_sem, hc5]
  case stop =>
    rintro D cc pre W hD hpre ⟨⟨rfl, x, rfl, i1⟩, i2⟩ hK
    have HG := Lib.hid (getL_some hpre)
    clear hpre
    gi_wp2
    refine ⟨by simp, .inl ⟨_, _, rfl, run_takeDeferred hK, ?_⟩⟩
    have hc5 := cell_kept (cells1 i1).1 (grownBy_putObj' _ D (.deferred none)) (fun r e => by cases e; exact ⟨_, hK, rfl⟩)
    refine ⟨.string x.v, ?_, by rw [HG.out], i2.trans (belowK_b (w := w) (Nat.le_refl _) _ D _ _ (by omega) hK rfl rfl)⟩
    simp [results, Tryz.f72, go_sem, hc5]
theorem get_any (l : List Lb) (hl : l.length ≤ 100000) (s : ByteArray) (A : Option Addr) (c : Nat) (w : World) (hL : LS w w.heap.size A l) :
    Calls Tryz.prog 72 #[.slice A l.length c, .string s] w fun e W' => e = .returned (.string (getL l s)) ∧ Below w.heap.size w W' :=
  callsIn_wide.1 (get_in l hl s A c w hL)
end Go.Proofs.YtdeppcddknakjaaGreatDoor.Lab
namespace Go.Proofs.YtdeppcddknakjaaGreatDoor.Lab
open Go.RowKit
/-- What came in is as it was. -/
def RB (w0 V : World) : Prop := Below w0.heap.size w0 V
theorem RB.refl (w : World) : RB w w := Below.refl _ _
theorem RB.step {w0 V w' : World} (h : RB w0 V) (hb : Below V.heap.size V w') : RB w0 w' := Below.trans h (hb.mono h.size)
theorem RB.alloc {w0 V : World} (h : RB w0 V) (o : Obj) : RB w0 (V.alloc o) := Below.alloc h h.size o
theorem RB.drew {w0 V : World} (h : RB w0 V) : RB w0 V.drew := Below.drew h
theorem RB.drewN {w0 V : World} (h : RB w0 V) (n : Nat) : RB w0 (V.drewN n) := below_drewN h n
theorem LS.rb {w0 V : World} {A : Option Addr} {l : List Lb} (h : LS w0 w0.heap.size A l) (hb : RB w0 V) : LS V V.heap.size A l := (h.below hb).more hb.size
theorem SS.rb {w0 V : World} {A : Option Addr} {l : List ByteArray} (h : SS w0 w0.heap.size A l) (hb : RB w0 V) : SS V V.heap.size A l := (h.below hb).more hb.size
/-- Small enough. -/
structure Sm (l : List Lb) : Prop where
  len : l.length ≤ 17
  sz : ∀ x ∈ l, x.n.size ≤ 300 ∧ x.v.size ≤ 300
theorem Sm.nil : Sm [] := ⟨by simp, by simp⟩
theorem Sm.max {l : List Lb} (h : Sm l) : ∀ x ∈ l, x.n.size ≤ maxLen ∧ x.v.size ≤ maxLen := fun x hx => by have := h.sz x hx; unfold maxLen; omega
theorem Sm.keep {l : List Lb} (h : Sm l) (b : Bool) (ns : List ByteArray) : Sm (keepL b ns l) := ⟨Nat.le_trans (keepL_len b ns l) h.len, fun x hx => h.sz x (List.mem_filter.1 hx).1⟩
theorem chkL_cons {o : Option ByteArray} {x : Lb} {r : List Lb} (h : chkL o (x :: r) = 0) : nameB x.n = true ∧ 0 < x.v.size ∧ x.v.size ≤ 200 ∧ leP x.n o = false ∧ chkL (some x.n) r = 0 := by
  rw [chkL] at h
  split at h
  · exact absurd h (by decide)
  · rename_i h1
    split at h
    · exact absurd h (by decide)
    · split at h
      · exact absurd h (by decide)
      · split at h
        · exact absurd h (by decide)
        · rename_i h4
          exact ⟨by simpa using h1, by omega, by omega, by simpa using h4, h⟩
theorem chkL_mk {o : Option ByteArray} {x : Lb} {r : List Lb} (h1 : nameB x.n = true) (h2 : 0 < x.v.size) (h3 : x.v.size ≤ 200) (h4 : leP x.n o = false) (h5 : chkL (some x.n) r = 0) : chkL o (x :: r) = 0 := by
  rw [chkL, if_neg (by simp [h1]), if_neg (by omega), if_neg (by omega), if_neg (by simp [h4]), h5]
section
variable {w0 V : World}
def MadePost (w0 : World) (l : List Lb) (e : Ending) (w' : World) : Prop := ∃ A c, e = .returned (.slice A l.length c) ∧ LS w' w'.heap.size A l ∧ RB w0 w'
theorem MadePost.of {l : List Lb} {e : Ending} {w' : World} (h0 : RB w0 V) (h : OwnPost l V e w') : MadePost w0 l e w' := by
  obtain ⟨v, rfl, ho, hb⟩ := h
  obtain ⟨A, c, rfl, hl⟩ := ho.form
  exact ⟨A, c, rfl, hl, h0.step hb⟩
end
end Go.Proofs.YtdeppcddknakjaaGreatDoor.Lab
namespace Go.Proofs.YtdeppcddknakjaaGreatDoor.Lab
open Go.RowKit
theorem chk_len {l : List Lb} (h : chk l = 0) : l.length ≤ 16 ∧ chkL none l = 0 := by
  unfold chk at h
  split at h
  · exact absurd h (by decide)
  · exact ⟨by omega, h⟩
theorem chk_of {l : List Lb} (h : l.length ≤ 16) (h2 : chkL none l = 0) : chk l = 0 := by unfold chk; rw [if_neg (by omega), h2]
end Go.Proofs.YtdeppcddknakjaaGreatDoor.Lab
namespace Go.Proofs.YtdeppcddknakjaaGreatDoor.Lab
open Go.RowKit
theorem getL_cons (x : Lb) (r : List Lb) (s : ByteArray) : getL (x :: r) s = if eqS x.n s = true then x.v else getL r s := rfl
theorem one_chk {n : ByteArray} (h : chk [⟨n, ⟨#[120]⟩⟩] = 0) : nameB n = true := (chkL_cons (chk_len h).2).1
end Go.Proofs.YtdeppcddknakjaaGreatDoor.Lab
