/- Layer 5: lists that a call makes; Keep, Drop and With of the reference. -/
import Derived.WalkSmall
import Derived.Laws.AppendOwnNone
import Derived.Maps.AppendAt
import Derived.OwnWalk
import Derived.RangeFuncBox
import Derived.Test.YtbphhdmnfepbnaaLE
set_option linter.unusedVariables false
set_option linter.unusedSimpArgs false
namespace Go.Proofs.Ytbphhdmnfepbnaa.Lab
open Go.RowKit
theorem info29 : (Try.prog.info? 29).map (fun i => (i.zero, i.size, i.bytes)) = some (some (.agg #[.string ⟨#[]⟩, .string ⟨#[]⟩]), 2, 32) := by kernel_rfl
/-- The cells of a list of labels. -/
def cellsL (l : List Lb) : List Value := l.flatMap fun x => [.string x.n, .string x.v]
theorem cellsL_nil : cellsL [] = [] := rfl
theorem cellsL_append (a b : List Lb) : cellsL (a ++ b) = cellsL a ++ cellsL b := by simp [cellsL]
theorem cellsL_one (x : Lb) : cellsL [x] = [.string x.n, .string x.v] := by simp [cellsL]
theorem cellsL_length : ∀ l : List Lb, (cellsL l).length = l.length * 2
  | [] => rfl
  | x :: r => by
    have h := cellsL_length r
    rw [show x :: r = [x] ++ r from rfl, cellsL_append, List.length_append, h, cellsL_one]
    simp
    omega
theorem cellsL_at : ∀ (l : List Lb) (j : Nat) (hj : j < l.length), (cellsL l)[j * 2]? = some (.string l[j].n) ∧ (cellsL l)[j * 2 + 1]? = some (.string l[j].v)
  | [], j, hj => by simp at hj
  | x :: r, 0, _ => by
    have e0 : cellsL (x :: r) = .string x.n :: .string x.v :: cellsL r := by rw [show x :: r = [x] ++ r from rfl, cellsL_append, cellsL_one]; rfl
    rw [e0]
    exact ⟨rfl, rfl⟩
  | x :: r, j + 1, hj => by
    have h := cellsL_at r j (by simpa using hj)
    have e0 : cellsL (x :: r) = .string x.n :: .string x.v :: cellsL r := by rw [show x :: r = [x] ++ r from rfl, cellsL_append, cellsL_one]; rfl
    have e1 : (j + 1) * 2 = j * 2 + 1 + 1 := by omega
    rw [e0, e1]
    exact h
theorem cellsL_one' (l : List Lb) : ∀ u ∈ cellsL l, u.oneCell' = true := by
  intro u hu
  simp only [cellsL, List.mem_flatMap, List.mem_cons, List.not_mem_nil, or_false] at hu
  obtain ⟨x, _, rfl | rfl⟩ := hu <;> rfl
/-- v owns the labels l. -/
def Own5 (w : World) (B : Nat) (v : Value) (l : List Lb) : Prop := w.ownsRow B 29 2 v l.length (cellsL l)
theorem Own5.form {w : World} {B : Nat} {v : Value} {l : List Lb} (h : Own5 w B v l) : ∃ A c, v = .slice A l.length c ∧ LS w w.heap.size A l := by
  rcases h.2 with ⟨rfl, h0⟩ | ⟨g, cap, cur, rfl, hr⟩
  · refine ⟨none, 0, by rw [h0], fun hne => absurd (List.length_eq_zero_iff.1 h0) hne⟩
  · refine ⟨_, _, rfl, fun hne => ⟨g, 0, rfl, (World.ownsRow.lt h g rfl).2, fun j hj => ?_⟩⟩
    have hc := World.ownsRow.cells (g := g) h rfl
    have h1 := hc (j * 2) _ (cellsL_at l j hj).1
    have h2 := hc (j * 2 + 1) _ (cellsL_at l j hj).2
    have e : ∀ i, (⟨g, 0, none⟩ : Addr).add i = ⟨g, 0 + i, none⟩ := fun i => by cases i <;> simp [Addr.add]
    rw [e] at h1 h2
    exact ⟨h1, h2⟩
theorem Own5.below {w w' : World} {B : Nat} {v : Value} {l : List Lb} (h : Own5 w B v l) (hb : Below w.heap.size w w') : Own5 w' B v l := by
  refine ⟨h.1, ?_⟩
  rcases h.2 with h0 | ⟨g, cap, cur, e, h1, h2, h3⟩
  · exact .inl h0
  · exact .inr ⟨g, cap, cur, e, h1, (hb.block g (by have := (World.ownsRow.lt h g (by rw [e]; rfl)).2; omega)).trans h2, h3⟩
theorem Own5.more {w : World} {B B' : Nat} {v : Value} {l : List Lb} (h : Own5 w B v l) (hB : B' ≤ B) : Own5 w B' v l := by
  refine ⟨h.1, ?_⟩
  rcases h.2 with h0 | ⟨g, cap, cur, e, h1, h3⟩
  · exact .inl h0
  · exact .inr ⟨g, cap, cur, e, by omega, h3⟩
/-- What a call hands back that makes the labels l. -/
def OwnPost (l : List Lb) (w : World) (e : Ending) (w' : World) : Prop := ∃ v, e = .returned v ∧ Own5 w' w.heap.size v l ∧ Below w.heap.size w w'
/-- Keep, Drop. -/
def keepL (b : Bool) (names : List ByteArray) (l : List Lb) : List Lb := l.filter fun x => hasB names x.n == b
theorem keepL_len (b : Bool) (names : List ByteArray) (l : List Lb) : (keepL b names l).length ≤ l.length := List.length_filter_le _ _
theorem take_snocL {α : Type} (l : List α) {k : Nat} (h : k < l.length) : l.take (k + 1) = l.take k ++ [l[k]] := by
  rw [List.take_add_one, List.getElem?_eq_getElem h]; rfl
theorem keepL_yes {b : Bool} {names : List ByteArray} {l : List Lb} {k : Nat} (hk : k < l.length) (h : hasB names l[k].n = b) : keepL b names (l.take (k + 1)) = keepL b names (l.take k) ++ [l[k]] := by
  unfold keepL
  rw [take_snocL l hk, List.filter_append, List.filter_cons, if_pos (by simp [h])]; rfl
theorem keepL_no {b : Bool} {names : List ByteArray} {l : List Lb} {k : Nat} (hk : k < l.length) (h : hasB names l[k].n = !b) : keepL b names (l.take (k + 1)) = keepL b names (l.take k) := by
  unfold keepL
  rw [take_snocL l hk, List.filter_append, List.filter_cons, if_neg (by simp [h])]
  simp
theorem own5_snoc {w : World} {B : Nat} {v : Value} {l : List Lb} {x : Lb} (h : w.ownsRow B 29 2 v (l.length + 1) (cellsL l ++ [.string x.n, .string x.v])) : Own5 w B v (l ++ [x]) := by
  unfold Own5
  rw [List.length_append, cellsL_append, cellsL_one]
  exact h
set_option maxHeartbeats 2000000 in
theorem refKeep_any (l : List Lb) (hl : l.length ≤ 100000) (A : Option Addr) (c : Nat) (ns : List ByteArray) (hns : ns.length ≤ maxLen) (C : Option Addr) (d : Nat) (w : World) (hA : LS w w.heap.size A l) (hC : SS w w.heap.size C ns) :
    Calls Try.prog 20 #[.slice A l.length c, .slice C ns.length d] w (OwnPost (keepL true ns l) w) := by
  have HA := Lib.hid hA
  have HC := Lib.hid hC
  have HN := Lib.hid hns
  clear hA hC hns
  obtain ⟨i0, hi, hz0, hz1, hz2⟩ := info_parts info29
  have O0 : Hid (Own5 (w.alloc (.cells #[] 29)) w.heap.size (.slice (some ⟨w.heap.size, 0, none⟩) 0 0) []) := World.ownsRow_made w #[] 0 (Nat.le_refl _) (by unfold maxLen; omega) (by simp)
  have B0 : Hid (Below w.heap.size w (w.alloc (.cells #[] 29))) := (Below.refl _ _).alloc (Nat.le_refl _) _
  go_enter Try.func20, Try.ntmps20
  go_wp2
  go_loopw [5, 6] (fun vo vi wr => ∃ k : Nat, k ≤ l.length ∧ vi = .int .i64 k ∧ Hid (Own5 wr w.heap.size vo (keepL true ns (l.take k))) ∧ Hid (Below w.heap.size w wr)) (fun _ vi _ => l.length - (intOf vi).toNat)
  case atStart => exact ⟨0, by omega, rfl, O0, B0⟩
  case round =>
    clear O0 B0
    obtain ⟨k, hk, rfl, HO, HB⟩ := hrel
    by_cases hlt : k < l.length
    · obtain ⟨bl, off, rfl, hbl, h1', h2'⟩ := HA.out.at_ hlt
      have h1 := (HB.out.cell (p := ⟨bl, off + k * 2, none⟩) hbl).trans h1'
      have h2 := (HB.out.cell (p := ⟨bl, off + k * 2 + 1, none⟩) hbl).trans h2'
      clear h1' h2'
      have CC := Lib.hid (refHas_any ns HN.out l[k].n C d w.heap.size wr (HC.out.below HB.out))
      cases hb : hasB ns l[k].n with
      | true =>
        have HE := Lib.hid (keepL_yes (b := true) hlt hb)
        rw [hb] at CC
        clear hb
        obtain ⟨m, hm⟩ : ∃ m, keepL true ns (l.take k) = m := ⟨_, rfl⟩
        have hml : m.length ≤ l.length := by rw [← hm]; exact Nat.le_trans (keepL_len _ _ _) (List.length_take_le' _ _)
        rw [hm] at HO HE
        clear hm
        generalize l[k] = x at *
        go_wp2_with (first
          | (go_at_call 43; (with_reducible refine CC.out.mono ?_); rintro e w1 ⟨rfl, rfl⟩)
          | (at_builtin; refine wpList_append_own _ rfl (.tmp 21) (.tmp 26) 22 rfl w.heap.size 29 i0 _ 2 32 Try.underlying22 hi hz0 hz1 hz2 rfl (by decide) _ _ _ rfl (HO.out.below ((Below.refl _ _).alloc (Nat.le_refl _) _)) ⟨wr.heap.size, 0, none⟩ 1 1 [.string x.n, .string x.v] rfl rfl (cell_two_new _ _ _ _) (by simp [Value.oneCell']) (by simp only [maxLen]; omega) (by omega) (by have := HB.out.size; simp; omega) ?_; intro v' w1 hown' hgrow _; have HO' := Lib.hid hown'; have HG := Lib.hid hgrow; clear hown' hgrow))
        have B1 : Hid (Below w.heap.size w w1) := (HB.out.alloc HB.out.size _).grown HG.out (by have := HB.out.size; simp; omega) (fun g e => (World.ownsRow.lt HO.out g e).1)
        go_roundw
        case rel => exact ⟨k + 1, by omega, by go_num, by rw [HE.out]; exact own5_snoc HO'.out, B1⟩
        case measure => simp [intOf]; omega
      | false =>
        have HE := Lib.hid (keepL_no (b := true) hlt hb)
        rw [hb] at CC
        clear hb
        go_wp2_with (go_at_call 43; (with_reducible refine CC.out.mono ?_); rintro e w1 ⟨rfl, rfl⟩)
        go_roundw
        case rel => exact ⟨k + 1, by omega, by go_num, by rw [HE.out]; exact HO.out, HB⟩
        case measure => simp [intOf]; omega
    · have HO2 : Hid (Own5 wr w.heap.size u5 (keepL true ns l)) := by
        have h := HO.out
        rw [List.take_of_length_le (by omega)] at h
        exact h
      clear HO
      go_wp2
      go_ret
      exact ⟨_, rfl, HO2.out, HB.out⟩
set_option maxHeartbeats 2000000 in
theorem refDrop_any (l : List Lb) (hl : l.length ≤ 100000) (A : Option Addr) (c : Nat) (ns : List ByteArray) (hns : ns.length ≤ maxLen) (C : Option Addr) (d : Nat) (w : World) (hA : LS w w.heap.size A l) (hC : SS w w.heap.size C ns) :
    Calls Try.prog 22 #[.slice A l.length c, .slice C ns.length d] w (OwnPost (keepL false ns l) w) := by
  have HA := Lib.hid hA
  have HC := Lib.hid hC
  have HN := Lib.hid hns
  clear hA hC hns
  obtain ⟨i0, hi, hz0, hz1, hz2⟩ := info_parts info29
  have O0 : Hid (Own5 (w.alloc (.cells #[] 29)) w.heap.size (.slice (some ⟨w.heap.size, 0, none⟩) 0 0) []) := World.ownsRow_made w #[] 0 (Nat.le_refl _) (by unfold maxLen; omega) (by simp)
  have B0 : Hid (Below w.heap.size w (w.alloc (.cells #[] 29))) := (Below.refl _ _).alloc (Nat.le_refl _) _
  go_enter Try.func22, Try.ntmps22
  go_wp2
  go_loopw [5, 6] (fun vo vi wr => ∃ k : Nat, k ≤ l.length ∧ vi = .int .i64 k ∧ Hid (Own5 wr w.heap.size vo (keepL false ns (l.take k))) ∧ Hid (Below w.heap.size w wr)) (fun _ vi _ => l.length - (intOf vi).toNat)
  case atStart => exact ⟨0, by omega, rfl, O0, B0⟩
  case round =>
    clear O0 B0
    obtain ⟨k, hk, rfl, HO, HB⟩ := hrel
    by_cases hlt : k < l.length
    · obtain ⟨bl, off, rfl, hbl, h1', h2'⟩ := HA.out.at_ hlt
      have h1 := (HB.out.cell (p := ⟨bl, off + k * 2, none⟩) hbl).trans h1'
      have h2 := (HB.out.cell (p := ⟨bl, off + k * 2 + 1, none⟩) hbl).trans h2'
      clear h1' h2'
      have CC := Lib.hid (refHas_any ns HN.out l[k].n C d w.heap.size wr (HC.out.below HB.out))
      cases hb : hasB ns l[k].n with
      | false =>
        have HE := Lib.hid (keepL_yes (b := false) hlt hb)
        rw [hb] at CC
        clear hb
        obtain ⟨m, hm⟩ : ∃ m, keepL false ns (l.take k) = m := ⟨_, rfl⟩
        have hml : m.length ≤ l.length := by rw [← hm]; exact Nat.le_trans (keepL_len _ _ _) (List.length_take_le' _ _)
        rw [hm] at HO HE
        clear hm
        generalize l[k] = x at *
        go_wp2_with (first
          | (go_at_call 43; (with_reducible refine CC.out.mono ?_); rintro e w1 ⟨rfl, rfl⟩)
          | (at_builtin; refine wpList_append_own _ rfl (.tmp 22) (.tmp 27) 22 rfl w.heap.size 29 i0 _ 2 32 Try.underlying22 hi hz0 hz1 hz2 rfl (by decide) _ _ _ rfl (HO.out.below ((Below.refl _ _).alloc (Nat.le_refl _) _)) ⟨wr.heap.size, 0, none⟩ 1 1 [.string x.n, .string x.v] rfl rfl (cell_two_new _ _ _ _) (by simp [Value.oneCell']) (by simp only [maxLen]; omega) (by omega) (by have := HB.out.size; simp; omega) ?_; intro v' w1 hown' hgrow _; have HO' := Lib.hid hown'; have HG := Lib.hid hgrow; clear hown' hgrow))
        have B1 : Hid (Below w.heap.size w w1) := (HB.out.alloc HB.out.size _).grown HG.out (by have := HB.out.size; simp; omega) (fun g e => (World.ownsRow.lt HO.out g e).1)
        go_roundw
        case rel => exact ⟨k + 1, by omega, by go_num, by rw [HE.out]; exact own5_snoc HO'.out, B1⟩
        case measure => simp [intOf]; omega
      | true =>
        have HE := Lib.hid (keepL_no (b := false) hlt hb)
        rw [hb] at CC
        clear hb
        go_wp2_with (go_at_call 43; (with_reducible refine CC.out.mono ?_); rintro e w1 ⟨rfl, rfl⟩)
        go_roundw
        case rel => exact ⟨k + 1, by omega, by go_num, by rw [HE.out]; exact HO.out, HB⟩
        case measure => simp [intOf]; omega
    · have HO2 : Hid (Own5 wr w.heap.size u5 (keepL false ns l)) := by
        have h := HO.out
        rw [List.take_of_length_le (by omega)] at h
        exact h
      clear HO
      go_wp2
      go_ret
      exact ⟨_, rfl, HO2.out, HB.out⟩
end Go.Proofs.Ytbphhdmnfepbnaa.Lab
