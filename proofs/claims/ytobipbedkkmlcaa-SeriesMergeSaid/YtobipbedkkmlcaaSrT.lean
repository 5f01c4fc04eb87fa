/- Layer 11: lists that a call makes; the reference's Slice. -/
import Derived.WalkSmall
import Derived.Laws.AppendOwnNone
import Derived.Maps.AppendAt
import Derived.OwnWalk
import Derived.RangeFuncBox
import Derived.Test.YtobipbedkkmlcaaSrS
set_option linter.unusedVariables false
set_option linter.unusedSimpArgs false
namespace Go.Proofs.Ytobipbedkkmlcaa.Sr
open Go.RowKit
theorem infoS : (Try.prog.info? 33).map (fun i => (i.zero, i.size, i.bytes)) = some (some (.agg #[.int .i64 0, .int .i64 0]), 2, 16) := by kernel_rfl
/-- The cells of a list of samples. -/
def cellsL (l : List S) : List Value := l.flatMap fun x => [.int .i64 x.1, .int .i64 x.2]
theorem cellsL_nil : cellsL [] = [] := rfl
theorem cellsL_append (a b : List S) : cellsL (a ++ b) = cellsL a ++ cellsL b := by simp [cellsL]
theorem cellsL_one (x : S) : cellsL [x] = [.int .i64 x.1, .int .i64 x.2] := by simp [cellsL]
theorem cellsL_cons (x : S) (r : List S) : cellsL (x :: r) = .int .i64 x.1 :: .int .i64 x.2 :: cellsL r := by simp [cellsL]
theorem cellsL_length : ∀ l : List S, (cellsL l).length = l.length * 2
  | [] => rfl
  | x :: r => by
    have h := cellsL_length r
    rw [cellsL_cons, List.length_cons, List.length_cons, List.length_cons, h]
    omega
theorem cellsL_at : ∀ (l : List S) (j : Nat) (hj : j < l.length), (cellsL l)[j * 2]? = some (.int .i64 l[j].1) ∧ (cellsL l)[j * 2 + 1]? = some (.int .i64 l[j].2)
  | [], j, hj => by simp at hj
  | x :: r, 0, _ => by
    rw [cellsL_cons]
    exact ⟨rfl, rfl⟩
  | x :: r, j + 1, hj => by
    have h := cellsL_at r j (by simpa using hj)
    have e1 : (j + 1) * 2 = j * 2 + 1 + 1 := by omega
    rw [cellsL_cons, e1]
    exact h
theorem cellsL_one' (l : List S) : ∀ u ∈ cellsL l, u.oneCell' = true := by
  intro u hu
  simp only [cellsL, List.mem_flatMap, List.mem_cons, List.not_mem_nil, or_false] at hu
  obtain ⟨x, _, rfl | rfl⟩ := hu <;> rfl
/-- v owns the samples l. -/
def OwnS (w : World) (B : Nat) (v : Value) (l : List S) : Prop := w.ownsRow B 33 2 v l.length (cellsL l)
theorem OwnS.form {w : World} {B : Nat} {v : Value} {l : List S} (h : OwnS w B v l) : ∃ A c, v = .slice A l.length c ∧ LS w w.heap.size A l := by
  rcases h.2 with ⟨rfl, h0⟩ | ⟨g, cap, cur, rfl, hr⟩
  · refine ⟨none, 0, by rw [h0], fun hne => absurd (List.length_eq_zero_iff.1 h0) hne⟩
  · refine ⟨_, _, rfl, fun hne => ⟨g, 0, rfl, (World.ownsRow.lt h g rfl).2, fun j hj => ?_⟩⟩
    have hc := World.ownsRow.cells (g := g) h rfl
    have h1 := hc (j * 2) _ (cellsL_at l j hj).1
    have h2 := hc (j * 2 + 1) _ (cellsL_at l j hj).2
    have e : ∀ i, (⟨g, 0, none⟩ : Addr).add i = ⟨g, 0 + i, none⟩ := fun i => by cases i <;> simp [Addr.add]
    rw [e] at h1 h2
    exact ⟨h1, h2⟩
theorem OwnS.below {w w' : World} {B : Nat} {v : Value} {l : List S} (h : OwnS w B v l) (hb : Below w.heap.size w w') : OwnS w' B v l := by
  refine ⟨h.1, ?_⟩
  rcases h.2 with h0 | ⟨g, cap, cur, e, h1, h2, h3⟩
  · exact .inl h0
  · exact .inr ⟨g, cap, cur, e, h1, (hb.block g (by have := (World.ownsRow.lt h g (by rw [e]; rfl)).2; omega)).trans h2, h3⟩
theorem OwnS.more {w : World} {B B' : Nat} {v : Value} {l : List S} (h : OwnS w B v l) (hB : B' ≤ B) : OwnS w B' v l := by
  refine ⟨h.1, ?_⟩
  rcases h.2 with h0 | ⟨g, cap, cur, e, h1, h3⟩
  · exact .inl h0
  · exact .inr ⟨g, cap, cur, e, by omega, h3⟩
/-- What a call hands back that makes the samples l. -/
def OwnPost (l : List S) (w : World) (e : Ending) (w' : World) : Prop := ∃ v, e = .returned v ∧ OwnS w' w.heap.size v l ∧ Below w.heap.size w w'
/-- The same with an error beside it. -/
def OwnPost2 (r : List S × Nat) (w : World) (e : Ending) (w' : World) : Prop := ∃ v, e = .returned (.tuple #[v, .int .i64 (r.2 : Int)]) ∧ OwnS w' w.heap.size v r.1 ∧ Below w.heap.size w w'
theorem slc_yes {l : List S} {f t : Int} {k : Nat} (hk : k < l.length) (h1 : f < l[k].1) (h2 : l[k].1 ≤ t) : slcL (l.take (k + 1)) f t = slcL (l.take k) f t ++ [l[k]] := by
  unfold slcL
  rw [take_snoc hk, List.filter_append, List.filter_cons, if_pos (by rw [decide_eq_true h1, decide_eq_true h2]; rfl)]
  rfl
theorem slc_no {l : List S} {f t : Int} {k : Nat} (hk : k < l.length) (h : ¬ (f < l[k].1 ∧ l[k].1 ≤ t)) : slcL (l.take (k + 1)) f t = slcL (l.take k) f t := by
  unfold slcL
  rw [take_snoc hk, List.filter_append, List.filter_cons, if_neg (by rw [Bool.and_eq_true, decide_eq_true_eq, decide_eq_true_eq]; exact h)]
  simp
theorem ownS_snoc {w : World} {B : Nat} {v : Value} {l : List S} {x : S} (h : w.ownsRow B 33 2 v (l.length + 1) (cellsL l ++ [.int .i64 x.1, .int .i64 x.2])) : OwnS w B v (l ++ [x]) := by
  unfold OwnS
  rw [List.length_append, cellsL_append, cellsL_one]
  exact h
set_option maxHeartbeats 2000000 in
theorem refSlice_any (l : List S) (hl : l.length ≤ 100000) (A : Option Addr) (c : Nat) (f t : Int) (w : World) (hA : LS w w.heap.size A l) :
    Calls Try.prog 16 #[.slice A l.length c, .int .i64 f, .int .i64 t] w (OwnPost (slcL l f t) w) := by
  have HA := Lib.hid hA
  clear hA
  obtain ⟨i0, hi, hz0, hz1, hz2⟩ := info_parts infoS
  have O0 : Hid (OwnS (w.alloc (.cells #[] 33)) w.heap.size (.slice (some ⟨w.heap.size, 0, none⟩) 0 0) []) := World.ownsRow_made w #[] 0 (Nat.le_refl _) (by unfold maxLen; omega) (by simp)
  have B0 : Hid (Below w.heap.size w (w.alloc (.cells #[] 33))) := (Below.refl _ _).alloc (Nat.le_refl _) _
  go_enter Try.func16, Try.ntmps16
  go_wp2
  go_loopw [7, 8] (fun vo vi wr => ∃ k : Nat, k ≤ l.length ∧ vi = .int .i64 k ∧ Hid (OwnS wr w.heap.size vo (slcL (l.take k) f t)) ∧ Hid (Below w.heap.size w wr)) (fun _ vi _ => l.length - (intOf vi).toNat)
  case atStart => exact ⟨0, by omega, rfl, O0, B0⟩
  case round =>
    clear O0 B0
    obtain ⟨k, hk, rfl, HO, HB⟩ := hrel
    by_cases hlt : k < l.length
    · obtain ⟨bl, off, rfl, hbl, h1', h2'⟩ := HA.out.at_ hlt
      have h1 := (HB.out.cell (p := ⟨bl, off + k * 2, none⟩) hbl).trans h1'
      have h2 := (HB.out.cell (p := ⟨bl, off + k * 2 + 1, none⟩) hbl).trans h2'
      clear h1' h2'
      by_cases hb : f < l[k].1 ∧ l[k].1 ≤ t
      · have HE := Lib.hid (slc_yes hlt hb.1 hb.2)
        obtain ⟨hb1, hb2⟩ := hb
        obtain ⟨m, hm⟩ : ∃ m, slcL (l.take k) f t = m := ⟨_, rfl⟩
        have hml : m.length ≤ l.length := by rw [← hm]; exact Nat.le_trans (slc_len _ _ _) (List.length_take_le' _ _)
        rw [hm] at HO HE
        clear hm
        generalize l[k] = x at *
        go_wp2_with (at_builtin; refine wpList_append_own _ rfl (.tmp 32) (.tmp 37) 22 rfl w.heap.size 33 i0 _ 2 16 Try.underlying22 hi hz0 hz1 hz2 rfl (by decide) _ _ _ rfl (HO.out.below ((Below.refl _ _).alloc (Nat.le_refl _) _)) ⟨wr.heap.size, 0, none⟩ 1 1 [.int .i64 x.1, .int .i64 x.2] rfl rfl (cell_two_new _ _ _ _) (by simp [Value.oneCell']) (by simp only [maxLen]; omega) (by omega) (by have := HB.out.size; simp; omega) ?_; intro v' w1 hown' hgrow _; have HO' := Lib.hid hown'; have HG := Lib.hid hgrow; clear hown' hgrow)
        have B1 : Hid (Below w.heap.size w w1) := (HB.out.alloc HB.out.size _).grown HG.out (by have := HB.out.size; simp; omega) (fun g e => (World.ownsRow.lt HO.out g e).1)
        go_roundw
        case rel => exact ⟨k + 1, by omega, by go_num, by rw [HE.out]; exact ownS_snoc HO'.out, B1⟩
        case measure => simp [intOf]; omega
      · have HE := Lib.hid (slc_no hlt hb)
        have HO2 : Hid (OwnS wr w.heap.size u7 (slcL (l.take (k + 1)) f t)) := by rw [HE.out]; exact HO.out
        clear HE HO
        by_cases hb1 : f < l[k].1
        · have hb2 : ¬ l[k].1 ≤ t := fun h => hb ⟨hb1, h⟩
          clear hb
          go_wp2
          go_roundw
          case rel => exact ⟨k + 1, by omega, by go_num, HO2, HB⟩
          case measure => simp [intOf]; omega
        · clear hb
          go_wp2
          go_roundw
          case rel => exact ⟨k + 1, by omega, by go_num, HO2, HB⟩
          case measure => simp [intOf]; omega
    · have HO2 : Hid (OwnS wr w.heap.size u7 (slcL l f t)) := by
        have h := HO.out
        rw [List.take_of_length_le (by omega)] at h
        exact h
      clear HO
      go_wp2
      go_ret
      exact ⟨_, rfl, HO2.out, HB.out⟩
end Go.Proofs.Ytobipbedkkmlcaa.Sr
