/- Layer 5: texts of lists of labels. -/
import Derived.Lib.AppendStr
import Derived.Lib.UnsafeStr
import Derived.Lib.ConvBytes
import Derived.Lib.QuietBelow
import Derived.Laws.IdiomStrings
import Derived.Laws.BytesArg
import Derived.Deep.QuietTactic
import Derived.BigQuiet
import Derived.Test.YtbphhdmnfepbnaaLH
set_option linter.unusedVariables false
set_option linter.unusedSimpArgs false
namespace Go.Proofs.Ytbphhdmnfepbnaa.Lab
open Go.RowKit
theorem info5 : (Try.prog.info? 5).map (fun i => (i.zero, i.size, i.bytes)) = some (some (.int .u8 0), 1, 1) := by kernel_rfl
/-- v owns the bytes l. -/
def OwnB (w : World) (B : Nat) (v : Value) (l : List UInt8) : Prop := w.ownsRow B 5 1 v l.length (Lib.byteCells l)
theorem OwnB.snoc {w : World} {B n : Nat} {v : Value} {l m : List UInt8} {xs : List Value} (h : w.ownsRow B 5 1 v (l.length + n) (Lib.byteCells l ++ xs)) (hx : xs = Lib.byteCells m) (hn : n = m.length) : OwnB w B v (l ++ m) := by
  unfold OwnB
  subst hx
  subst hn
  rw [List.length_append, Lib.byteCells_append]
  exact h
theorem OwnB.conv {B : Nat} {W : World} {v : Value} {l : List UInt8} (h : OwnB W B v l) : ∃ A n cap, v = .slice A n cap ∧ (convert 47 9 (.slice A n cap)).run Try.prog W = .ok (.string ⟨l.toArray⟩) W := by
  rcases h.2 with ⟨rfl, h0⟩ | ⟨g, cap, cur, rfl, hr⟩
  · have : l = [] := List.eq_nil_of_length_eq_zero h0
    subst this
    refine ⟨none, 0, 0, rfl, ?_⟩
    exact run_convert_bytes_nil (P := Try.prog) W 47 5 Try.underlying47 Try.underlying5 0 0 9 Try.underlying9
  · refine ⟨_, _, _, rfl, run_convert_bytes_back W 47 9 5 ⟨g, 0, none⟩ cap l Try.underlying47 Try.underlying5 Try.underlying9 fun j hj => ?_⟩
    rw [World.ownsRow.cells (g := g) h rfl j (.int .u8 (l[j].toNat : Int)) (by simp [Lib.byteCells, List.getElem?_eq_getElem hj])]
theorem OwnB.lt {w : World} {B : Nat} {v : Value} {l : List UInt8} (h : OwnB w B v l) : ∀ g, v.ownBlock = some g → B ≤ g ∧ g < w.heap.size := World.ownsRow.lt h
theorem OwnB.below {w w' : World} {B : Nat} {v : Value} {l : List UInt8} (h : OwnB w B v l) (hb : Below w.heap.size w w') : OwnB w' B v l := by
  refine ⟨h.1, ?_⟩
  rcases h.2 with h0 | ⟨g, cap, cur, e, h1, h2, h3⟩
  · exact .inl h0
  · exact .inr ⟨g, cap, cur, e, h1, (hb.block g (by have := (World.ownsRow.lt h g (by rw [e]; rfl)).2; omega)).trans h2, h3⟩

/-- A byte of a value as it is written; a value. -/
def quo1 (c : UInt8) : List UInt8 := if c.toNat = 10 then [92, 110] else if c.toNat = 92 ∨ c.toNat = 34 then [92, c] else [c]
def quo (l : List UInt8) : List UInt8 := l.flatMap quo1
theorem quo_nil : quo [] = [] := rfl
theorem quo_append (a b : List UInt8) : quo (a ++ b) = quo a ++ quo b := by unfold quo; rw [List.flatMap_append]
theorem quo_one (c : UInt8) : quo [c] = quo1 c := by simp [quo]
theorem quo1_len (c : UInt8) : (quo1 c).length ≤ 2 := by
  unfold quo1
  split
  · simp
  · split <;> simp
theorem quo_len : ∀ l : List UInt8, (quo l).length ≤ 2 * l.length
  | [] => by simp [quo]
  | c :: r => by
    have h := quo_len r
    have h1 := quo1_len c
    rw [show c :: r = [c] ++ r from rfl, quo_append, List.length_append, quo_one, List.length_append, List.length_singleton]
    omega
theorem quo_snoc (s : ByteArray) {k : Nat} (h : k < s.size) : quo (s.data.toList.take (k + 1)) = quo (s.data.toList.take k) ++ quo1 s[k] := by
  rw [take_snoc s h, quo_append, quo_one]
theorem quo1_nl {c : UInt8} (h : c.toNat = 10) : quo1 c = [92, 110] := if_pos h
theorem quo1_esc {c : UInt8} (h : ¬ c.toNat = 10) (h2 : c.toNat = 92 ∨ c.toNat = 34) : quo1 c = [92, c] := by unfold quo1; rw [if_neg h, if_pos h2]
theorem quo1_plain {c : UInt8} (h : ¬ c.toNat = 10) (h2 : ¬ c.toNat = 92) (h3 : ¬ c.toNat = 34) : quo1 c = [c] := by unfold quo1; rw [if_neg h, if_neg (by omega)]
theorem cell_at (c : UInt8) : [Value.int .u8 (c.toNat : Int)] = Lib.byteCells [c] := rfl
def StrPost (l : List UInt8) (w : World) (e : Ending) (w' : World) : Prop := e = .returned (.string ⟨l.toArray⟩) ∧ Below w.heap.size w w'
def BytesPost (l : List UInt8) (B : Nat) (w : World) (e : Ending) (w' : World) : Prop := ∃ v, e = .returned v ∧ OwnB w' B v l ∧ Below B w w'
theorem row_below {B : Nat} {w W V V1 : World} {v : Value} {l : List UInt8} (hB : Below B w W) (hown : OwnB W B v l) (hV : Below W.heap.size W V) (hg : V.grownBy V1 v.ownBlock) (hsz : B ≤ W.heap.size) : Below B w V1 :=
  (hB.trans (hV.mono hsz)).grown hg (Nat.le_trans hsz hV.size) (fun g e => (hown.lt g e).1)
set_option maxHeartbeats 4000000 in
theorem refQuoted_any (s : ByteArray) (hs : s.size ≤ 100000) (w : World) : Calls Try.prog 49 #[.string s] w (StrPost (quo s.data.toList) w) := by
  obtain ⟨i0, hi, hz0, hz1, hz2⟩ := info_parts info5
  have O0 : Hid (OwnB (w.alloc (.cells #[] 5)) w.heap.size (.slice (some ⟨w.heap.size, 0, none⟩) 0 0) []) := World.ownsRow_made w #[] 0 (Nat.le_refl _) (by unfold maxLen; omega) (by simp)
  have B0 : Hid (Below w.heap.size w (w.alloc (.cells #[] 5))) := (Below.refl _ _).alloc (Nat.le_refl _) _
  go_enter Try.func49, Try.ntmps49
  go_wp2
  go_loopw [3, 4] (fun vo vi wr => ∃ k : Nat, k ≤ s.size ∧ vi = .int .i64 k ∧ Hid (OwnB wr w.heap.size vo (quo (s.data.toList.take k))) ∧ Hid (Below w.heap.size w wr)) (fun _ vi _ => s.size - (intOf vi).toNat)
  case atStart => exact ⟨0, by omega, rfl, O0, B0⟩
  case round =>
    clear O0 B0
    obtain ⟨k, hk, rfl, HO, HB⟩ := hrel
    by_cases hlt : k < s.size
    · have HE := Lib.hid (quo_snoc s hlt)
      have hc256 := s[k].toNat_lt
      obtain ⟨m, hm⟩ : ∃ m, quo (s.data.toList.take k) = m := ⟨_, rfl⟩
      have hml : m.length ≤ 200000 := by
        have h1 := quo_len (s.data.toList.take k)
        have h2 : (s.data.toList.take k).length ≤ k := List.length_take_le _ _
        rw [← hm]; omega
      rw [hm] at HO HE
      clear hm
      have HSZ := Lib.hid HB.out.size
      by_cases hc : s[k].toNat = 10
      · have HQ := Lib.hid (quo1_nl hc)
        have t1 : ((s[k].toNat : Int) == 10) = true := by simp [hc]
        clear hc
        go_wp2_with (at_builtin; refine wpList_append_own _ rfl (.tmp 16) (.tmp 17) 47 rfl w.heap.size 5 i0 _ 1 1 Try.underlying47 hi hz0 hz1 hz2 rfl (by decide) _ _ _ rfl (HO.out.below ((Below.refl _ _).alloc (Nat.le_refl _) _)) ⟨wr.heap.size, 0, none⟩ 2 2 [.int .u8 92, .int .u8 110] rfl rfl (cell_two_new _ _ _ _) (by simp [Value.oneCell']) (by simp only [maxLen]; omega) (by omega) (by have := HSZ.out; simp; omega) ?_; intro v1 w1 hown' hgrow _; have HO1 := Lib.hid hown'; have HG1 := Lib.hid hgrow; clear hown' hgrow)
        have B1 := Lib.hid (row_below HB.out HO.out ((Below.refl _ _).alloc (Nat.le_refl _) _) HG1.out HSZ.out)
        go_roundw
        case rel => exact ⟨k + 1, by omega, by go_num, by rw [HE.out, HQ.out]; exact OwnB.snoc HO1.out rfl rfl, B1⟩
        case measure => simp [intOf]; omega
      · have t1 : ((s[k].toNat : Int) == 10) = false := by simp; omega
        by_cases hesc : s[k].toNat = 92 ∨ s[k].toNat = 34
        · have HQ := Lib.hid (quo1_esc hc hesc)
          clear hc
          have hes : (((s[k].toNat : Int) == 92) = true) ∨ (((s[k].toNat : Int) == 92) = false ∧ ((s[k].toNat : Int) == 34) = true) := by
            rcases hesc with h | h
            · exact .inl (by simp [h])
            · exact .inr ⟨by simp [h], by simp [h]⟩
          clear hesc
          rcases hes with t2 | ⟨t2, t3⟩
          all_goals
            go_wp2_with (first
              | (at_builtin; refine wpList_append_own _ rfl (.tmp 29) (.tmp 30) 47 rfl w.heap.size 5 i0 _ 1 1 Try.underlying47 hi hz0 hz1 hz2 rfl (by decide) _ _ _ rfl (HO.out.below ((Below.refl _ _).alloc (Nat.le_refl _) _)) ⟨wr.heap.size, 0, none⟩ 1 1 [.int .u8 92] rfl rfl (cell_one_new _ _ _) (by simp [Value.oneCell']) (by simp only [maxLen]; omega) (by omega) (by have := HSZ.out; simp; omega) ?_; intro v1 w1 hown' hgrow _; have HO1 := Lib.hid (OwnB.snoc (m := [92]) hown' rfl rfl); have B1 := Lib.hid (row_below HB.out HO.out ((Below.refl _ _).alloc (Nat.le_refl _) _) hgrow HSZ.out); have HSZ1 := Lib.hid (Nat.le_trans HSZ.out (by have := hgrow.size; simp at this; omega) : w.heap.size ≤ w1.heap.size); clear hown' hgrow)
              | (at_builtin; refine wpList_append_own _ rfl (.tmp 32) (.tmp 36) 47 rfl w.heap.size 5 i0 _ 1 1 Try.underlying47 hi hz0 hz1 hz2 rfl (by decide) v1 _ _ rfl (HO1.out.below ((Below.refl _ _).alloc (Nat.le_refl _) _)) ⟨w1.heap.size, 0, none⟩ 1 1 [.int .u8 (s[k].toNat : Int)] rfl rfl (cell_one_new _ _ _) (by simp [Value.oneCell']) (by simp only [maxLen, List.length_append, List.length_singleton]; omega) (by simp only [List.length_append, List.length_singleton]; omega) (by have := HSZ1.out; simp; omega) ?_; intro v2 w2 hown' hgrow _; have HO2 := Lib.hid (OwnB.snoc (m := [s[k]]) hown' rfl rfl); have B2 := Lib.hid (row_below B1.out HO1.out ((Below.refl _ _).alloc (Nat.le_refl _) _) hgrow HSZ1.out); clear hown' hgrow))
            go_roundw
            case rel => exact ⟨k + 1, by omega, by go_num, by rw [HE.out, HQ.out, show m ++ [92, s[k]] = m ++ [92] ++ [s[k]] by simp]; exact HO2.out, B2⟩
            case measure => simp [intOf]; omega
        · have HQ := Lib.hid (quo1_plain hc (fun h => hesc (.inl h)) (fun h => hesc (.inr h)))
          have t2 : ((s[k].toNat : Int) == 92) = false := by simp; omega
          have t3 : ((s[k].toNat : Int) == 34) = false := by simp; omega
          clear hc hesc
          go_wp2_with (at_builtin; refine wpList_append_own _ rfl (.tmp 32) (.tmp 36) 47 rfl w.heap.size 5 i0 _ 1 1 Try.underlying47 hi hz0 hz1 hz2 rfl (by decide) _ _ _ rfl (HO.out.below ((Below.refl _ _).alloc (Nat.le_refl _) _)) ⟨wr.heap.size, 0, none⟩ 1 1 [.int .u8 (s[k].toNat : Int)] rfl rfl (cell_one_new _ _ _) (by simp [Value.oneCell']) (by simp only [maxLen]; omega) (by omega) (by have := HSZ.out; simp; omega) ?_; intro v1 w1 hown' hgrow _; have HO1 := Lib.hid (OwnB.snoc (m := [s[k]]) hown' rfl rfl); have B1 := Lib.hid (row_below HB.out HO.out ((Below.refl _ _).alloc (Nat.le_refl _) _) hgrow HSZ.out); clear hown' hgrow)
          go_roundw
          case rel => exact ⟨k + 1, by omega, by go_num, by rw [HE.out, HQ.out]; exact HO1.out, B1⟩
          case measure => simp [intOf]; omega
    · obtain rfl : k = s.size := by omega
      have h2 := HO.out
      rw [List.take_of_length_le (by rw [Array.length_toList]; exact Nat.le_refl _)] at h2
      generalize quo s.data.toList = q at *
      obtain ⟨A, n, cap, rfl, hcv⟩ := h2.conv
      clear HO h2
      go_wp2
      go_ret
      exact ⟨rfl, HB.out⟩
end Go.Proofs.Ytbphhdmnfepbnaa.Lab
