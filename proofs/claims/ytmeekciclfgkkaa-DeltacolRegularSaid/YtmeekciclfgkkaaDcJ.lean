/- Layer 9: the examples of the chapter; the library's Clone. -/
import Derived.Test.YtmeekciclfgkkaaDcI
set_option linter.unusedVariables false
set_option linter.unusedSimpArgs false
namespace Go.Proofs.Ytmeekciclfgkkaa.Dc
open Go.RowKit
theorem ints_made (w : World) (l : List Int) (cs : Array Value) (n : Nat) (h1 : cs.toList = ic l) (h2 : l.length = n) (h3 : n ≤ 1000) : Ints (w.alloc (.cells cs 3)).heap.size (w.alloc (.cells cs 3)) (.slice (some ⟨w.heap.size, 0, none⟩) n n) l := by
  have hs : cs.size = n := by rw [← Array.length_toList, h1, ic_len, h2]
  subst h2
  refine Ints.of_own (B := w.heap.size) ⟨by rw [ic_len, Nat.mul_one], .inr ⟨w.heap.size, l.length, cs, rfl, Nat.le_refl _, heap_alloc_new w _, Nat.le_refl _, by unfold maxLen; omega, by omega, ?_⟩⟩ (Nat.le_refl _)
  rw [h1, List.take_of_length_le (by rw [ic_len]; omega)]
theorem below_made {w w' : World} {o : Obj} (h : Below (w.alloc o).heap.size (w.alloc o) w') : Below w.heap.size w w' := ((Below.refl _ _).alloc (Nat.le_refl _) o).trans (h.mono (by simp))
theorem encA : encT [10, 20, 30, 40, 51] = [5, 20, 20, 0, 2, 2, 1] := by
  simp [encT, tailT, tailV, colB, rleB, diffs, rle, runB, sB, fold, Lib.uvarint_small]
theorem encB : encV [7, 7, 7, 5] = [4, 14, 0, 2, 3, 1] := by
  simp [encV, tailV, colB, rleB, diffs, rle, runB, sB, fold, Lib.uvarint_small]
theorem chkA : chkT 0 [10, 20, 30, 40, 51] = 0 := by decide
theorem chkB : chkV [7, 7, 7, 5] = 0 := by decide
theorem encTO_ok {l : List Int} (h1 : l.length ≤ 20000) (h2 : chkT 0 l = 0) : encTO l = (encT l, 0) := by
  unfold encTO
  rw [if_neg (by omega), if_neg (by omega)]
theorem encVO_ok {l : List Int} (h1 : l.length ≤ 20000) (h2 : chkV l = 0) : encVO l = (encV l, 0) := by
  unfold encVO
  rw [if_neg (by omega), if_neg (by omega)]
set_option maxHeartbeats 2000000 in
set_option maxRecDepth 100000 in
theorem awake_any (w : World) : Calls Try.prog 6 #[] w fun e w' => e = .returned (.bool true) ∧ Below w.heap.size w w' := by
  have HT : Hid (∀ v : World, Calls Try.prog 7 #[.slice (some ⟨v.heap.size, 0, none⟩) 5 5] (v.alloc (.cells #[.int .i64 10, .int .i64 20, .int .i64 30, .int .i64 40, .int .i64 51] 3)) fun e w' => e = .returned (.tuple #[.string ⟨#[5, 20, 20, 0, 2, 2, 1]⟩, .int .i64 0]) ∧ Below v.heap.size v w') := Lib.hid fun v => by
    have h := EncodeTimes_any [10, 20, 30, 40, 51] (by decide) _ _ (ints_made v [10, 20, 30, 40, 51] #[.int .i64 10, .int .i64 20, .int .i64 30, .int .i64 40, .int .i64 51] 5 rfl rfl (by decide))
    rw [encTO_ok (by decide) chkA, encA] at h
    exact h.mono fun e w' ⟨h1, h2⟩ => ⟨h1, below_made h2⟩
  have HV : Hid (∀ v : World, Calls Try.prog 11 #[.slice (some ⟨v.heap.size, 0, none⟩) 4 4] (v.alloc (.cells #[.int .i64 7, .int .i64 7, .int .i64 7, .int .i64 5] 3)) fun e w' => e = .returned (.tuple #[.string ⟨#[4, 14, 0, 2, 3, 1]⟩, .int .i64 0]) ∧ Below v.heap.size v w') := Lib.hid fun v => by
    have h := EncodeValues_any [7, 7, 7, 5] (by decide) _ _ (ints_made v [7, 7, 7, 5] #[.int .i64 7, .int .i64 7, .int .i64 7, .int .i64 5] 4 rfl rfl (by decide))
    rw [encVO_ok (by decide) chkB, encB] at h
    exact h.mono fun e w' ⟨h1, h2⟩ => ⟨h1, below_made h2⟩
  have HD : Hid (∀ v : World, Calls Try.prog 8 #[.string ⟨#[5, 20, 20, 0, 2, 2, 1]⟩] v fun e w' => ∃ sv, e = .returned (.tuple #[sv, .int .i64 0]) ∧ Ints w'.heap.size w' sv [10, 20, 30, 40, 51] ∧ Below v.heap.size v w') := Lib.hid fun v => by
    have h := DecodeTimes_any [10, 20, 30, 40, 51] (by decide) chkA (by rw [encA]; decide) v
    rw [encA] at h
    exact h
  have HE : Hid (∀ (v : World) (sv : Value), Ints v.heap.size v sv [10, 20, 30, 40, 51] → Calls Try.prog 10 #[sv, .slice (some ⟨v.heap.size, 0, none⟩) 5 5] (v.alloc (.cells #[.int .i64 10, .int .i64 20, .int .i64 30, .int .i64 40, .int .i64 51] 3)) fun e w' => e = .returned (.bool true) ∧ Below v.heap.size v w') := Lib.hid fun v sv hI => by
    have hb : Below v.heap.size v (v.alloc (.cells #[.int .i64 10, .int .i64 20, .int .i64 30, .int .i64 40, .int .i64 51] 3)) := (Below.refl _ _).alloc (Nat.le_refl _) _
    have h := equal_any _ [10, 20, 30, 40, 51] [10, 20, 30, 40, 51] (by decide) sv _ _ (Nat.le_refl _) (hI.onto hb).at (ints_made v [10, 20, 30, 40, 51] #[.int .i64 10, .int .i64 20, .int .i64 30, .int .i64 40, .int .i64 51] 5 rfl rfl (by decide)).at
    rw [show sameB [10, 20, 30, 40, 51] [10, 20, 30, 40, 51] = true from decide_eq_true rfl] at h
    exact h.mono fun e w' ⟨h1, h2⟩ => ⟨h1, below_made h2⟩
  go_enter Try.func6, Try.ntmps6
  go_wp2_with fail
  refine (HT.out w).mono ?_
  rintro e w1 ⟨rfl, hb1⟩
  have B1 := Lib.hid hb1
  clear hb1 HT
  go_wp2_with fail
  refine (HV.out w1).mono ?_
  rintro e w2 ⟨rfl, hb2⟩
  have B2 := Lib.hid (B1.out.trans (hb2.mono B1.out.size))
  clear hb2 HV B1
  go_wp2_with fail
  refine (HD.out w2).mono ?_
  rintro e w3 ⟨v3, rfl, hi3, hb3⟩
  have B3 := Lib.hid (B2.out.trans (hb3.mono B2.out.size))
  have HE3 := Lib.hid (HE.out w3 v3 hi3)
  obtain ⟨a3, c3, rfl, _⟩ := hi3
  clear hb3 HD HE B2
  go_wp2_with fail
  refine HE3.out.mono ?_
  rintro e w4 ⟨rfl, hb4⟩
  have B4 := Lib.hid (B3.out.trans (hb4.mono B3.out.size))
  clear hb4 HE3 B3
  go_wp2
  go_ret
  exact ⟨rfl, B4.out⟩
set_option maxHeartbeats 2000000 in
set_option maxRecDepth 100000 in
theorem clone_any (l : List Int) (hl : l.length ≤ 1000000) (hp : 0 < l.length) (sv : Value) (w : World) (hI : Ints w.heap.size w sv l) :
    Calls Try.prog 14 #[sv] w fun e w' => ∃ v, e = .returned v ∧ w'.ownsRow w.heap.size 3 1 v l.length (ic l) ∧ Below w.heap.size w w' := by
  obtain ⟨i0, hi, hz0, hz1, hz2⟩ := info_parts infoI
  obtain ⟨a, cap, rfl, hr⟩ := hI
  have q22 : ∀ (w : World) (a : Option Addr) (n c n' c' : Nat), (binOp .eql 22 (.slice a n c) (.slice none n' c')).run Try.prog w = .ok (.bool a.isNone) w := fun w a n c n' c' => Lib.run_eql_slice_nil w _ _ a n c n' c' Try.underlying22
  cases a with
  | none =>
    have h0 := hr.nil rfl
    have := hr.le
    omega
  | some ad =>
    have B1 : Hid (Below w.heap.size w (w.alloc (.cells #[] 3))) := (Below.refl _ _).alloc (Nat.le_refl _) _
    have O1 : Hid ((w.alloc (.cells #[] 3)).ownsRow w.heap.size 3 1 (.slice (some ⟨w.heap.size, 0, none⟩) 0 0) 0 []) := World.ownsRow_made w #[] 0 (Nat.le_refl _) (by unfold maxLen; omega) (by simp)
    have R1 := Lib.hid (hr.reads.alloc (Nat.le_refl _) (.cells #[] 3))
    have hq := fun w => q22 w (some ad) l.length cap 0 0
    have H1 := Lib.hid (ic_one l)
    clear q22 hr
    go_enter Try.func14, Try.ntmps14
    go_wp2_with (at_builtin; refine wpList_append_any _ rfl (.tmp 5) (.tmp 6) 22 rfl w.heap.size 3 i0 _ 1 8 Try.underlying22 hi hz0 hz1 hz2 rfl (by decide) (.slice (some ⟨w.heap.size, 0, none⟩) 0 0) 0 [] rfl O1.out w.heap.size (some ad) l.length cap (ic l) rfl R1.out H1.out (by simp only [maxLen]; omega) (by omega) (by simp) ?_; intro v5 w5 ho hg _; have HO := Lib.hid ho; have HG := Lib.hid hg; clear ho hg)
    go_ret
    refine ⟨_, rfl, ?_, B1.out.grown HG.out (by simp) (fun g e => (World.ownsRow.lt O1.out g e).1)⟩
    have := HO.out
    simpa using this
end Go.Proofs.Ytmeekciclfgkkaa.Dc
