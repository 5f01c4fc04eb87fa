/- Layer 10: the chapter's example; awake. -/
import Derived.Test.YtpinmmmbmhfmiaaDuM
import Derived.Test.YtpinmmmbmhfmiaaSame
set_option linter.unusedVariables false
set_option linter.unusedSimpArgs false
namespace Go.Proofs.Ytpinmmmbmhfmiaa.Dt
open Go.RowKit Go.Sort Dc
/-- The column of the example. -/
def colA : List BA := [⟨#[98]⟩, ⟨#[98]⟩, ⟨#[97, 98]⟩, ⟨#[97, 98, 99]⟩]
theorem dictA : dict colA = [⟨#[97, 98]⟩, ⟨#[97, 98, 99]⟩, ⟨#[98]⟩] := by
  simp [colA, dict, addD, idxI, insD, posN, ltS, ByteArray.toList_eq, Op.bytesLess]
theorem sizA (a : Array UInt8) : (⟨a⟩ : BA).size = a.size := rfl
theorem encA : encO colA = ([4, 3, 0, 2, 97, 98, 2, 1, 99, 0, 1, 98, 2, 1, 0, 0, 1, 0], 0) := by
  have h : encL colA = [4, 3, 0, 2, 97, 98, 2, 1, 99, 0, 1, 98, 2, 1, 0, 0, 1, 0] := by
    unfold encL
    rw [dictA]
    simp [colA, rle, runB, dicB, entB, comN, idxI, sizA, uv, Lib.uvarint_small]
  rw [encO_ok ⟨by decide, fun x hx => ?_⟩ (by rw [h]; decide), h]
  revert x
  unfold colA
  simp [sizA]
theorem lkA : lkL ⟨#[98]⟩ colA 4 = [0, 1] := by
  simp [lkL, colA, List.range_succ]
theorem strs_made (w : World) (l : List BA) (cs : Array Value) (n : Nat) (h1 : cs.toList = sc l) (h2 : l.length = n) (h3 : n ≤ 1000) : OwnS w.heap.size (w.alloc (.cells cs 9)) (.slice (some ⟨w.heap.size, 0, none⟩) n n) l := by
  have hs : cs.size = n := by rw [← Array.length_toList, h1, sc_len, h2]
  subst h2
  refine ⟨by rw [sc_len, Nat.mul_one], .inr ⟨w.heap.size, l.length, cs, rfl, Nat.le_refl _, heap_alloc_new w _, Nat.le_refl _, by unfold maxLen; omega, by omega, ?_⟩⟩
  rw [h1, List.take_of_length_le (by rw [sc_len]; omega)]
theorem ints_made (w : World) (l : List Int) (cs : Array Value) (n : Nat) (h1 : cs.toList = ic l) (h2 : l.length = n) (h3 : n ≤ 1000) : Ints (w.alloc (.cells cs 3)).heap.size (w.alloc (.cells cs 3)) (.slice (some ⟨w.heap.size, 0, none⟩) n n) l := by
  have hs : cs.size = n := by rw [← Array.length_toList, h1, ic_len, h2]
  subst h2
  refine Ints.of_own (B := w.heap.size) ⟨by rw [ic_len, Nat.mul_one], .inr ⟨w.heap.size, l.length, cs, rfl, Nat.le_refl _, heap_alloc_new w _, Nat.le_refl _, by unfold maxLen; omega, by omega, ?_⟩⟩ (Nat.le_refl _)
  rw [h1, List.take_of_length_le (by rw [ic_len]; omega)]
theorem below_made {w w' : World} {o : Obj} (h : Below (w.alloc o).heap.size (w.alloc o) w') : Below w.heap.size w w' := ((Below.refl _ _).alloc (Nat.le_refl _) o).trans (h.mono (by simp))
set_option maxHeartbeats 2000000 in
set_option maxRecDepth 100000 in
theorem awake_any (w : World) : Calls Try.prog 12 #[] w fun e w' => e = .returned (.bool true) ∧ Below w.heap.size w w' := by
  obtain ⟨w1, hw1⟩ : ∃ w1, w.alloc (.cells #[.string ⟨#[98]⟩, .string ⟨#[98]⟩, .string ⟨#[97, 98]⟩, .string ⟨#[97, 98, 99]⟩] 9) = w1 := ⟨_, rfl⟩
  have O1 : Hid (OwnS w.heap.size w1 (.slice (some ⟨w.heap.size, 0, none⟩) 4 4) colA) := Lib.hid (by rw [← hw1]; exact strs_made w colA _ 4 rfl rfl (by decide))
  have B1 : Hid (Below w.heap.size w w1) := Lib.hid (by rw [← hw1]; exact (Below.refl _ _).alloc (Nat.le_refl _) _)
  have HT : Hid (Calls Try.prog 13 #[.slice (some ⟨w.heap.size, 0, none⟩) 4 4] w1 fun e w' => e = .returned (.tuple #[.string ⟨#[4, 3, 0, 2, 97, 98, 2, 1, 99, 0, 1, 98, 2, 1, 0, 0, 1, 0]⟩, .int .i64 0]) ∧ Below w1.heap.size w1 w') := Lib.hid (by
    have h := Encode_any colA (by decide) (fun x hx => by revert x; unfold colA; simp [sizA]) _ w1 O1.out.strs.at
    unfold EncQ at h
    rw [encA] at h
    exact h)
  have HD : Hid (∀ v : World, Calls Try.prog 17 #[.string ⟨#[4, 3, 0, 2, 97, 98, 2, 1, 99, 0, 1, 98, 2, 1, 0, 0, 1, 0]⟩] v fun e w' => ∃ sv, e = .returned (.tuple #[sv, .int .i64 0]) ∧ OwnS v.heap.size w' sv colA ∧ Below v.heap.size v w') := Lib.hid fun v => by
    have h := Decode_any ⟨#[4, 3, 0, 2, 97, 98, 2, 1, 99, 0, 1, 98, 2, 1, 0, 0, 1, 0]⟩ (by decide) v
    unfold DecQ at h
    rw [decO_ok encA] at h
    exact h
  have HK : Hid (∀ v : World, Calls Try.prog 21 #[.string ⟨#[4, 3, 0, 2, 97, 98, 2, 1, 99, 0, 1, 98, 2, 1, 0, 0, 1, 0]⟩, .string ⟨#[98]⟩] v fun e w' => ∃ sv, e = .returned (.tuple #[sv, .int .i64 0]) ∧ w'.ownsRow v.heap.size 3 1 sv 2 (ic [0, 1]) ∧ Below v.heap.size v w') := Lib.hid fun v => by
    have h := Lookup_any ⟨#[4, 3, 0, 2, 97, 98, 2, 1, 99, 0, 1, 98, 2, 1, 0, 0, 1, 0]⟩ ⟨#[98]⟩ (by decide) v
    unfold LkQ at h
    rw [decO_ok encA] at h
    dsimp only at h
    rw [show colA.length = 4 from rfl, lkA] at h
    exact h
  have HS : Hid (∀ (v : World) (sv : Value), Ints v.heap.size v sv [0, 1] → Calls Try.prog 26 #[sv, .slice (some ⟨v.heap.size, 0, none⟩) 2 2] (v.alloc (.cells #[.int .i64 0, .int .i64 1] 3)) fun e w' => e = .returned (.bool true) ∧ Below v.heap.size v w') := Lib.hid fun v sv hI => by
    have hb : Below v.heap.size v (v.alloc (.cells #[.int .i64 0, .int .i64 1] 3)) := (Below.refl _ _).alloc (Nat.le_refl _) _
    have h := same_any _ [0, 1] [0, 1] (by decide) sv _ _ (Nat.le_refl _) (hI.onto hb).at (ints_made v [0, 1] #[.int .i64 0, .int .i64 1] 2 rfl rfl (by decide)).at
    rw [show sameB [0, 1] [0, 1] = true from decide_eq_true rfl] at h
    exact h.mono fun e w' ⟨h1, h2⟩ => ⟨h1, below_made h2⟩
  go_enter Try.func12, Try.ntmps12
  go_wp2_with fail
  refine HT.out.mono ?_
  rintro e w2 ⟨rfl, hb⟩
  have B2 := Lib.hid (B1.out.trans (hb.mono B1.out.size))
  have O2 := Lib.hid (O1.out.step hb)
  clear hb HT O1 B1
  go_wp2_with fail
  refine (HD.out _).mono ?_
  rintro e w3 ⟨v3, rfl, ho, hb⟩
  have B3 := Lib.hid (B2.out.trans (hb.mono B2.out.size))
  have O3 := Lib.hid (O2.out.step hb)
  have D3 := Lib.hid ho
  obtain ⟨A3, c3, rfl⟩ := own_form ho
  clear hb ho HD O2 B2
  go_wp2_with fail
  refine (HK.out _).mono ?_
  rintro e w4 ⟨v4, rfl, ho, hb⟩
  have B4 := Lib.hid (B3.out.trans (hb.mono B3.out.size))
  have O4 := Lib.hid (O3.out.step hb)
  have D4 := Lib.hid (D3.out.step hb)
  have K4 := Lib.hid (Ints.of_own (C := w4.heap.size) ho (Nat.le_refl _))
  obtain ⟨A4, c4, rfl⟩ := own_form ho
  clear hb ho HK O3 B3 D3
  have HSA : Hid (Calls Try.prog 25 #[.slice (some ⟨w.heap.size, 0, none⟩) 4 4, .slice A3 colA.length c3] w4 fun e w' => e = .returned (.bool true) ∧ Below w4.heap.size w4 w') := Lib.hid (by
    have h := same_any_S colA colA (by decide) _ _ w4 O4.out.strs.at D4.out.strs.at
    rw [sameS_refl] at h
    exact h)
  clear O4 D4
  go_wp2_with fail
  refine HSA.out.mono ?_
  rintro e w5 ⟨rfl, hb⟩
  have B5 := Lib.hid (B4.out.trans (hb.mono B4.out.size))
  have K5 := Lib.hid (K4.out.onto hb)
  clear hb HSA K4 B4
  go_wp2_with fail
  refine (HS.out _ _ K5.out).mono ?_
  rintro e w6 ⟨rfl, hb⟩
  have B6 := Lib.hid (B5.out.trans (hb.mono B5.out.size))
  clear hb HS K5 B5
  go_wp2
  go_ret
  exact ⟨rfl, B6.out⟩
end Go.Proofs.Ytpinmmmbmhfmiaa.Dt
