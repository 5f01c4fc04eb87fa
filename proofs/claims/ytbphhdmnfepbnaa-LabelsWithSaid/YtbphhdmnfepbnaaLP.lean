/- Layer 5: skip. -/
import Derived.Test.YtbphhdmnfepbnaaLO
set_option linter.unusedVariables false
set_option linter.unusedSimpArgs false
namespace Go.Proofs.Ytbphhdmnfepbnaa.Lab
open Go.RowKit
/-- The rest of a text. -/
theorem ext_drop (s : ByteArray) (k : Nat) : (s.extract k s.size).data.toList = s.data.toList.drop k := by
  have h : s.data.size = s.size := rfl
  rw [ByteArray.data_extract, Array.toList_extract, List.extract_eq_take_drop, List.take_of_length_le]
  rw [List.length_drop, Array.length_toList]
  omega
theorem ext_size (s : ByteArray) (k : Nat) : (s.extract k s.size).size = s.size - k := by
  have h := congrArg List.length (ext_drop s k)
  rw [List.length_drop, Array.length_toList, Array.length_toList] at h
  exact h
theorem ext_take (s : ByteArray) (k n : Nat) : (s.extract k (k + n)).data.toList = (s.data.toList.drop k).take n := by
  rw [ByteArray.data_extract, Array.toList_extract, List.extract_eq_take_drop]
  congr 1
  omega
theorem ext_len (s : ByteArray) {k n : Nat} (h : k + n ≤ s.size) : (s.extract k (k + n)).size = n := by
  have h1 := congrArg List.length (ext_take s k n)
  rw [List.length_take, List.length_drop, Array.length_toList, Array.length_toList] at h1
  have h2 : s.data.size = s.size := rfl
  have h3 : (s.extract k (k + n)).data.size = (s.extract k (k + n)).size := rfl
  omega
/-- p is a beginning of a. -/
def preS (a p : ByteArray) : Bool := decide (p.size ≤ a.size) && (a.extract 0 p.size).toList == p.toList
theorem preS_iff {a p : ByteArray} : preS a p = true ↔ a.data.toList.take p.size = p.data.toList := by
  have h0 := ext_take a 0 p.size
  rw [Nat.zero_add, List.drop_zero] at h0
  unfold preS
  rw [Bool.and_eq_true, decide_eq_true_iff, beq_iff_eq, ByteArray.toList_eq, ByteArray.toList_eq, h0]
  refine ⟨fun h => h.2, fun h => ⟨?_, h⟩⟩
  have := congrArg List.length h
  rw [List.length_take, Array.length_toList, Array.length_toList] at this
  have h2 : p.data.size = p.size := rfl
  have h3 : a.data.size = a.size := rfl
  omega
set_option maxHeartbeats 1000000 in
theorem hasPrefix_lite (a p : ByteArray) (ha : a.size ≤ 1000000) (hp : p.size ≤ 1000000) (w : World) : Calls Try.prog 76 #[.string a, .string p] w fun e w' => e = .returned (.bool (preS a p)) ∧ w = w' := by
  by_cases h : p.size ≤ a.size
  · have HE : Hid (preS a p = ((a.extract 0 p.size).toList == p.toList)) := by unfold preS; rw [decide_eq_true h, Bool.true_and]; rfl
    go_enter Try.func76, Try.ntmps76
    go_wp2
    go_ret
    rw [HE.out]
    exact ⟨rfl, rfl⟩
  · have HE : Hid (preS a p = false) := by unfold preS; rw [decide_eq_false h]; rfl
    have h' : a.size < p.size := by omega
    clear h
    go_enter Try.func76, Try.ntmps76
    go_wp2
    go_ret
    rw [HE.out]
    exact ⟨rfl, rfl⟩
theorem hasPrefix_any (a p : ByteArray) (ha : a.size ≤ 1000000) (hp : p.size ≤ 1000000) (w : World) : Calls Try.prog 73 #[.string a, .string p] w fun e w' => e = .returned (.bool (preS a p)) ∧ w = w' := by
  go_enter Try.func73, Try.ntmps73
  go_wp2_with (go_at_call 76; (with_reducible refine (hasPrefix_lite _ _ ha hp _).mono ?_); rintro e w1 ⟨rfl, rfl⟩)
  go_ret
  exact ⟨rfl, rfl⟩
def skipN (b : Bool) (n : Nat) : Nat := if b then n else 0
set_option maxHeartbeats 1000000 in
theorem skip1_any (a p : ByteArray) (ha : a.size ≤ 1000000) (hp : p.size ≤ 1000000) (bs : Nat) (w : World) (h : w.cell? ⟨bs, 0, none⟩ = some (.string p)) :
    Calls Try.prog 72 #[.string a, .pointer (some ⟨bs, 0, none⟩)] w fun e w' => e = .returned (.int .i64 (skipN (preS a p) p.size)) ∧ w = w' := by
  have C := Lib.hid (hasPrefix_any a p ha hp w)
  cases hb : preS a p with
  | true =>
    have HE : Hid (skipN true p.size = p.size) := rfl
    rw [hb] at C
    clear hb
    go_enter Try.func72, Try.ntmps72
    go_wp2_with (go_at_call 73; (with_reducible refine C.out.mono ?_); rintro e w1 ⟨rfl, rfl⟩)
    go_ret
    rw [HE.out]
    exact ⟨rfl, rfl⟩
  | false =>
    have HE : Hid (skipN false p.size = 0) := rfl
    rw [hb] at C
    clear hb
    go_enter Try.func72, Try.ntmps72
    go_wp2_with (go_at_call 73; (with_reducible refine C.out.mono ?_); rintro e w1 ⟨rfl, rfl⟩)
    go_ret
    rw [HE.out]
    exact ⟨rfl, rfl⟩
set_option maxHeartbeats 1000000 in
theorem skip_any (bt ba : Nat) (s : ByteArray) (hs : s.size ≤ 1000000) (k : Nat) (p : ByteArray) (hp : 0 < p.size) (hp2 : p.size ≤ 1000000) (w : World) (H : RS bt ba s k w) :
    Calls Try.prog 65 #[.func (.func 64) #[] #[.pointer (some ⟨ba, 0, none⟩), .pointer (some ⟨bt, 0, none⟩)], .string p] w (SkipPost bt ba s k p.size (preS (s.extract k s.size) p) w) := by
  have hle := H.le
  have hn : k + skipN (preS (s.extract k s.size) p) p.size ≤ s.size := by
    cases hb : preS (s.extract k s.size) p with
    | false => exact hle
    | true =>
      unfold preS at hb
      rw [Bool.and_eq_true, decide_eq_true_iff, ext_size] at hb
      show k + p.size ≤ s.size
      omega
  have hcell : ((w.alloc (.cells #[.string p] 9)).drew).cell? ⟨w.heap.size, 0, none⟩ = some (.string p) := by go_simp
  have C := Lib.hid (next_skip bt ba w.heap.size s hs k _ hn (w.alloc (.cells #[.string p] 9)) (Lib.hid (H.below ((Below.refl _ _).alloc (Nat.le_refl _) _))) (Lib.hid (skip1_any _ p (by rw [ext_size]; omega) hp2 w.heap.size _ hcell)))
  have G0 : Hid (w.grownBy (w.alloc (.cells #[.string p] 9)) (some ba)) := grown_below ((Below.refl _ _).alloc (Nat.le_refl _) _)
  have HL := Lib.hid (ext_len s hn)
  clear hcell H
  cases hb : preS (s.extract k s.size) p with
  | true =>
    rw [hb] at C HL
    have hne : (s.extract k (k + skipN true p.size)).toList.isEmpty = false := emp_false (by rw [HL.out]; exact hp)
    clear hb hn
    go_enter Try.func65, Try.ntmps65
    go_wp2_with (go_at_call 64; (with_reducible refine C.out.mono ?_); rintro e w1 ⟨rfl, hR, hG⟩; have HR := Lib.hid hR; have HG := Lib.hid (grown_trans G0.out hG); clear hR hG)
    go_ret
    exact ⟨rfl, HR.out, HG.out⟩
  | false =>
    rw [hb] at C HL
    have hne : (s.extract k (k + skipN false p.size)).toList.isEmpty = true := emp_true HL.out
    clear hb hn
    go_enter Try.func65, Try.ntmps65
    go_wp2_with (go_at_call 64; (with_reducible refine C.out.mono ?_); rintro e w1 ⟨rfl, hR, hG⟩; have HR := Lib.hid hR; have HG := Lib.hid (grown_trans G0.out hG); clear hR hG)
    go_ret
    exact ⟨rfl, HR.out, HG.out⟩
end Go.Proofs.Ytbphhdmnfepbnaa.Lab
