/- Layer 6: the program's reader, its smallest parts. -/
import Derived.Lib.IndexEntry
import Derived.Lib.IndexLaws
import Derived.Lib.IndexBytes
import Derived.Test.YtilfggnhaehbcaaK2
set_option linter.unusedVariables false
set_option linter.unusedSimpArgs false
namespace Go.Proofs.Ytilfggnhaehbcaa.Rx
open Go.RowKit
theorem ret_bool {a b : Bool} (h : a = b) : Ending.returned (.bool a) = .returned (.bool b) := by rw [h]
theorem ret_int {k : IntKind} {a b : Int} (h : a = b) : Ending.returned (.int k a) = .returned (.int k b) := by rw [h]
set_option maxHeartbeats 1000000 in
theorem stringslite_indexByte (s : ByteArray) (c : Nat) (w : World) :
    Calls Try.prog 39 #[.string s, .int .u8 (c : Int)] w fun e w' => e = .returned (.int .i64 (Lib.indexByte s.data.toList c.toUInt8)) ∧ w = w' := by
  go_enter Try.func39, Try.ntmps39
  go_wp2
  rw [run_callFunc_extern Try.func52 (by kernel_rfl) (by kernel_rfl) (by kernel_rfl) (e := Extern.BytealgIndexByte.indexByte) (by kernel_rfl), Lib.run_indexByteString]
  simp only [Result.andThen]
  rw [Oper.upon_value]
  go_wp2
  go_ret
  exact ⟨by simp, rfl⟩
theorem indexByte_any (s : ByteArray) (c : Nat) (w : World) :
    Calls Try.prog 30 #[.string s, .int .u8 (c : Int)] w fun e w' => e = .returned (.int .i64 (Lib.indexByte s.data.toList c.toUInt8)) ∧ w = w' := by
  go_enter Try.func30, Try.ntmps30
  go_wp2_with (go_at_call 39; (with_reducible refine (stringslite_indexByte _ _ _).mono ?_); rintro e w' ⟨rfl, rfl⟩)
  go_ret
  exact ⟨rfl, rfl⟩
theorem indexByte_mem (l : List UInt8) (c : UInt8) : decide (0 ≤ Lib.indexByte l c) = l.contains c := by
  rw [Bool.eq_iff_iff, decide_eq_true_iff, List.contains_iff_mem]
  constructor
  · intro h
    obtain ⟨o, ho⟩ : ∃ o : Nat, Lib.indexByte l c = o := ⟨(Lib.indexByte l c).toNat, by omega⟩
    exact List.mem_of_getElem? (Lib.indexByte_some ho).1
  · intro h
    have hge := Lib.indexByte_ge l c
    apply Classical.byContradiction
    intro hn
    obtain ⟨k, hk⟩ := List.mem_iff_getElem?.1 h
    exact Lib.indexByte_none (by omega) k hk
/-- One of some bytes is next. -/
def beg (t l : List UInt8) : Bool := match l with
  | [] => false
  | c :: _ => t.contains c
theorem beg_nil (t : List UInt8) {s : ByteArray} (h : s.size = 0) : beg t s.data.toList = false := by
  have h1 : s.data.toList = [] := List.length_eq_zero_iff.1 (by rw [Array.length_toList]; exact h)
  rw [h1]; rfl
theorem data_cons {s : ByteArray} (h : 0 < s.size) : s.data.toList = s[0] :: (s.extract 1 s.size).data.toList := by
  obtain ⟨⟨l⟩⟩ := s
  cases l with
  | nil => exact absurd h (by decide)
  | cons c r =>
    simp only [ByteArray.data_extract, Array.toList_extract]
    have e : (⟨⟨c :: r⟩⟩ : ByteArray).size = r.length + 1 := rfl
    rw [e]
    simp
    rfl
theorem beg_cons (t : List UInt8) {s : ByteArray} (h : 0 < s.size) : beg t s.data.toList = t.contains s[0] := by rw [data_cons h]; rfl
def RA (ra : Nat) : Value := .pointer (some ⟨ra, 0, none⟩)
theorem But.one {ra : Nat} {w w' : World} (h : But (· = ra) w w') (j : Nat) (u : Value) : But (· = ra) w (w'.setCell ⟨ra, j, none⟩ u) := h.setCell (p := ⟨ra, j, none⟩) (fun _ => rfl) u
/-- The reader: what is left, whether it has failed. -/
def Rd (w : World) (ra : Nat) (s : ByteArray) (b : Bool) : Prop := Blk w ra 60 [.string s, .bool b]
theorem Rd.cells {w : World} {ra : Nat} {s : ByteArray} {b : Bool} (h : Rd w ra s b) : w.cell? ⟨ra, 0, none⟩ = some (.string s) ∧ w.cell? ⟨ra, 1, none⟩ = some (.bool b) ∧ w.frozen? ⟨ra, 0, none⟩ = false ∧ w.frozen? ⟨ra, 1, none⟩ = false :=
  ⟨Blk.cell h 0, Blk.cell h 1, Blk.froz h 0, Blk.froz h 1⟩
theorem emp_true {s : ByteArray} (h : s.size = 0) : s.toList.isEmpty = true := by
  rw [ByteArray.toList_eq]
  obtain ⟨⟨l⟩⟩ := s
  cases l with
  | nil => rfl
  | cons c r => exact absurd h (by show ¬ (r.length + 1 = 0); omega)
theorem emp_false {s : ByteArray} (h : 0 < s.size) : s.toList.isEmpty = false := by
  rw [ByteArray.toList_eq]
  obtain ⟨⟨l⟩⟩ := s
  cases l with
  | nil => exact absurd h (by decide)
  | cons c r => rfl
set_option maxHeartbeats 1000000 in
theorem begins_any (ra : Nat) (t s : ByteArray) (b : Bool) (w : World) (hr : Rd w ra s b) :
    Calls Try.prog 58 #[.pointer (some ⟨ra, 0, none⟩), .string t] w fun e w' => e = .returned (.bool (beg t.data.toList s.data.toList)) ∧ w = w' := by
  obtain ⟨h1, -, -, -⟩ := hr.cells
  clear hr
  by_cases h0 : s.size = 0
  · have he := emp_true h0
    have HB := Lib.hid (beg_nil t.data.toList h0)
    clear h0
    go_enter Try.func58, Try.ntmps58
    go_wp2_with fail
    go_ret
    exact ⟨by rw [HB.out]; rfl, rfl⟩
  · have h0' : 0 < s.size := by omega
    have he := emp_false h0'
    have HB := Lib.hid (beg_cons t.data.toList h0')
    have hc := s[0].toNat_lt
    have C := Lib.hid (indexByte_any t s[0].toNat w)
    go_enter Try.func58, Try.ntmps58
    go_wp2_with (go_at_call 30; (with_reducible refine C.out.mono ?_); rintro e w' ⟨rfl, rfl⟩)
    go_ret
    refine ⟨ret_bool ?_, rfl⟩
    rw [HB.out, ← indexByte_mem]
    try simp
set_option maxHeartbeats 1000000 in
theorem fail_any (ra : Nat) (s : ByteArray) (b : Bool) (w : World) (hr : Rd w ra s b) :
    Calls Try.prog 69 #[.pointer (some ⟨ra, 0, none⟩)] w fun e w' => e = .returned (.tuple #[]) ∧ Rd w' ra ⟨#[]⟩ true ∧ But (· = ra) w w' ∧ w'.heap.size = w.heap.size := by
  obtain ⟨h1, h2, h3, h4⟩ := hr.cells
  have HR := Lib.hid hr
  clear hr
  go_enter Try.func69, Try.ntmps69
  go_wp2_with fail
  go_end0
  refine ⟨rfl, ?_, ?_, by simp⟩
  · exact ((HR.out.set 0 _).set 1 _)
  · exact ((But.refl _ w).one 0 _).one 1 _
/-- What reading a byte does. -/
def NextPost (ra : Nat) (s : ByteArray) (b : Bool) (w : World) (e : Ending) (w' : World) : Prop :=
  (s.size = 0 → e = .returned (.int .u8 0) ∧ Rd w' ra ⟨#[]⟩ true) ∧ (∀ h : 0 < s.size, e = .returned (.int .u8 (s[0].toNat : Int)) ∧ Rd w' ra (s.extract 1 s.size) b) ∧ But (· = ra) w w' ∧ w'.heap.size = w.heap.size
set_option maxHeartbeats 1000000 in
theorem next_any (ra : Nat) (s : ByteArray) (b : Bool) (hs : s.size ≤ 1000) (w : World) (hr : Rd w ra s b) :
    Calls Try.prog 60 #[.pointer (some ⟨ra, 0, none⟩)] w (NextPost ra s b w) := by
  obtain ⟨h1, h2, h3, h4⟩ := hr.cells
  have HR := Lib.hid hr
  clear hr
  by_cases h0 : s.size = 0
  · have he := emp_true h0
    have H0 := Lib.hid h0
    have C := Lib.hid (fail_any ra s b w HR.out)
    clear h0
    go_enter Try.func60, Try.ntmps60
    go_wp2_with (go_at_call 69; (with_reducible refine C.out.mono ?_); rintro e w1 ⟨rfl, hR1, hB1, hS1⟩; have HR1 := Lib.hid hR1; have HB1 := Lib.hid hB1; have HS1 := Lib.hid hS1; clear hR1 hB1 hS1)
    go_ret
    exact ⟨fun _ => ⟨rfl, HR1.out⟩, fun h => absurd H0.out (by omega), HB1.out, HS1.out⟩
  · have h0' : 0 < s.size := by omega
    have he := emp_false h0'
    have hz : ¬ 9223372036854775807 < s.size := by omega
    go_enter Try.func60, Try.ntmps60
    go_wp2_with fail
    go_ret
    refine ⟨fun h => absurd h h0, fun _ => ⟨rfl, ?_⟩, ?_, by simp⟩
    · exact HR.out.set 0 _
    · exact (But.refl _ w).one 0 _
/-- What passing over a byte does. -/
def SkipPost (t : List UInt8) (ra : Nat) (s : ByteArray) (b : Bool) (w : World) (e : Ending) (w' : World) : Prop :=
  (beg t s.data.toList = true → e = .returned (.bool true) ∧ Rd w' ra (s.extract 1 s.size) b) ∧ (beg t s.data.toList = false → e = .returned (.bool false) ∧ Rd w' ra s b) ∧ But (· = ra) w w' ∧ w'.heap.size = w.heap.size
theorem beg_pos {t : List UInt8} {s : ByteArray} (h : beg t s.data.toList = true) : 0 < s.size := by
  rcases Nat.eq_zero_or_pos s.size with h0 | h0
  · rw [beg_nil t h0] at h; cases h
  · exact h0
set_option maxHeartbeats 1000000 in
theorem skip_any (t : ByteArray) (ra : Nat) (s : ByteArray) (b : Bool) (hs : s.size ≤ 1000) (w : World) (hr : Rd w ra s b) :
    Calls Try.prog 49 #[.pointer (some ⟨ra, 0, none⟩), .string t] w (SkipPost t.data.toList ra s b w) := by
  have C := Lib.hid (begins_any ra t s b w hr)
  have CN := Lib.hid (next_any ra s b hs w hr)
  have HR := Lib.hid hr
  clear hr
  have HP : Hid (beg t.data.toList s.data.toList = true → 0 < s.size) := beg_pos
  have HQ : Hid (∀ v, beg t.data.toList s.data.toList = v → beg t.data.toList s.data.toList = v) := fun _ h => h
  generalize hb : beg t.data.toList s.data.toList = v at C HP HQ
  have HB := Lib.hid hb
  clear hb
  cases v with
  | true =>
    have HP0 := Lib.hid (HP.out rfl)
    clear HP HQ
    go_enter Try.func49, Try.ntmps49
    go_wp2_with (first
      | (go_at_call 58; (with_reducible refine C.out.mono ?_); rintro e w1 ⟨rfl, rfl⟩)
      | (go_at_call 60; (with_reducible refine CN.out.mono ?_); rintro e w1 ⟨-, hn, hB1, hS1⟩; obtain ⟨rfl, hR1⟩ := hn HP0.out; have HR1 := Lib.hid hR1; have HB1 := Lib.hid hB1; have HS1 := Lib.hid hS1; clear hR1 hB1 hS1 hn))
    go_ret
    exact ⟨fun _ => ⟨rfl, HR1.out⟩, fun h => (by rw [HB.out] at h; cases h), HB1.out, HS1.out⟩
  | false =>
    clear HP HQ
    go_enter Try.func49, Try.ntmps49
    go_wp2_with (go_at_call 58; (with_reducible refine C.out.mono ?_); rintro e w1 ⟨rfl, rfl⟩)
    go_ret
    exact ⟨fun h => (by rw [HB.out] at h; cases h), fun _ => ⟨rfl, HR.out⟩, But.refl _ _, rfl⟩
end Go.Proofs.Ytilfggnhaehbcaa.Rx
