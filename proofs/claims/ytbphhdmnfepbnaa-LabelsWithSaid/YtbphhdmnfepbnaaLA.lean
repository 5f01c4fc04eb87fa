/- Layer 5: bytes of names and of values; scanning. -/
import Derived.Test.YtbphhdmnfepbnaaKit
set_option linter.unusedVariables false
set_option linter.unusedSimpArgs false
namespace Go.Proofs.Ytbphhdmnfepbnaa.Lab
open Go.RowKit
/-- A byte that may stand in a name. -/
def letterB (c : Nat) : Bool := decide ((97 ≤ c ∧ c ≤ 122) ∨ (65 ≤ c ∧ c ≤ 90) ∨ (48 ≤ c ∧ c ≤ 57) ∨ c = 95)
def digitB (c : Nat) : Bool := decide (48 ≤ c ∧ c ≤ 57)
/-- A byte that stands for itself in a quoted value. -/
def plainB (c : Nat) : Bool := decide (c ≠ 92 ∧ c ≠ 34 ∧ c ≠ 10)
theorem ret_bool {a b : Bool} (h : a = b) : Ending.returned (.bool a) = .returned (.bool b) := by rw [h]
theorem ret_int {k : IntKind} {a b : Int} (h : a = b) : Ending.returned (.int k a) = .returned (.int k b) := by rw [h]
set_option maxHeartbeats 1000000 in
theorem digit_any (c : Nat) (w : World) : Calls Try.prog 60 #[.int .u8 (c : Int)] w fun e w' => e = .returned (.bool (digitB c)) ∧ w = w' := by
  go_enter Try.func60, Try.ntmps60
  go_wp2
  all_goals
    go_ret
    refine ⟨ret_bool ?_, rfl⟩
    unfold digitB
    rw [Bool.eq_iff_iff]
    simp only [Bool.or_eq_true, Bool.and_eq_true, decide_eq_true_eq, beq_iff_eq, Bool.false_eq_true, false_or, or_false, true_and, and_true, true_iff, false_iff]
    omega
set_option maxHeartbeats 1000000 in
theorem letter_any (c : Nat) (w : World) : Calls Try.prog 62 #[.int .u8 (c : Int)] w fun e w' => e = .returned (.bool (letterB c)) ∧ w = w' := by
  go_enter Try.func62, Try.ntmps62
  go_wp2
  all_goals
    go_ret
    refine ⟨ret_bool ?_, rfl⟩
    unfold letterB
    rw [Bool.eq_iff_iff]
    simp only [Bool.or_eq_true, Bool.and_eq_true, decide_eq_true_eq, beq_iff_eq, Bool.false_eq_true, false_or, or_false, true_and, and_true, true_iff, false_iff]
    omega
set_option maxHeartbeats 1000000 in
theorem word1_any (c : Nat) (w : World) : Calls Try.prog 71 #[.int .u8 (c : Int)] w fun e w' => e = .returned (.bool (letterB c)) ∧ w = w' := by
  go_enter Try.func71, Try.ntmps71
  go_wp2_with (go_at_call 60; refine (digit_any _ _).mono ?_; rintro e w' ⟨rfl, rfl⟩)
  all_goals
    go_ret
    refine ⟨ret_bool ?_, rfl⟩
    unfold letterB
    try unfold digitB
    rw [Bool.eq_iff_iff]
    simp only [Bool.or_eq_true, Bool.and_eq_true, decide_eq_true_eq, beq_iff_eq, Bool.false_eq_true, false_or, or_false, true_and, and_true, true_iff, false_iff, decide_true]
    omega
set_option maxHeartbeats 1000000 in
theorem plain1_any (c : Nat) (w : World) : Calls Try.prog 78 #[.int .u8 (c : Int)] w fun e w' => e = .returned (.bool (plainB c)) ∧ w = w' := by
  go_enter Try.func78, Try.ntmps78
  go_wp2
  all_goals
    go_ret
    refine ⟨ret_bool ?_, rfl⟩
    unfold plainB
    rw [Bool.eq_iff_iff]
    simp only [Bool.or_eq_true, Bool.and_eq_true, decide_eq_true_eq, beq_iff_eq, Bool.false_eq_true, false_or, or_false, true_and, and_true, true_iff, false_iff, bne_iff_ne, ne_eq, Bool.not_eq_true', beq_eq_false_iff_ne]
    omega

/-- The number of bytes ahead of the first that is not ok. -/
def lead (p : Nat → Bool) : List UInt8 → Nat
  | [] => 0
  | c :: r => if p c.toNat then lead p r + 1 else 0
theorem lead_le (p : Nat → Bool) : ∀ l, lead p l ≤ l.length
  | [] => Nat.le_refl _
  | c :: r => by
    have := lead_le p r
    rw [lead, List.length_cons]
    split <;> omega
theorem lead_take (p : Nat → Bool) : ∀ (l : List UInt8) (k : Nat), (∀ c ∈ l.take k, p c.toNat = true) → k ≤ l.length → lead p l = k + lead p (l.drop k)
  | l, 0, _, _ => by simp
  | [], k + 1, _, h => by simp at h
  | c :: r, k + 1, h, hl => by
    have h0 : p c.toNat = true := h c (by simp)
    rw [lead, if_pos h0, lead_take p r k (fun x hx => h x (by simp [hx])) (by simpa using hl), List.drop_succ_cons]
    omega
theorem drop_cons (s : ByteArray) {k : Nat} (h : k < s.size) : s.data.toList.drop k = s[k] :: s.data.toList.drop (k + 1) := by
  rw [List.drop_eq_getElem_cons (by simpa using h)]
  rfl
theorem take_snoc (s : ByteArray) {k : Nat} (h : k < s.size) : s.data.toList.take (k + 1) = s.data.toList.take k ++ [s[k]] := by
  rw [List.take_add_one, List.getElem?_eq_getElem (by simpa using h)]
  rfl
theorem lead_stop (p : Nat → Bool) (s : ByteArray) {k : Nat} (hk : k < s.size) (h : ∀ c ∈ s.data.toList.take k, p c.toNat = true) (hp : p s[k].toNat = false) : lead p s.data.toList = k := by
  rw [lead_take p _ k h (by rw [Array.length_toList]; exact Nat.le_of_lt hk), drop_cons s hk, lead, if_neg (by simp [hp])]
  omega
theorem lead_all (p : Nat → Bool) (s : ByteArray) (h : ∀ c ∈ s.data.toList.take s.size, p c.toNat = true) : lead p s.data.toList = s.size := by
  have hs : s.data.toList.length = s.size := Array.length_toList
  rw [lead_take p _ s.size h (by omega), List.drop_of_length_le (by omega)]
  rfl
set_option maxHeartbeats 1000000 in
theorem leading_word (s : ByteArray) (hs : s.size ≤ maxLen) (w : World) :
    Calls Try.prog 70 #[.string s, .func (.func 71) #[] #[]] w fun e w' => e = .returned (.int .i64 (lead letterB s.data.toList)) ∧ w = w' := by
  unfold maxLen at hs
  go_enter Try.func70, Try.ntmps70
  go_wp2
  go_loop [8] (fun i => ∃ k : Nat, k ≤ s.size ∧ i = .int .i64 k ∧ Hid (∀ c ∈ s.data.toList.take k, letterB c.toNat = true)) (fun i => s.size - (intOf i).toNat)
  case atStart => exact ⟨0, by omega, rfl, by intro c hc; simp at hc⟩
  case round =>
    obtain ⟨k, hk, rfl, H⟩ := hrel
    by_cases hlt : k < s.size
    · have C := Lib.hid (word1_any s[k].toNat w)
      have HS : Hid (letterB s[k].toNat = false → lead letterB s.data.toList = k) := fun h => lead_stop _ s hlt H.out h
      cases hb : letterB s[k].toNat with
      | true =>
        rw [hb] at C
        have HB := Lib.hid hb
        clear hb HS
        go_wp2_with ((with_reducible refine C.out.mono ?_); rintro e w' ⟨rfl, rfl⟩)
        go_round
        case rel =>
          refine ⟨k + 1, by omega, by go_num, ?_⟩
          intro c hc
          rw [take_snoc s hlt] at hc
          rcases List.mem_append.1 hc with h | h
          · exact H.out c h
          · simp only [List.mem_singleton] at h
            rw [h]
            exact HB.out
        case measure => simp [intOf]; omega
      | false =>
        rw [hb] at C
        have HE := Lib.hid (HS.out hb)
        clear hb HS
        go_wp2_with ((with_reducible refine C.out.mono ?_); rintro e w' ⟨rfl, rfl⟩)
        go_ret
        rw [HE.out]
        exact ⟨rfl, rfl⟩
    · obtain rfl : k = s.size := by omega
      have HE := Lib.hid (lead_all letterB s H.out)
      clear H
      go_wp2
      go_ret
      rw [HE.out]
      exact ⟨rfl, rfl⟩
set_option maxHeartbeats 1000000 in
theorem leading_plain (s : ByteArray) (hs : s.size ≤ maxLen) (w : World) :
    Calls Try.prog 70 #[.string s, .func (.func 78) #[] #[]] w fun e w' => e = .returned (.int .i64 (lead plainB s.data.toList)) ∧ w = w' := by
  unfold maxLen at hs
  go_enter Try.func70, Try.ntmps70
  go_wp2
  go_loop [8] (fun i => ∃ k : Nat, k ≤ s.size ∧ i = .int .i64 k ∧ Hid (∀ c ∈ s.data.toList.take k, plainB c.toNat = true)) (fun i => s.size - (intOf i).toNat)
  case atStart => exact ⟨0, by omega, rfl, by intro c hc; simp at hc⟩
  case round =>
    obtain ⟨k, hk, rfl, H⟩ := hrel
    by_cases hlt : k < s.size
    · have C := Lib.hid (plain1_any s[k].toNat w)
      have HS : Hid (plainB s[k].toNat = false → lead plainB s.data.toList = k) := fun h => lead_stop _ s hlt H.out h
      cases hb : plainB s[k].toNat with
      | true =>
        rw [hb] at C
        have HB := Lib.hid hb
        clear hb HS
        go_wp2_with ((with_reducible refine C.out.mono ?_); rintro e w' ⟨rfl, rfl⟩)
        go_round
        case rel =>
          refine ⟨k + 1, by omega, by go_num, ?_⟩
          intro c hc
          rw [take_snoc s hlt] at hc
          rcases List.mem_append.1 hc with h | h
          · exact H.out c h
          · simp only [List.mem_singleton] at h
            rw [h]
            exact HB.out
        case measure => simp [intOf]; omega
      | false =>
        rw [hb] at C
        have HE := Lib.hid (HS.out hb)
        clear hb HS
        go_wp2_with ((with_reducible refine C.out.mono ?_); rintro e w' ⟨rfl, rfl⟩)
        go_ret
        rw [HE.out]
        exact ⟨rfl, rfl⟩
    · obtain rfl : k = s.size := by omega
      have HE := Lib.hid (lead_all plainB s H.out)
      clear H
      go_wp2
      go_ret
      rw [HE.out]
      exact ⟨rfl, rfl⟩
theorem wordSize_any (s : ByteArray) (hs : s.size ≤ maxLen) (w : World) :
    Calls Try.prog 61 #[.string s] w fun e w' => e = .returned (.int .i64 (lead letterB s.data.toList)) ∧ w = w' := by
  go_enter Try.func61, Try.ntmps61
  go_wp2_with (go_at_call 70; (with_reducible refine (leading_word _ hs _).mono ?_); rintro e w' ⟨rfl, rfl⟩)
  go_ret
  exact ⟨rfl, rfl⟩
theorem plainSize_any (s : ByteArray) (hs : s.size ≤ maxLen) (w : World) :
    Calls Try.prog 77 #[.string s] w fun e w' => e = .returned (.int .i64 (lead plainB s.data.toList)) ∧ w = w' := by
  go_enter Try.func77, Try.ntmps77
  go_wp2_with (go_at_call 70; (with_reducible refine (leading_plain _ hs _).mono ?_); rintro e w' ⟨rfl, rfl⟩)
  go_ret
  exact ⟨rfl, rfl⟩

/-- A name. -/
def nameB (s : ByteArray) : Bool := decide (0 < s.size ∧ s.size ≤ 60) && s.data.toList.all (fun c => letterB c.toNat) && !digitB (s.data.toList.headD 0).toNat
theorem lead_eq_all (p : Nat → Bool) : ∀ l : List UInt8, decide (lead p l = l.length) = l.all (fun c => p c.toNat)
  | [] => rfl
  | c :: r => by
    have h := lead_eq_all p r
    have h2 := lead_le p r
    rw [lead, List.all_cons]
    cases hp : p c.toNat with
    | true => simp only [if_true, List.length_cons, Bool.true_and, ← h]; congr 1; simp
    | false => simp
theorem head_at (s : ByteArray) (h : 0 < s.size) : s.data.toList.headD 0 = s[0] := by
  have := drop_cons s h
  rw [List.drop_zero] at this
  rw [this]
  rfl
end Go.Proofs.Ytbphhdmnfepbnaa.Lab
