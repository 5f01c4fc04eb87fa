/- Layer 5: names; lists of names. -/
import Derived.Test.YtbphhdmnfepbnaaLA
set_option linter.unusedVariables false
set_option linter.unusedSimpArgs false
namespace Go.Proofs.Ytbphhdmnfepbnaa.Lab
open Go.RowKit
theorem emp_true {s : ByteArray} (h : s.size = 0) : s.toList.isEmpty = true := by
  rw [ByteArray.toList_eq, List.isEmpty_iff, ← List.length_eq_zero_iff, Array.length_toList]
  exact h
theorem emp_false {s : ByteArray} (h : 0 < s.size) : s.toList.isEmpty = false := by
  rw [ByteArray.toList_eq, List.isEmpty_eq_false_iff]
  intro e
  have := congrArg List.length e
  rw [Array.length_toList, List.length_nil] at this
  have h2 : s.data.size = s.size := rfl
  omega
theorem nameB_nil {s : ByteArray} (h : s.size = 0) : nameB s = false := by unfold nameB; simp [h]
theorem nameB_long {s : ByteArray} (h : 60 < s.size) : nameB s = false := by
  have : ¬ s.size ≤ 60 := by omega
  unfold nameB; simp [this]
theorem nameB_dig {s : ByteArray} (h : 0 < s.size) (hd : digitB s[0].toNat = true) : nameB s = false := by
  unfold nameB
  rw [head_at s h, hd]
  simp
theorem nameB_word {s : ByteArray} (h : 0 < s.size) (h2 : s.size ≤ 60) (hd : digitB s[0].toNat = false) : nameB s = ((lead letterB s.data.toList : Int) == (s.size : Int)) := by
  unfold nameB
  rw [head_at s h, hd, ← lead_eq_all, Array.length_toList]
  have h3 : s.data.size = s.size := rfl
  rw [h3, Bool.eq_iff_iff]
  simp only [Bool.and_eq_true, decide_eq_true_eq, beq_iff_eq, Bool.not_false, and_true]
  omega
set_option maxHeartbeats 1000000 in
theorem isName_any (s : ByteArray) (hs : s.size ≤ maxLen) (w : World) : Calls Try.prog 40 #[.string s] w fun e w' => e = .returned (.bool (nameB s)) ∧ w = w' := by
  have W := Lib.hid (wordSize_any s hs)
  unfold maxLen at hs
  rcases Nat.eq_zero_or_pos s.size with h0 | h0
  · have he := emp_true h0
    have HN := Lib.hid (nameB_nil h0)
    clear h0
    go_enter Try.func40, Try.ntmps40
    go_wp2
    go_ret
    rw [HN.out]
    exact ⟨rfl, rfl⟩
  · have he := emp_false h0
    by_cases h60 : 60 < s.size
    · have HN := Lib.hid (nameB_long h60)
      go_enter Try.func40, Try.ntmps40
      go_wp2
      go_ret
      rw [HN.out]
      exact ⟨rfl, rfl⟩
    · have h60' : s.size ≤ 60 := by omega
      clear h60
      have D := Lib.hid (digit_any s[0].toNat w)
      cases hd : digitB s[0].toNat with
      | true =>
        have HN := Lib.hid (nameB_dig h0 hd)
        rw [hd] at D
        clear hd
        go_enter Try.func40, Try.ntmps40
        go_wp2_with (go_at_call 60; (with_reducible refine D.out.mono ?_); rintro e w' ⟨rfl, rfl⟩)
        go_ret
        rw [HN.out]
        exact ⟨rfl, rfl⟩
      | false =>
        have HN := Lib.hid (nameB_word h0 h60' hd)
        rw [hd] at D
        clear hd
        go_enter Try.func40, Try.ntmps40
        go_wp2_with (first | (go_at_call 60; (with_reducible refine D.out.mono ?_); rintro e w' ⟨rfl, rfl⟩) | (go_at_call 61; (with_reducible refine (W.out _).mono ?_); rintro e w' ⟨rfl, rfl⟩))
        go_ret
        rw [HN.out]
        exact ⟨rfl, rfl⟩
theorem all_stop {s : ByteArray} {k : Nat} (hk : k < s.size) (h : letterB s[k].toNat = false) : nameB s = false := by
  unfold nameB
  have : s.data.toList.all (fun c => letterB c.toNat) = false := by
    rw [List.all_eq_false]
    exact ⟨s[k], by rw [show s[k] = s.data.toList[k]'(by simpa using hk) from rfl]; exact List.getElem_mem _, by rw [h]; decide⟩
  rw [this]
  simp
theorem nameB_rest {s : ByteArray} (h0 : 0 < s.size) (h60 : s.size ≤ 60) (h : ∀ c ∈ s.data.toList.take s.size, letterB c.toNat = true) : nameB s = (decide ((s[0].toNat : Int) < 48) || decide (57 < (s[0].toNat : Int))) := by
  unfold nameB
  have hs : s.data.toList.length = s.size := Array.length_toList
  rw [List.take_of_length_le (by omega)] at h
  rw [head_at s h0, List.all_eq_true.2 h]
  unfold digitB
  rw [Bool.eq_iff_iff]
  simp only [Bool.and_eq_true, Bool.or_eq_true, decide_eq_true_eq, Bool.not_eq_true', decide_eq_false_iff_not, and_true]
  omega
set_option maxHeartbeats 1000000 in
theorem refName_any (s : ByteArray) (hs : s.size ≤ maxLen) (w : World) : Calls Try.prog 41 #[.string s] w fun e w' => e = .returned (.bool (nameB s)) ∧ w = w' := by
  unfold maxLen at hs
  go_enter Try.func41, Try.ntmps41
  go_wp2
  go_loop [3] (fun i => ∃ k : Nat, k ≤ s.size ∧ i = .int .i64 k ∧ Hid (∀ c ∈ s.data.toList.take k, letterB c.toNat = true)) (fun i => s.size - (intOf i).toNat)
  case atStart => exact ⟨0, by omega, rfl, by intro c hc; simp at hc⟩
  case round =>
    obtain ⟨k, hk, rfl, H⟩ := hrel
    by_cases hlt : k < s.size
    · have C := Lib.hid (letter_any s[k].toNat w)
      have HS : Hid (letterB s[k].toNat = false → nameB s = false) := fun h => all_stop hlt h
      cases hb : letterB s[k].toNat with
      | true =>
        rw [hb] at C
        have HB := Lib.hid hb
        clear hb HS
        go_wp2_with (go_at_call 62; (with_reducible refine C.out.mono ?_); rintro e w' ⟨rfl, rfl⟩)
        go_round
        case rel =>
          refine ⟨k + 1, by omega, by go_num, ?_⟩
          intro c hc
          rw [take_snoc s hlt] at hc
          rcases List.mem_append.1 hc with h | h
          · exact H.out c h
          · simp only [List.mem_singleton] at h
            rw [h]
            exact HB.out
        case measure => simp [intOf]; omega
      | false =>
        rw [hb] at C
        have HE := Lib.hid (HS.out hb)
        clear hb HS
        go_wp2_with (go_at_call 62; (with_reducible refine C.out.mono ?_); rintro e w' ⟨rfl, rfl⟩)
        go_ret
        rw [HE.out]
        exact ⟨rfl, rfl⟩
    · obtain rfl : k = s.size := by omega
      clear hlt hk
      rcases Nat.eq_zero_or_pos s.size with h0 | h0
      · have HN := Lib.hid (nameB_nil h0)
        have h1 : (s.size : Int) ≤ 0 := by omega
        clear h0
        go_wp2
        go_ret
        rw [HN.out]
        exact ⟨rfl, rfl⟩
      · by_cases h60 : 60 < s.size
        · have HN := Lib.hid (nameB_long h60)
          go_wp2
          go_ret
          rw [HN.out]
          exact ⟨rfl, rfl⟩
        · have h60' : s.size ≤ 60 := by omega
          clear h60
          have HN := Lib.hid (nameB_rest h0 h60' H.out)
          by_cases hd : (s[0].toNat : Int) < 48
          all_goals
            go_wp2
            go_ret
            refine ⟨ret_bool ?_, rfl⟩
            rw [HN.out]
            first | (simp [hd]; done) | (simp [hd]; omega)

/-- The slice at A reads as the strings l. -/
def SS (w : World) (B : Nat) (A : Option Addr) (l : List ByteArray) : Prop :=
  l ≠ [] → ∃ b off, A = some ⟨b, off, none⟩ ∧ b < B ∧ ∀ j (h : j < l.length), w.cell? ⟨b, off + j, none⟩ = some (.string l[j])
theorem SS.at_ {w : World} {B : Nat} {A : Option Addr} {l : List ByteArray} (h : SS w B A l) {k : Nat} (hk : k < l.length) :
    ∃ b off, A = some ⟨b, off, none⟩ ∧ b < B ∧ w.cell? ⟨b, off + k, none⟩ = some (.string l[k]) := by
  obtain ⟨b, off, e, hb, hc⟩ := h (by intro e; rw [e] at hk; simp at hk)
  exact ⟨b, off, e, hb, hc k hk⟩
theorem SS.keep {w w' : World} {B : Nat} {A : Option Addr} {l : List ByteArray} (h : SS w B A l) (hk : ∀ p : Addr, p.block < B → w'.cell? p = w.cell? p) : SS w' B A l := fun hne => by
  obtain ⟨b, off, e, hb, hc⟩ := h hne
  exact ⟨b, off, e, hb, fun j hj => (hk _ hb).trans (hc j hj)⟩
theorem SS.below {w w' : World} {B : Nat} {A : Option Addr} {l : List ByteArray} (h : SS w B A l) (hb : Below B w w') : SS w' B A l := h.keep fun _ hp => hb.cell hp
theorem SS.more {w : World} {B B' : Nat} {A : Option Addr} {l : List ByteArray} (h : SS w B A l) (hB : B ≤ B') : SS w B' A l := fun hne => by
  obtain ⟨b, off, e, hb, hc⟩ := h hne
  exact ⟨b, off, e, by omega, hc⟩
theorem SS.nil (w : World) (B : Nat) (A : Option Addr) : SS w B A [] := fun h => absurd rfl h

/-- Two strings are equal. -/
def eqS (a b : ByteArray) : Bool := a.toList == b.toList
theorem eqS_iff {a b : ByteArray} : eqS a b = true ↔ a = b := by
  unfold eqS
  rw [beq_iff_eq, ByteArray.toList_eq, ByteArray.toList_eq]
  refine ⟨fun h => ?_, fun h => by rw [h]⟩
  apply ByteArray.ext
  exact Array.toList_inj.1 h
theorem eqS_comm (a b : ByteArray) : eqS a b = eqS b a := by
  rw [Bool.eq_iff_iff, eqS_iff, eqS_iff]
  exact eq_comm
/-- A name is in a list. -/
def hasB (l : List ByteArray) (s : ByteArray) : Bool := l.any fun x => eqS x s
theorem hasB_at {l : List ByteArray} {s : ByteArray} {k : Nat} (hk : k < l.length) (h : (l[k].toList == s.toList) = true) : hasB l s = true := by
  unfold hasB
  rw [List.any_eq_true]
  exact ⟨l[k], List.getElem_mem _, h⟩
theorem hasB_no {l : List ByteArray} {s : ByteArray} (h : ∀ j (hj : j < l.length), (l[j].toList == s.toList) = false) : hasB l s = false := by
  unfold hasB
  rw [List.any_eq_false]
  intro x hx
  obtain ⟨j, hj, rfl⟩ := List.getElem_of_mem hx
  have := h j hj
  unfold eqS
  rw [this]
  decide
set_option maxHeartbeats 1000000 in
theorem refHas_any (l : List ByteArray) (hl : l.length ≤ maxLen) (s : ByteArray) (A : Option Addr) (c B : Nat) (w : World) (hL : SS w B A l) :
    Calls Try.prog 43 #[.slice A l.length c, .string s] w fun e w' => e = .returned (.bool (hasB l s)) ∧ w = w' := by
  unfold maxLen at hl
  have HL := Lib.hid hL
  clear hL
  go_enter Try.func43, Try.ntmps43
  go_wp2
  go_loop [5] (fun i => ∃ k : Nat, k ≤ l.length ∧ i = .int .i64 k ∧ Hid (∀ j (hj : j < l.length), j < k → (l[j].toList == s.toList) = false)) (fun i => l.length - (intOf i).toNat)
  case atStart => exact ⟨0, by omega, rfl, fun j _ h => by omega⟩
  case round =>
    obtain ⟨k, hk, rfl, H⟩ := hrel
    by_cases hlt : k < l.length
    · obtain ⟨b, off, rfl, hb, h1⟩ := HL.out.at_ hlt
      cases he : (l[k].toList == s.toList) with
      | true =>
        have HE := Lib.hid (hasB_at hlt he)
        go_wp2
        go_ret
        rw [HE.out]
        exact ⟨rfl, rfl⟩
      | false =>
        have H2 : Hid (∀ j (hj : j < l.length), j < k + 1 → (l[j].toList == s.toList) = false) := fun j hj h => by
          rcases Nat.lt_or_ge j k with h3 | h3
          · exact H.out j hj h3
          · obtain rfl : j = k := by omega
            exact he
        clear H
        go_wp2
        go_round
        case rel => exact ⟨k + 1, by omega, by go_num, H2⟩
        case measure => simp [intOf]; omega
    · obtain rfl : k = l.length := by omega
      have HE := Lib.hid (hasB_no fun j hj => H.out j hj hj)
      clear H
      go_wp2
      go_ret
      rw [HE.out]
      exact ⟨rfl, rfl⟩
/-- What slices.Index hands back. -/
def IdxPost (b : Bool) (w : World) (e : Ending) (w' : World) : Prop := ∃ i : Int, e = .returned (.int .i64 i) ∧ decide (0 ≤ i) = b ∧ w = w'
theorem idx_any (l : List ByteArray) (hl : l.length ≤ maxLen) (s : ByteArray) (A : Option Addr) (c B : Nat) (w : World) (hL : SS w B A l) :
    Calls Try.prog 55 #[.slice A l.length c, .string s] w (IdxPost (hasB l s) w) := by
  unfold maxLen at hl
  have HL := Lib.hid hL
  clear hL
  go_enter Try.func55, Try.ntmps55
  go_wp2
  go_loop [8] (fun i => ∃ k : Nat, k ≤ l.length ∧ i = .int .i64 k ∧ Hid (∀ j (hj : j < l.length), j < k → (l[j].toList == s.toList) = false)) (fun i => l.length - (intOf i).toNat)
  case atStart => exact ⟨0, by omega, rfl, fun j _ h => by omega⟩
  case round =>
    obtain ⟨k, hk, rfl, H⟩ := hrel
    by_cases hlt : k < l.length
    · obtain ⟨b, off, rfl, hb, h1⟩ := HL.out.at_ hlt
      cases he : (l[k].toList == s.toList) with
      | true =>
        have HE := Lib.hid (hasB_at hlt he)
        have he2 : (s.toList == l[k].toList) = true := by rw [beq_iff_eq] at he ⊢; exact he.symm
        clear he
        go_wp2
        go_ret
        exact ⟨_, rfl, by rw [HE.out]; simp, rfl⟩
      | false =>
        have H2 : Hid (∀ j (hj : j < l.length), j < k + 1 → (l[j].toList == s.toList) = false) := fun j hj h => by
          rcases Nat.lt_or_ge j k with h3 | h3
          · exact H.out j hj h3
          · obtain rfl : j = k := by omega
            exact he
        have he2 : (s.toList == l[k].toList) = false := by
          rw [beq_eq_false_iff_ne] at he ⊢
          exact fun e => he e.symm
        clear H he
        go_wp2
        go_round
        case rel => exact ⟨k + 1, by omega, by go_num, H2⟩
        case measure => simp [intOf]; omega
    · obtain rfl : k = l.length := by omega
      have HE := Lib.hid (hasB_no fun j hj => H.out j hj hj)
      clear H
      go_wp2
      go_ret
      exact ⟨_, rfl, by rw [HE.out]; decide, rfl⟩
set_option maxHeartbeats 1000000 in
theorem contains_any (l : List ByteArray) (hl : l.length ≤ maxLen) (s : ByteArray) (A : Option Addr) (c B : Nat) (w : World) (hL : SS w B A l) :
    Calls Try.prog 33 #[.slice A l.length c, .string s] w fun e w' => e = .returned (.bool (hasB l s)) ∧ w = w' := by
  have C := Lib.hid (idx_any l hl s A c B w hL)
  clear hL hl
  go_enter Try.func33, Try.ntmps33
  go_wp2_with (go_at_call 55; (with_reducible refine C.out.mono ?_); rintro e w' ⟨i, rfl, hi, rfl⟩; have HI := Lib.hid hi; clear hi)
  go_ret
  exact ⟨ret_bool HI.out, rfl⟩
end Go.Proofs.Ytbphhdmnfepbnaa.Lab
