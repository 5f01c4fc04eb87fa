
/- Layer 5: words for lists of labels in memory. Layer 5: bytes of names and of values; scanning. Layer 5: names; lists of names. Layer 5: Check. Layer 5: equality, order and hashes of strings; lists that are equal, great. Layer 5: slices.Equal at labels, Great, Get of the reference. Layer 5: lists that a call makes; Keep, Drop and With of the reference. Layer 5: a slice that reads as cells, nil let in; append onto a row of the call's own (after the guide's words for memory). Layer 5: With of the reference. -/
import Derived.WalkKit
import Derived.WalkSpells
import Derived.WalkLawsBesides
import Derived.Lib.Hide
import Derived.IntWalk
import Derived.KernelRfl
import Derived.Outline
import Derived.Below
import Derived.Laws.OwnMore
import Derived.Deep.Draws
import Derived.Test.YtdeppcddknakjaaGreatDoorProg
import Derived.Deep.QuietTactic
import Derived.BigQuiet
import Derived.Laws.StructEq
import Derived.WalkSmall
import Derived.Laws.AppendOwnNone
import Derived.Maps.AppendAt
import Derived.OwnWalk
import Derived.RangeFuncBox
import Derived.Deep.AppendLies
import Derived.RegionTactic
set_option maxRecDepth 100000
set_option linter.unusedVariables false
set_option linter.unusedSimpArgs false
namespace Go.Proofs.YtdeppcddknakjaaGreatDoor.Lab
open Go.RowKit

/-- A label. -/
structure Lb where
 n : ByteArray
 v : ByteArray
/-- The slice at A reads as the labels l; it lies below block B. -/
def LS (w : World) (B : Nat) (A : Option Addr) (l : List Lb) : Prop :=
 l ≠ [] → ∃ b off, A = some ⟨b, off, none⟩ ∧ b < B ∧ ∀ j (h : j < l.length), w.cell? ⟨b, off + j * 2, none⟩ = some (.string l[j].n) ∧ w.cell? ⟨b, off + j * 2 + 1, none⟩ = some (.string l[j].v)
theorem LS.at_ {w : World} {B : Nat} {A : Option Addr} {l : List Lb} (h : LS w B A l) {k : Nat} (hk : k < l.length) :
  ∃ b off, A = some ⟨b, off, none⟩ ∧ b < B ∧ w.cell? ⟨b, off + k * 2, none⟩ = some (.string l[k].n) ∧ w.cell? ⟨b, off + k * 2 + 1, none⟩ = some (.string l[k].v) := by
 obtain ⟨b, off, e, hb, hc⟩ := h (by intro e; rw [e] at hk; simp at hk)
 exact ⟨b, off, e, hb, hc k hk⟩
theorem LS.keep {w w' : World} {B : Nat} {A : Option Addr} {l : List Lb} (h : LS w B A l) (hk : ∀ p : Addr, p.block < B → w'.cell? p = w.cell? p) : LS w' B A l := fun hne => by
 obtain ⟨b, off, e, hb, hc⟩ := h hne
 exact ⟨b, off, e, hb, fun j hj => ⟨(hk _ hb).trans (hc j hj).1, (hk _ hb).trans (hc j hj).2⟩⟩
theorem LS.below {w w' : World} {B : Nat} {A : Option Addr} {l : List Lb} (h : LS w B A l) (hb : Below B w w') : LS w' B A l := h.keep fun _ hp => hb.cell hp
theorem LS.more {w : World} {B B' : Nat} {A : Option Addr} {l : List Lb} (h : LS w B A l) (hB : B ≤ B') : LS w B' A l := fun hne => by
 obtain ⟨b, off, e, hb, hc⟩ := h hne
 exact ⟨b, off, e, by omega, hc⟩
theorem LS.nil (w : World) (B : Nat) (A : Option Addr) : LS w B A [] := fun h => absurd rfl h
end Go.Proofs.YtdeppcddknakjaaGreatDoor.Lab
namespace Go.Proofs.YtdeppcddknakjaaGreatDoor.Lab
open Go.RowKit
/-- A byte that may stand in a name. -/
def letterB (c : Nat) : Bool := decide ((97 ≤ c ∧ c ≤ 122) ∨ (65 ≤ c ∧ c ≤ 90) ∨ (48 ≤ c ∧ c ≤ 57) ∨ c = 95)
def digitB (c : Nat) : Bool := decide (48 ≤ c ∧ c ≤ 57)
theorem ret_bool {a b : Bool} (h : a = b) : Ending.returned (.bool a) = .returned (.bool b) := by rw [h]
theorem ret_int {k : IntKind} {a b : Int} (h : a = b) : Ending.returned (.int k a) = .returned (.int k b) := by rw [h]
set_option maxHeartbeats 1000000 in
theorem digit_any (c : Nat) (w : World) : Calls Tryz.prog 153 #[.int .u8 (c : Int)] w fun e w' => e = .returned (.bool (digitB c)) ∧ w = w' := by
 go_enter Tryz.func153, Tryz.ntmps153
 go_wp2
 all_goals
  go_ret
  refine ⟨ret_bool ?_, rfl⟩
  unfold digitB
  rw [Bool.eq_iff_iff]
  simp only [Bool.or_eq_true, Bool.and_eq_true, decide_eq_true_eq, beq_iff_eq, Bool.false_eq_true, false_or, or_false, true_and, and_true, true_iff, false_iff]
  omega
set_option maxHeartbeats 1000000 in
theorem letter_any (c : Nat) (w : World) : Calls Tryz.prog 97 #[.int .u8 (c : Int)] w fun e w' => e = .returned (.bool (letterB c)) ∧ w = w' := by
 go_enter Tryz.func97, Tryz.ntmps97
 go_wp2
 all_goals
  go_ret
  refine ⟨ret_bool ?_, rfl⟩
  unfold letterB
  rw [Bool.eq_iff_iff]
  simp only [Bool.or_eq_true, Bool.and_eq_true, decide_eq_true_eq, beq_iff_eq, Bool.false_eq_true, false_or, or_false, true_and, and_true, true_iff, false_iff]
  omega
set_option maxHeartbeats 1000000 in
theorem word1_any (c : Nat) (w : World) : Calls Tryz.prog 172 #[.int .u8 (c : Int)] w fun e w' => e = .returned (.bool (letterB c)) ∧ w = w' := by
 go_enter Tryz.func172, Tryz.ntmps172
 go_wp2_with (go_at_call 153; refine (digit_any _ _).mono ?_; rintro e w' ⟨rfl, rfl⟩)
 all_goals
  go_ret
  refine ⟨ret_bool ?_, rfl⟩
  unfold letterB
  try unfold digitB
  rw [Bool.eq_iff_iff]
  simp only [Bool.or_eq_true, Bool.and_eq_true, decide_eq_true_eq, beq_iff_eq, Bool.false_eq_true, false_or, or_false, true_and, and_true, true_iff, false_iff, decide_true]
  omega
/-- The number of bytes ahead of the first that is not ok. -/
def lead (p : Nat → Bool) : List UInt8 → Nat
 | [] => 0
 | c :: r => if p c.toNat then lead p r + 1 else 0
theorem lead_le (p : Nat → Bool) : ∀ l, lead p l ≤ l.length
 | [] => Nat.le_refl _
 | c :: r => by
  have := lead_le p r
  rw [lead, List.length_cons]
  split <;> omega
theorem lead_take (p : Nat → Bool) : ∀ (l : List UInt8) (k : Nat), (∀ c ∈ l.take k, p c.toNat = true) → k ≤ l.length → lead p l = k + lead p (l.drop k)
 | l, 0, _, _ => by simp
 | [], k + 1, _, h => by simp at h
 | c :: r, k + 1, h, hl => by
  have h0 : p c.toNat = true := h c (by simp)
  rw [lead, if_pos h0, lead_take p r k (fun x hx => h x (by simp [hx])) (by simpa using hl), List.drop_succ_cons]
  omega
theorem drop_cons (s : ByteArray) {k : Nat} (h : k < s.size) : s.data.toList.drop k = s[k] :: s.data.toList.drop (k + 1) := by
 rw [List.drop_eq_getElem_cons (by simpa using h)]
 rfl
theorem take_snoc (s : ByteArray) {k : Nat} (h : k < s.size) : s.data.toList.take (k + 1) = s.data.toList.take k ++ [s[k]] := by
 rw [List.take_add_one, List.getElem?_eq_getElem (by simpa using h)]
 rfl
theorem lead_stop (p : Nat → Bool) (s : ByteArray) {k : Nat} (hk : k < s.size) (h : ∀ c ∈ s.data.toList.take k, p c.toNat = true) (hp : p s[k].toNat = false) : lead p s.data.toList = k := by
 rw [lead_take p _ k h (by rw [Array.length_toList]; exact Nat.le_of_lt hk), drop_cons s hk, lead, if_neg (by simp [hp])]
 omega
theorem lead_all (p : Nat → Bool) (s : ByteArray) (h : ∀ c ∈ s.data.toList.take s.size, p c.toNat = true) : lead p s.data.toList = s.size := by
 have hs : s.data.toList.length = s.size := Array.length_toList
 rw [lead_take p _ s.size h (by omega), List.drop_of_length_le (by omega)]
 rfl
set_option maxHeartbeats 1000000 in
theorem leading_word (s : ByteArray) (hs : s.size ≤ maxLen) (w : World) :
  Calls Tryz.prog 171 #[.string s, .func (.func 172) #[] #[]] w fun e w' => e = .returned (.int .i64 (lead letterB s.data.toList)) ∧ w = w' := by
 unfold maxLen at hs
 go_enter Tryz.func171, Tryz.ntmps171
 go_wp2
 go_loop [8] (fun i => ∃ k : Nat, k ≤ s.size ∧ i = .int .i64 k ∧ Hid (∀ c ∈ s.data.toList.take k, letterB c.toNat = true)) (fun i => s.size - (intOf i).toNat)
 case atStart => exact ⟨0, by omega, rfl, by intro c hc; simp at hc⟩
 case round =>
  obtain ⟨k, hk, rfl, H⟩ := hrel
  by_cases hlt : k < s.size
  ·have C := Lib.hid (word1_any s[k].toNat w)
   have HS : Hid (letterB s[k].toNat = false → lead letterB s.data.toList = k) := fun h => lead_stop _ s hlt H.out h
   cases hb : letterB s[k].toNat with
   | true =>
    rw [hb] at C
    have HB := Lib.hid hb
    clear hb HS
    go_wp2_with ((with_reducible refine C.out.mono ?_); rintro e w' ⟨rfl, rfl⟩)
    go_round
    case rel =>
     refine ⟨k + 1, by omega, by go_num, ?_⟩
     intro c hc
     rw [take_snoc s hlt] at hc
     rcases List.mem_append.1 hc with h | h
     ·exact H.out c h
     ·simp only [List.mem_singleton] at h
      rw [h]
      exact HB.out
    case measure => simp [intOf]; omega
   | false =>
    rw [hb] at C
    have HE := Lib.hid (HS.out hb)
    clear hb HS
    go_wp2_with ((with_reducible refine C.out.mono ?_); rintro e w' ⟨rfl, rfl⟩)
    go_ret
    rw [HE.out]
    exact ⟨rfl, rfl⟩
  ·obtain rfl : k = s.size := by omega
   have HE := Lib.hid (lead_all letterB s H.out)
   clear H
   go_wp2
   go_ret
   rw [HE.out]
   exact ⟨rfl, rfl⟩
theorem wordSize_any (s : ByteArray) (hs : s.size ≤ maxLen) (w : World) :
  Calls Tryz.prog 154 #[.string s] w fun e w' => e = .returned (.int .i64 (lead letterB s.data.toList)) ∧ w = w' := by
 go_enter Tryz.func154, Tryz.ntmps154
 go_wp2_with (go_at_call 171; (with_reducible refine (leading_word _ hs _).mono ?_); rintro e w' ⟨rfl, rfl⟩)
 go_ret
 exact ⟨rfl, rfl⟩
/-- A name. -/
def nameB (s : ByteArray) : Bool := decide (0 < s.size ∧ s.size ≤ 60) && s.data.toList.all (fun c => letterB c.toNat) && !digitB (s.data.toList.headD 0).toNat
theorem lead_eq_all (p : Nat → Bool) : ∀ l : List UInt8, decide (lead p l = l.length) = l.all (fun c => p c.toNat)
 | [] => rfl
 | c :: r => by
  have h := lead_eq_all p r
  have h2 := lead_le p r
  rw [lead, List.all_cons]
  cases hp : p c.toNat with
  | true => simp only [if_true, List.length_cons, Bool.true_and, ← h]; congr 1; simp
  | false => simp
theorem head_at (s : ByteArray) (h : 0 < s.size) : s.data.toList.headD 0 = s[0] := by
 have := drop_cons s h
 rw [List.drop_zero] at this
 rw [this]
 rfl
end Go.Proofs.YtdeppcddknakjaaGreatDoor.Lab
namespace Go.Proofs.YtdeppcddknakjaaGreatDoor.Lab
open Go.RowKit
theorem emp_true {s : ByteArray} (h : s.size = 0) : s.toList.isEmpty = true := by
 rw [ByteArray.toList_eq, List.isEmpty_iff, ← List.length_eq_zero_iff, Array.length_toList]
 exact h
theorem emp_false {s : ByteArray} (h : 0 < s.size) : s.toList.isEmpty = false := by
 rw [ByteArray.toList_eq, List.isEmpty_eq_false_iff]
 intro e
 have := congrArg List.length e
 rw [Array.length_toList, List.length_nil] at this
 have h2 : s.data.size = s.size := rfl
 omega
theorem nameB_nil {s : ByteArray} (h : s.size = 0) : nameB s = false := by unfold nameB; simp [h]
theorem nameB_long {s : ByteArray} (h : 60 < s.size) : nameB s = false := by
 have : ¬ s.size ≤ 60 := by omega
 unfold nameB; simp [this]
theorem nameB_dig {s : ByteArray} (h : 0 < s.size) (hd : digitB s[0].toNat = true) : nameB s = false := by
 unfold nameB
 rw [head_at s h, hd]
 simp
theorem nameB_word {s : ByteArray} (h : 0 < s.size) (h2 : s.size ≤ 60) (hd : digitB s[0].toNat = false) : nameB s = ((lead letterB s.data.toList : Int) == (s.size : Int)) := by
 unfold nameB
 rw [head_at s h, hd, ← lead_eq_all, Array.length_toList]
 have h3 : s.data.size = s.size := rfl
 rw [h3, Bool.eq_iff_iff]
 simp only [Bool.and_eq_true, decide_eq_true_eq, beq_iff_eq, Bool.not_false, and_true]
 omega
set_option maxHeartbeats 1000000 in
theorem isName_any (s : ByteArray) (hs : s.size ≤ maxLen) (w : World) : Calls Tryz.prog 130 #[.string s] w fun e w' => e = .returned (.bool (nameB s)) ∧ w = w' := by
 have W := Lib.hid (wordSize_any s hs)
 unfold maxLen at hs
 rcases Nat.eq_zero_or_pos s.size with h0 | h0
 ·have he := emp_true h0
  have HN := Lib.hid (nameB_nil h0)
  clear h0
  go_enter Tryz.func130, Tryz.ntmps130
  go_wp2
  go_ret
  rw [HN.out]
  exact ⟨rfl, rfl⟩
 ·have he := emp_false h0
  by_cases h60 : 60 < s.size
  ·have HN := Lib.hid (nameB_long h60)
   go_enter Tryz.func130, Tryz.ntmps130
   go_wp2
   go_ret
   rw [HN.out]
   exact ⟨rfl, rfl⟩
  ·have h60' : s.size ≤ 60 := by omega
   clear h60
   have D := Lib.hid (digit_any s[0].toNat w)
   cases hd : digitB s[0].toNat with
   | true =>
    have HN := Lib.hid (nameB_dig h0 hd)
    rw [hd] at D
    clear hd
    go_enter Tryz.func130, Tryz.ntmps130
    go_wp2_with (go_at_call 153; (with_reducible refine D.out.mono ?_); rintro e w' ⟨rfl, rfl⟩)
    go_ret
    rw [HN.out]
    exact ⟨rfl, rfl⟩
   | false =>
    have HN := Lib.hid (nameB_word h0 h60' hd)
    rw [hd] at D
    clear hd
    go_enter Tryz.func130, Tryz.ntmps130
    go_wp2_with (first | (go_at_call 153; (with_reducible refine D.out.mono ?_); rintro e w' ⟨rfl, rfl⟩) | (go_at_call 154; (with_reducible refine (W.out _).mono ?_); rintro e w' ⟨rfl, rfl⟩))
    go_ret
    rw [HN.out]
    exact ⟨rfl, rfl⟩
theorem all_stop {s : ByteArray} {k : Nat} (hk : k < s.size) (h : letterB s[k].toNat = false) : nameB s = false := by
 unfold nameB
 have : s.data.toList.all (fun c => letterB c.toNat) = false := by
  rw [List.all_eq_false]
  exact ⟨s[k], by rw [show s[k] = s.data.toList[k]'(by simpa using hk) from rfl]; exact List.getElem_mem _, by rw [h]; decide⟩
 rw [this]
 simp
theorem nameB_rest {s : ByteArray} (h0 : 0 < s.size) (h60 : s.size ≤ 60) (h : ∀ c ∈ s.data.toList.take s.size, letterB c.toNat = true) : nameB s = (decide ((s[0].toNat : Int) < 48) || decide (57 < (s[0].toNat : Int))) := by
 unfold nameB
 have hs : s.data.toList.length = s.size := Array.length_toList
 rw [List.take_of_length_le (by omega)] at h
 rw [head_at s h0, List.all_eq_true.2 h]
 unfold digitB
 rw [Bool.eq_iff_iff]
 simp only [Bool.and_eq_true, Bool.or_eq_true, decide_eq_true_eq, Bool.not_eq_true', decide_eq_false_iff_not, and_true]
 omega
set_option maxHeartbeats 1000000 in
theorem refName_any (s : ByteArray) (hs : s.size ≤ maxLen) (w : World) : Calls Tryz.prog 69 #[.string s] w fun e w' => e = .returned (.bool (nameB s)) ∧ w = w' := by
 unfold maxLen at hs
 go_enter Tryz.func69, Tryz.ntmps69
 go_wp2
 go_loop [3] (fun i => ∃ k : Nat, k ≤ s.size ∧ i = .int .i64 k ∧ Hid (∀ c ∈ s.data.toList.take k, letterB c.toNat = true)) (fun i => s.size - (intOf i).toNat)
 case atStart => exact ⟨0, by omega, rfl, by intro c hc; simp at hc⟩
 case round =>
  obtain ⟨k, hk, rfl, H⟩ := hrel
  by_cases hlt : k < s.size
  ·have C := Lib.hid (letter_any s[k].toNat w)
   have HS : Hid (letterB s[k].toNat = false → nameB s = false) := fun h => all_stop hlt h
   cases hb : letterB s[k].toNat with
   | true =>
    rw [hb] at C
    have HB := Lib.hid hb
    clear hb HS
    go_wp2_with (go_at_call 97; (with_reducible refine C.out.mono ?_); rintro e w' ⟨rfl, rfl⟩)
    go_round
    case rel =>
     refine ⟨k + 1, by omega, by go_num, ?_⟩
     intro c hc
     rw [take_snoc s hlt] at hc
     rcases List.mem_append.1 hc with h | h
     ·exact H.out c h
     ·simp only [List.mem_singleton] at h
      rw [h]
      exact HB.out
    case measure => simp [intOf]; omega
   | false =>
    rw [hb] at C
    have HE := Lib.hid (HS.out hb)
    clear hb HS
    go_wp2_with (go_at_call 97; (with_reducible refine C.out.mono ?_); rintro e w' ⟨rfl, rfl⟩)
    go_ret
    rw [HE.out]
    exact ⟨rfl, rfl⟩
  ·obtain rfl : k = s.size := by omega
   clear hlt hk
   rcases Nat.eq_zero_or_pos s.size with h0 | h0
   ·have HN := Lib.hid (nameB_nil h0)
    have h1 : (s.size : Int) ≤ 0 := by omega
    clear h0
    go_wp2
    go_ret
    rw [HN.out]
    exact ⟨rfl, rfl⟩
   ·by_cases h60 : 60 < s.size
    ·have HN := Lib.hid (nameB_long h60)
     go_wp2
     go_ret
     rw [HN.out]
     exact ⟨rfl, rfl⟩
    ·have h60' : s.size ≤ 60 := by omega
     clear h60
     have HN := Lib.hid (nameB_rest h0 h60' H.out)
     by_cases hd : (s[0].toNat : Int) < 48
     all_goals
      go_wp2
      go_ret
      refine ⟨ret_bool ?_, rfl⟩
      rw [HN.out]
      first | (simp [hd]; done) | (simp [hd]; omega)

/-- The slice at A reads as the strings l. -/
def SS (w : World) (B : Nat) (A : Option Addr) (l : List ByteArray) : Prop :=
 l ≠ [] → ∃ b off, A = some ⟨b, off, none⟩ ∧ b < B ∧ ∀ j (h : j < l.length), w.cell? ⟨b, off + j, none⟩ = some (.string l[j])
theorem SS.at_ {w : World} {B : Nat} {A : Option Addr} {l : List ByteArray} (h : SS w B A l) {k : Nat} (hk : k < l.length) :
  ∃ b off, A = some ⟨b, off, none⟩ ∧ b < B ∧ w.cell? ⟨b, off + k, none⟩ = some (.string l[k]) := by
 obtain ⟨b, off, e, hb, hc⟩ := h (by intro e; rw [e] at hk; simp at hk)
 exact ⟨b, off, e, hb, hc k hk⟩
theorem SS.keep {w w' : World} {B : Nat} {A : Option Addr} {l : List ByteArray} (h : SS w B A l) (hk : ∀ p : Addr, p.block < B → w'.cell? p = w.cell? p) : SS w' B A l := fun hne => by
 obtain ⟨b, off, e, hb, hc⟩ := h hne
 exact ⟨b, off, e, hb, fun j hj => (hk _ hb).trans (hc j hj)⟩
theorem SS.below {w w' : World} {B : Nat} {A : Option Addr} {l : List ByteArray} (h : SS w B A l) (hb : Below B w w') : SS w' B A l := h.keep fun _ hp => hb.cell hp
theorem SS.more {w : World} {B B' : Nat} {A : Option Addr} {l : List ByteArray} (h : SS w B A l) (hB : B ≤ B') : SS w B' A l := fun hne => by
 obtain ⟨b, off, e, hb, hc⟩ := h hne
 exact ⟨b, off, e, by omega, hc⟩
theorem SS.nil (w : World) (B : Nat) (A : Option Addr) : SS w B A [] := fun h => absurd rfl h

/-- Two strings are equal. -/
def eqS (a b : ByteArray) : Bool := a.toList == b.toList
theorem eqS_iff {a b : ByteArray} : eqS a b = true ↔ a = b := by
 unfold eqS
 rw [beq_iff_eq, ByteArray.toList_eq, ByteArray.toList_eq]
 refine ⟨fun h => ?_, fun h => by rw [h]⟩
 apply ByteArray.ext
 exact Array.toList_inj.1 h
/-- A name is in a list. -/
def hasB (l : List ByteArray) (s : ByteArray) : Bool := l.any fun x => eqS x s
theorem hasB_at {l : List ByteArray} {s : ByteArray} {k : Nat} (hk : k < l.length) (h : (l[k].toList == s.toList) = true) : hasB l s = true := by
 unfold hasB
 rw [List.any_eq_true]
 exact ⟨l[k], List.getElem_mem _, h⟩
theorem hasB_no {l : List ByteArray} {s : ByteArray} (h : ∀ j (hj : j < l.length), (l[j].toList == s.toList) = false) : hasB l s = false := by
 unfold hasB
 rw [List.any_eq_false]
 intro x hx
 obtain ⟨j, hj, rfl⟩ := List.getElem_of_mem hx
 have := h j hj
 unfold eqS
 rw [this]
 decide
set_option maxHeartbeats 1000000 in
theorem refHas_any (l : List ByteArray) (hl : l.length ≤ maxLen) (s : ByteArray) (A : Option Addr) (c B : Nat) (w : World) (hL : SS w B A l) :
  Calls Tryz.prog 129 #[.slice A l.length c, .string s] w fun e w' => e = .returned (.bool (hasB l s)) ∧ w = w' := by
 unfold maxLen at hl
 have HL := Lib.hid hL
 clear hL
 go_enter Tryz.func129, Tryz.ntmps129
 go_wp2
 go_loop [5] (fun i => ∃ k : Nat, k ≤ l.length ∧ i = .int .i64 k ∧ Hid (∀ j (hj : j < l.length), j < k → (l[j].toList == s.toList) = false)) (fun i => l.length - (intOf i).toNat)
 case atStart => exact ⟨0, by omega, rfl, fun j _ h => by omega⟩
 case round =>
  obtain ⟨k, hk, rfl, H⟩ := hrel
  by_cases hlt : k < l.length
  ·obtain ⟨b, off, rfl, hb, h1⟩ := HL.out.at_ hlt
   cases he : (l[k].toList == s.toList) with
   | true =>
    have HE := Lib.hid (hasB_at hlt he)
    go_wp2
    go_ret
    rw [HE.out]
    exact ⟨rfl, rfl⟩
   | false =>
    have H2 : Hid (∀ j (hj : j < l.length), j < k + 1 → (l[j].toList == s.toList) = false) := fun j hj h => by
     rcases Nat.lt_or_ge j k with h3 | h3
     ·exact H.out j hj h3
     ·obtain rfl : j = k := by omega
      exact he
    clear H
    go_wp2
    go_round
    case rel => exact ⟨k + 1, by omega, by go_num, H2⟩
    case measure => simp [intOf]; omega
  ·obtain rfl : k = l.length := by omega
   have HE := Lib.hid (hasB_no fun j hj => H.out j hj hj)
   clear H
   go_wp2
   go_ret
   rw [HE.out]
   exact ⟨rfl, rfl⟩
/-- What slices.Index hands back. -/
def IdxPost (b : Bool) (w : World) (e : Ending) (w' : World) : Prop := ∃ i : Int, e = .returned (.int .i64 i) ∧ decide (0 ≤ i) = b ∧ w = w'
theorem idx_any (l : List ByteArray) (hl : l.length ≤ maxLen) (s : ByteArray) (A : Option Addr) (c B : Nat) (w : World) (hL : SS w B A l) :
  Calls Tryz.prog 161 #[.slice A l.length c, .string s] w (IdxPost (hasB l s) w) := by
 unfold maxLen at hl
 have HL := Lib.hid hL
 clear hL
 go_enter Tryz.func161, Tryz.ntmps161
 go_wp2
 go_loop [8] (fun i => ∃ k : Nat, k ≤ l.length ∧ i = .int .i64 k ∧ Hid (∀ j (hj : j < l.length), j < k → (l[j].toList == s.toList) = false)) (fun i => l.length - (intOf i).toNat)
 case atStart => exact ⟨0, by omega, rfl, fun j _ h => by omega⟩
 case round =>
  obtain ⟨k, hk, rfl, H⟩ := hrel
  by_cases hlt : k < l.length
  ·obtain ⟨b, off, rfl, hb, h1⟩ := HL.out.at_ hlt
   cases he : (l[k].toList == s.toList) with
   | true =>
    have HE := Lib.hid (hasB_at hlt he)
    have he2 : (s.toList == l[k].toList) = true := by rw [beq_iff_eq] at he ⊢; exact he.symm
    clear he
    go_wp2
    go_ret
    exact ⟨_, rfl, by rw [HE.out]; simp, rfl⟩
   | false =>
    have H2 : Hid (∀ j (hj : j < l.length), j < k + 1 → (l[j].toList == s.toList) = false) := fun j hj h => by
     rcases Nat.lt_or_ge j k with h3 | h3
     ·exact H.out j hj h3
     ·obtain rfl : j = k := by omega
      exact he
    have he2 : (s.toList == l[k].toList) = false := by
     rw [beq_eq_false_iff_ne] at he ⊢
     exact fun e => he e.symm
    clear H he
    go_wp2
    go_round
    case rel => exact ⟨k + 1, by omega, by go_num, H2⟩
    case measure => simp [intOf]; omega
  ·obtain rfl : k = l.length := by omega
   have HE := Lib.hid (hasB_no fun j hj => H.out j hj hj)
   clear H
   go_wp2
   go_ret
   exact ⟨_, rfl, by rw [HE.out]; decide, rfl⟩
set_option maxHeartbeats 1000000 in
theorem contains_any (l : List ByteArray) (hl : l.length ≤ maxLen) (s : ByteArray) (A : Option Addr) (c B : Nat) (w : World) (hL : SS w B A l) :
  Calls Tryz.prog 135 #[.slice A l.length c, .string s] w fun e w' => e = .returned (.bool (hasB l s)) ∧ w = w' := by
 have C := Lib.hid (idx_any l hl s A c B w hL)
 clear hL hl
 go_enter Tryz.func135, Tryz.ntmps135
 go_wp2_with (go_at_call 161; (with_reducible refine C.out.mono ?_); rintro e w' ⟨i, rfl, hi, rfl⟩; have HI := Lib.hid hi; clear hi)
 go_ret
 exact ⟨ret_bool HI.out, rfl⟩
end Go.Proofs.YtdeppcddknakjaaGreatDoor.Lab
namespace Go.Proofs.YtdeppcddknakjaaGreatDoor.Lab
open Go.RowKit
/-- a ≤ b. -/
def leS (a b : ByteArray) : Bool := Op.bytesLess a.toList b.toList || a.toList == b.toList
def prevS (l : List Lb) : Nat → Option ByteArray
 | 0 => none
 | k + 1 => l[k]?.map Lb.n
def leP (a : ByteArray) : Option ByteArray → Bool
 | none => false
 | some b => leS a b
/-- The first error of the labels, p the name ahead of them. -/
def chkL : Option ByteArray → List Lb → Int
 | _, [] => 0
 | p, x :: r => if nameB x.n = false then 5 else if x.v.size = 0 then 1 else if 200 < x.v.size then 4 else if leP x.n p = true then 9 else chkL (some x.n) r
/-- Check. -/
def chk (l : List Lb) : Int := if 16 < l.length then 4 else chkL none l
theorem chk_long {l : List Lb} (h : 16 < l.length) : chk l = 4 := if_pos h
theorem drop_at {l : List Lb} {k : Nat} (h : k < l.length) : l.drop k = l[k] :: l.drop (k + 1) := List.drop_eq_getElem_cons h
theorem below_drewN {B : Nat} {a w : World} (h : Below B a w) (n : Nat) : Below B a (w.drewN n) := ⟨h.os, h.tape, h.output, h.size, h.block⟩
structure Chk (l : List Lb) (k : Nat) : Prop where
 eq : chk l = chkL (prevS l k) (l.drop k)
theorem Chk.start {l : List Lb} (h : l.length ≤ 16) : Chk l 0 := ⟨by unfold chk; rw [if_neg (by omega)]; rfl⟩
theorem Chk.name {l : List Lb} {k : Nat} (H : Chk l k) (hk : k < l.length) (h : nameB l[k].n = false) : chk l = 5 := by
 rw [H.eq, drop_at hk, chkL, if_pos h]
theorem Chk.empty {l : List Lb} {k : Nat} (H : Chk l k) (hk : k < l.length) (h : nameB l[k].n = true) (h2 : l[k].v.size = 0) : chk l = 1 := by
 rw [H.eq, drop_at hk, chkL, if_neg (by simp [h]), if_pos h2]
theorem Chk.long {l : List Lb} {k : Nat} (H : Chk l k) (hk : k < l.length) (h : nameB l[k].n = true) (h2 : 0 < l[k].v.size) (h3 : 200 < l[k].v.size) : chk l = 4 := by
 rw [H.eq, drop_at hk, chkL, if_neg (by simp [h]), if_neg (by omega), if_pos h3]
theorem Chk.order {l : List Lb} {k : Nat} (H : Chk l k) (hk : k < l.length) (h : nameB l[k].n = true) (h2 : 0 < l[k].v.size) (h3 : l[k].v.size ≤ 200) (h4 : leP l[k].n (prevS l k) = true) : chk l = 9 := by
 rw [H.eq, drop_at hk, chkL, if_neg (by simp [h]), if_neg (by omega), if_neg (by omega), if_pos h4]
theorem Chk.next {l : List Lb} {k : Nat} (H : Chk l k) (hk : k < l.length) (h : nameB l[k].n = true) (h2 : 0 < l[k].v.size) (h3 : l[k].v.size ≤ 200) (h4 : leP l[k].n (prevS l k) = false) : Chk l (k + 1) := by
 refine ⟨?_⟩
 rw [H.eq, drop_at hk, chkL, if_neg (by simp [h]), if_neg (by omega), if_neg (by omega), if_neg (by simp [h4])]
 simp only [prevS, List.getElem?_eq_getElem hk, Option.map_some]
theorem Chk.done {l : List Lb} (H : Chk l l.length) : chk l = 0 := by
 rw [H.eq, List.drop_of_length_le (Nat.le_refl _), chkL]
theorem prev_zero {l : List Lb} {k : Nat} (h : k = 0) (a : ByteArray) : leP a (prevS l k) = false := by subst h; rfl
theorem prev_at {l : List Lb} {m : Nat} (h : m < l.length) (a : ByteArray) : leP a (prevS l (m + 1)) = (Op.bytesLess a.toList l[m].n.toList || a.toList == l[m].n.toList) := by
 simp only [prevS, List.getElem?_eq_getElem h, Option.map_some, leP, leS]
set_option maxHeartbeats 2000000 in
theorem check_any (l : List Lb) (hl : l.length ≤ maxLen) (hs : ∀ x ∈ l, x.n.size ≤ maxLen ∧ x.v.size ≤ maxLen) (A : Option Addr) (c : Nat) (w : World) (hL : LS w w.heap.size A l) :
  Calls Tryz.prog 95 #[.slice A l.length c] w fun e w' => e = .returned (.int .i64 (chk l)) ∧ Below w.heap.size w w' := by
 unfold maxLen at hl
 have HL := Lib.hid hL
 have HZ := Lib.hid hs
 clear hL hs
 by_cases h16 : 16 < l.length
 ·have HE := Lib.hid (chk_long h16)
  go_enter Tryz.func95, Tryz.ntmps95
  go_wp2
  go_ret
  rw [HE.out]
  exact ⟨rfl, Below.refl _ _⟩
 ·have HC := Lib.hid (Chk.start (l := l) (by omega))
  go_enter Tryz.func95, Tryz.ntmps95
  go_wp2
  go_loopw [10] (fun i wr => ∃ k : Nat, k ≤ l.length ∧ i = .int .i64 k ∧ Hid (Chk l k) ∧ Hid (Below w.heap.size w wr)) (fun i _ => l.length - (intOf i).toNat)
  case atStart => exact ⟨0, by omega, rfl, HC, Below.refl _ _⟩
  case round =>
   clear HC
   obtain ⟨k, hk, rfl, H, HB⟩ := hrel
   by_cases hlt : k < l.length
   ·obtain ⟨b, off, rfl, hb, h1', h2'⟩ := HL.out.at_ hlt
    have h1 := (HB.out.cell (p := ⟨b, off + k * 2, none⟩) hb).trans h1'
    have h2 := (HB.out.cell (p := ⟨b, off + k * 2 + 1, none⟩) hb).trans h2'
    have hbw : b < wr.heap.size := Nat.lt_of_lt_of_le hb HB.out.size
    clear h1' h2'
    obtain ⟨z1, z2⟩ := HZ.out l[k] (List.getElem_mem hlt)
    have Z1 := Lib.hid z1
    unfold maxLen at z2
    clear z1
    have C := Lib.hid (isName_any l[k].n Z1.out)
    have HB2 : Hid (Below w.heap.size w (wr.alloc (.cells #[.string l[k].n, .string l[k].v] 51))) := HB.out.alloc HB.out.size _
    cases hn : nameB l[k].n with
    | false =>
     have HE := Lib.hid (H.out.name hlt hn)
     simp only [hn] at C
     clear hn H
     go_wp2_with (go_at_call 130; (with_reducible refine (C.out _).mono ?_); rintro e w' ⟨rfl, rfl⟩)
     go_ret
     rw [HE.out]
     exact ⟨rfl, HB2.out⟩
    | true =>
     have HN := Lib.hid hn
     simp only [hn] at C
     clear hn
     rcases Nat.eq_zero_or_pos l[k].v.size with hv | hv
     ·have HE := Lib.hid (H.out.empty hlt HN.out hv)
      have he := emp_true hv
      clear hv H
      go_wp2_with (go_at_call 130; (with_reducible refine (C.out _).mono ?_); rintro e w' ⟨rfl, rfl⟩)
      go_ret
      rw [HE.out]
      exact ⟨rfl, HB2.out⟩
     ·have he := emp_false hv
      by_cases h200 : 200 < l[k].v.size
      ·have HE := Lib.hid (H.out.long hlt HN.out hv h200)
       clear H
       go_wp2_with (go_at_call 130; (with_reducible refine (C.out _).mono ?_); rintro e w' ⟨rfl, rfl⟩)
       go_ret
       rw [HE.out]
       exact ⟨rfl, HB2.out⟩
      ·have h200' : l[k].v.size ≤ 200 := by omega
       clear h200
       by_cases hk0 : k = 0
       ·have HE := Lib.hid (H.out.next hlt HN.out hv h200' (prev_zero hk0 _))
        have hg : decide (0 < k) = false := by rw [hk0]; rfl
        have hg1 : decide ((0 : Int) < (k : Int)) = false := by rw [hk0]; rfl
        clear hk0
        go_wp2_with (go_at_call 130; (with_reducible refine (C.out _).mono ?_); rintro e w' ⟨rfl, rfl⟩)
        go_quiet (fail)
        go_wp2
        go_roundw
        case rel => exact ⟨k + 1, by omega, by go_num, HE, below_drewN HB2.out _⟩
        case measure => simp [intOf]; omega
       ·obtain ⟨m, hm⟩ : ∃ m, k = m + 1 := ⟨k - 1, by omega⟩
        have hml : m < l.length := by omega
        obtain ⟨b', off', hbo, hx1, hp1', hx2⟩ := HL.out.at_ hml
        clear hx1 hx2
        obtain ⟨rfl, rfl⟩ : b = b' ∧ off = off' := by simpa using hbo
        have hp1 := (HB.out.cell (p := ⟨b, off + m * 2, none⟩) hb).trans hp1'
        clear hp1' hbo
        have hg : decide (0 < k) = true := by simp; omega
        have hg1 : decide ((0 : Int) < (k : Int)) = true := by simp; omega
        have hw : IntKind.i64.wrap ((k : Int) - 1) = (m : Int) := by rw [IntWalk.i64_in _ (by omega)]; omega
        have HP : Hid (leP l[k].n (prevS l k) = (Op.bytesLess l[k].n.toList l[m].n.toList || l[k].n.toList == l[m].n.toList)) := by
         subst hm
         exact prev_at hml _
        cases ho : leP l[k].n (prevS l k) with
        | true =>
         have HE := Lib.hid (H.out.order hlt HN.out hv h200' ho)
         have ho2 := HP.out.symm.trans ho
         clear H ho HP hm hk0
         go_wp2_with (go_at_call 130; (with_reducible refine (C.out _).mono ?_); rintro e w' ⟨rfl, rfl⟩)
         go_quiet (fail)
         go_wp2
         go_ret
         rw [HE.out]
         exact ⟨rfl, below_drewN HB2.out _⟩
        | false =>
         have HE := Lib.hid (H.out.next hlt HN.out hv h200' ho)
         have ho2 := HP.out.symm.trans ho
         clear H ho HP hm hk0
         go_wp2_with (go_at_call 130; (with_reducible refine (C.out _).mono ?_); rintro e w' ⟨rfl, rfl⟩)
         go_quiet (fail)
         go_wp2
         go_roundw
         case rel => exact ⟨k + 1, by omega, by go_num, HE, below_drewN HB2.out _⟩
         case measure => simp [intOf]; omega
   ·obtain rfl : k = l.length := by omega
    have HE := Lib.hid H.out.done
    clear H
    go_wp2
    go_ret
    rw [HE.out]
    exact ⟨rfl, HB.out⟩
end Go.Proofs.YtdeppcddknakjaaGreatDoor.Lab
namespace Go.Proofs.YtdeppcddknakjaaGreatDoor.Lab
open Go.RowKit
/-- Text, cmp.Compare: how two strings compare. -/
def cmpS (a b : ByteArray) : Int := if Op.bytesLess a.toList b.toList = true then -1 else if (a.toList == b.toList) = true then 0 else 1
theorem cmpS_lt {a b : ByteArray} (h : Op.bytesLess a.toList b.toList = true) : cmpS a b = -1 := if_pos h
theorem cmpS_eq {a b : ByteArray} (h : Op.bytesLess a.toList b.toList = false) (h2 : (a.toList == b.toList) = true) : cmpS a b = 0 := by unfold cmpS; rw [if_neg (by simp [h]), if_pos h2]
theorem cmpS_gt {a b : ByteArray} (h : Op.bytesLess a.toList b.toList = false) (h2 : (a.toList == b.toList) = false) : cmpS a b = 1 := by unfold cmpS; rw [if_neg (by simp [h]), if_neg (by simp [h2])]
theorem nan_any (a : ByteArray) (w : World) : Calls Tryz.prog 123 #[.string a] w fun e w' => e = .returned (.bool false) ∧ w = w' := by
 go_enter Tryz.func123, Tryz.ntmps123
 go_wp2
 go_ret
 exact ⟨ret_bool (by simp), rfl⟩
set_option maxHeartbeats 1000000 in
theorem cmpstr_any (a b : ByteArray) (w : World) : Calls Tryz.prog 83 #[.string a, .string b] w fun e w' => e = .returned (.int .i64 (cmpS a b)) ∧ w = w' := by
 cases h1 : Op.bytesLess a.toList b.toList with
 | true =>
  have HE := Lib.hid (cmpS_lt h1)
  go_enter Tryz.func83, Tryz.ntmps83
  go_wp2_with (go_at_call 123; (with_reducible refine (nan_any _ _).mono ?_); rintro e w' ⟨rfl, rfl⟩)
  go_ret
  rw [HE.out]
  exact ⟨rfl, rfl⟩
 | false =>
  cases h2 : (a.toList == b.toList) with
  | true =>
   have HE := Lib.hid (cmpS_eq h1 h2)
   go_enter Tryz.func83, Tryz.ntmps83
   go_wp2_with (go_at_call 123; (with_reducible refine (nan_any _ _).mono ?_); rintro e w' ⟨rfl, rfl⟩)
   go_ret
   rw [HE.out]
   exact ⟨rfl, rfl⟩
  | false =>
   have HE := Lib.hid (cmpS_gt h1 h2)
   go_enter Tryz.func83, Tryz.ntmps83
   go_wp2_with (go_at_call 123; (with_reducible refine (nan_any _ _).mono ?_); rintro e w' ⟨rfl, rfl⟩)
   go_ret
   rw [HE.out]
   exact ⟨rfl, rfl⟩

end Go.Proofs.YtdeppcddknakjaaGreatDoor.Lab
namespace Go.Proofs.YtdeppcddknakjaaGreatDoor.Lab
open Go.RowKit
/-- Two labels are equal; two lists. -/
def eqX (x y : Lb) : Bool := x.n.toList == y.n.toList && x.v.toList == y.v.toList
def eqL : List Lb → List Lb → Bool
 | [], [] => true
 | x :: a, y :: b => eqX x y && eqL a b
 | _, _ => false
theorem eqL_at {a b : List Lb} {k : Nat} (ha : k < a.length) (hb : k < b.length) : eqL (a.drop k) (b.drop k) = (eqX a[k] b[k] && eqL (a.drop (k + 1)) (b.drop (k + 1))) := by
 rw [drop_at ha, drop_at hb, eqL]
structure EqAt (a b : List Lb) (k : Nat) : Prop where
 eq : eqL a b = eqL (a.drop k) (b.drop k)
theorem EqAt.start (a b : List Lb) : EqAt a b 0 := ⟨rfl⟩
theorem EqAt.no {a b : List Lb} {k : Nat} (H : EqAt a b k) (ha : k < a.length) (hb : k < b.length) (h : eqX a[k] b[k] = false) : eqL a b = false := by
 rw [H.eq, eqL_at ha hb, h]; rfl
theorem EqAt.next {a b : List Lb} {k : Nat} (H : EqAt a b k) (ha : k < a.length) (hb : k < b.length) (h : eqX a[k] b[k] = true) : EqAt a b (k + 1) :=
 ⟨by rw [H.eq, eqL_at ha hb, h]; rfl⟩
theorem EqAt.done {a b : List Lb} {k : Nat} (H : EqAt a b k) (ha : a.length = k) (hb : b.length = k) : eqL a b = true := by
 rw [H.eq, List.drop_of_length_le (by omega), List.drop_of_length_le (by omega)]; rfl
/-- Get. -/
def getL : List Lb → ByteArray → ByteArray
 | [], _ => ⟨#[]⟩
 | x :: r, s => if (x.n.toList == s.toList) = true then x.v else getL r s
structure GetAt (l : List Lb) (s : ByteArray) (k : Nat) : Prop where
 eq : getL l s = getL (l.drop k) s
theorem GetAt.start (l : List Lb) (s : ByteArray) : GetAt l s 0 := ⟨rfl⟩
theorem GetAt.yes {l : List Lb} {s : ByteArray} {k : Nat} (H : GetAt l s k) (hk : k < l.length) (h : (l[k].n.toList == s.toList) = true) : getL l s = l[k].v := by
 rw [H.eq, drop_at hk, getL, if_pos h]
theorem GetAt.next {l : List Lb} {s : ByteArray} {k : Nat} (H : GetAt l s k) (hk : k < l.length) (h : (l[k].n.toList == s.toList) = false) : GetAt l s (k + 1) := by
 refine ⟨?_⟩
 rw [H.eq, drop_at hk, getL, if_neg (by simp [h])]
theorem GetAt.done {l : List Lb} {s : ByteArray} (H : GetAt l s l.length) : getL l s = ⟨#[]⟩ := by
 rw [H.eq, List.drop_of_length_le (Nat.le_refl _), getL]
set_option maxHeartbeats 1000000 in
theorem refGet_any (l : List Lb) (hl : l.length ≤ maxLen) (s : ByteArray) (A : Option Addr) (c B : Nat) (w : World) (hL : LS w B A l) :
  Calls Tryz.prog 42 #[.slice A l.length c, .string s] w fun e w' => e = .returned (.string (getL l s)) ∧ w = w' := by
 unfold maxLen at hl
 have HL := Lib.hid hL
 have HS := Lib.hid (GetAt.start l s)
 clear hL
 go_enter Tryz.func42, Tryz.ntmps42
 go_wp2
 go_loop [5] (fun i => ∃ k : Nat, k ≤ l.length ∧ i = .int .i64 k ∧ Hid (GetAt l s k)) (fun i => l.length - (intOf i).toNat)
 case atStart => exact ⟨0, by omega, rfl, HS⟩
 case round =>
  clear HS
  obtain ⟨k, hk, rfl, H⟩ := hrel
  by_cases hlt : k < l.length
  ·obtain ⟨b, off, rfl, hb, h1, h2⟩ := HL.out.at_ hlt
   cases he : (l[k].n.toList == s.toList) with
   | true =>
    have HE := Lib.hid (H.out.yes hlt he)
    clear H
    go_wp2
    go_ret
    rw [HE.out]
    exact ⟨rfl, rfl⟩
   | false =>
    have HE := Lib.hid (H.out.next hlt he)
    clear H
    go_wp2
    go_round
    case rel => exact ⟨k + 1, by omega, by go_num, HE⟩
    case measure => simp [intOf]; omega
  ·obtain rfl : k = l.length := by omega
   have HE := Lib.hid H.out.done
   clear H
   go_wp2
   go_ret
   rw [HE.out]
   exact ⟨rfl, rfl⟩
end Go.Proofs.YtdeppcddknakjaaGreatDoor.Lab
namespace Go.Proofs.YtdeppcddknakjaaGreatDoor.Lab
open Go.RowKit
/-- The cells of a list of labels. -/
def cellsL (l : List Lb) : List Value := l.flatMap fun x => [.string x.n, .string x.v]
theorem cellsL_append (a b : List Lb) : cellsL (a ++ b) = cellsL a ++ cellsL b := by simp [cellsL]
theorem cellsL_one (x : Lb) : cellsL [x] = [.string x.n, .string x.v] := by simp [cellsL]
theorem cellsL_length : ∀ l : List Lb, (cellsL l).length = l.length * 2
 | [] => rfl
 | x :: r => by
  have h := cellsL_length r
  rw [show x :: r = [x] ++ r from rfl, cellsL_append, List.length_append, h, cellsL_one]
  simp
  omega
theorem cellsL_at : ∀ (l : List Lb) (j : Nat) (hj : j < l.length), (cellsL l)[j * 2]? = some (.string l[j].n) ∧ (cellsL l)[j * 2 + 1]? = some (.string l[j].v)
 | [], j, hj => by simp at hj
 | x :: r, 0, _ => by
  have e0 : cellsL (x :: r) = .string x.n :: .string x.v :: cellsL r := by rw [show x :: r = [x] ++ r from rfl, cellsL_append, cellsL_one]; rfl
  rw [e0]
  exact ⟨rfl, rfl⟩
 | x :: r, j + 1, hj => by
  have h := cellsL_at r j (by simpa using hj)
  have e0 : cellsL (x :: r) = .string x.n :: .string x.v :: cellsL r := by rw [show x :: r = [x] ++ r from rfl, cellsL_append, cellsL_one]; rfl
  have e1 : (j + 1) * 2 = j * 2 + 1 + 1 := by omega
  rw [e0, e1]
  exact h
/-- v owns the labels l. -/
def Own5 (w : World) (B : Nat) (v : Value) (l : List Lb) : Prop := w.ownsRow B 51 2 v l.length (cellsL l)
theorem Own5.form {w : World} {B : Nat} {v : Value} {l : List Lb} (h : Own5 w B v l) : ∃ A c, v = .slice A l.length c ∧ LS w w.heap.size A l := by
 rcases h.2 with ⟨rfl, h0⟩ | ⟨g, cap, cur, rfl, hr⟩
 ·refine ⟨none, 0, by rw [h0], fun hne => absurd (List.length_eq_zero_iff.1 h0) hne⟩
 ·refine ⟨_, _, rfl, fun hne => ⟨g, 0, rfl, (World.ownsRow.lt h g rfl).2, fun j hj => ?_⟩⟩
  have hc := World.ownsRow.cells (g := g) h rfl
  have h1 := hc (j * 2) _ (cellsL_at l j hj).1
  have h2 := hc (j * 2 + 1) _ (cellsL_at l j hj).2
  have e : ∀ i, (⟨g, 0, none⟩ : Addr).add i = ⟨g, 0 + i, none⟩ := fun i => by cases i <;> simp [Addr.add]
  rw [e] at h1 h2
  exact ⟨h1, h2⟩
theorem Own5.below {w w' : World} {B : Nat} {v : Value} {l : List Lb} (h : Own5 w B v l) (hb : Below w.heap.size w w') : Own5 w' B v l := by
 refine ⟨h.1, ?_⟩
 rcases h.2 with h0 | ⟨g, cap, cur, e, h1, h2, h3⟩
 ·exact .inl h0
 ·exact .inr ⟨g, cap, cur, e, h1, (hb.block g (by have := (World.ownsRow.lt h g (by rw [e]; rfl)).2; omega)).trans h2, h3⟩
theorem Own5.more {w : World} {B B' : Nat} {v : Value} {l : List Lb} (h : Own5 w B v l) (hB : B' ≤ B) : Own5 w B' v l := by
 refine ⟨h.1, ?_⟩
 rcases h.2 with h0 | ⟨g, cap, cur, e, h1, h3⟩
 ·exact .inl h0
 ·exact .inr ⟨g, cap, cur, e, by omega, h3⟩
/-- What a call hands back that makes the labels l. -/
def OwnPost (l : List Lb) (w : World) (e : Ending) (w' : World) : Prop := ∃ v, e = .returned v ∧ Own5 w' w.heap.size v l ∧ Below w.heap.size w w'
/-- Keep, Drop. -/
def keepL (b : Bool) (names : List ByteArray) (l : List Lb) : List Lb := l.filter fun x => hasB names x.n == b
theorem keepL_len (b : Bool) (names : List ByteArray) (l : List Lb) : (keepL b names l).length ≤ l.length := List.length_filter_le _ _
theorem take_snocL {α : Type} (l : List α) {k : Nat} (h : k < l.length) : l.take (k + 1) = l.take k ++ [l[k]] := by
 rw [List.take_add_one, List.getElem?_eq_getElem h]; rfl
theorem keepL_yes {b : Bool} {names : List ByteArray} {l : List Lb} {k : Nat} (hk : k < l.length) (h : hasB names l[k].n = b) : keepL b names (l.take (k + 1)) = keepL b names (l.take k) ++ [l[k]] := by
 unfold keepL
 rw [take_snocL l hk, List.filter_append, List.filter_cons, if_pos (by simp [h])]; rfl
theorem keepL_no {b : Bool} {names : List ByteArray} {l : List Lb} {k : Nat} (hk : k < l.length) (h : hasB names l[k].n = !b) : keepL b names (l.take (k + 1)) = keepL b names (l.take k) := by
 unfold keepL
 rw [take_snocL l hk, List.filter_append, List.filter_cons, if_neg (by simp [h])]
 simp
end Go.Proofs.YtdeppcddknakjaaGreatDoor.Lab
namespace Go.Proofs.YtdeppcddknakjaaGreatDoor.Lab
open Go.RowKit
theorem block_of_add (a : Addr) (n : Nat) : (a.add n).block = a.block := by unfold Addr.add; split <;> rfl
theorem add_of_add (a : Addr) (i j : Nat) : (a.add i).add j = a.add (i + j) := by
 unfold Addr.add
 by_cases hi : i = 0 <;> by_cases hj : j = 0 <;> simp [hi, hj, Nat.add_assoc]

def Reads (w : World) (B size : Nat) (A : Option Addr) (n : Nat) (xs : List Value) : Prop :=
 xs.length = n * size ∧ (0 < n → ∃ ad, A = some ad ∧ ad.block < B ∧ ∀ j u, xs[j]? = some u → w.cell? (ad.add j) = some u)

section
variable {w w' : World} {B B' size n : Nat} {A : Option Addr} {xs : List Value}
theorem Reads.none_ : Reads w B size A 0 [] := ⟨by simp, fun h => absurd h (by omega)⟩
theorem Reads.at_ {k : Nat} (h : Reads w B 1 A n xs) (hk : k < n) : ∃ ad u, A = some ad ∧ ad.block < B ∧ xs[k]? = some u ∧ w.cell? (ad.add k) = some u := by
 obtain ⟨ad, e, hb, hc⟩ := h.2 (by omega)
 have hl : k < xs.length := by have := h.1; omega
 exact ⟨ad, xs[k], e, hb, List.getElem?_eq_getElem hl, hc k _ (List.getElem?_eq_getElem hl)⟩
theorem Reads.keep (h : Reads w B size A n xs) (hk : ∀ p : Addr, p.block < B → w'.cell? p = w.cell? p) : Reads w' B size A n xs :=
 ⟨h.1, fun hn => by
  obtain ⟨ad, e, hb, hc⟩ := h.2 hn
  exact ⟨ad, e, hb, fun j u hu => (hk _ (by rw [block_of_add]; exact hb)).trans (hc j u hu)⟩⟩
theorem Reads.more (h : Reads w B size A n xs) (hB : B ≤ B') : Reads w B' size A n xs :=
 ⟨h.1, fun hn => by
  obtain ⟨ad, e, hb, hc⟩ := h.2 hn
  exact ⟨ad, e, by omega, hc⟩⟩
theorem Reads.below (h : Reads w B size A n xs) (hb : Below B w w') : Reads w' B size A n xs := h.keep fun _ hp => hb.cell hp
theorem Reads.drew (h : Reads w B size A n xs) : Reads w.drew B size A n xs := h
theorem Reads.drewN (h : Reads w B size A n xs) (k : Nat) : Reads (w.drewN k) B size A n xs := h
theorem Reads.alloc (h : Reads w B size A n xs) (hB : B ≤ w.heap.size) (o : Obj) : Reads (w.alloc o) B size A n xs := h.keep fun p hp => World.cell?_alloc_lt w o p (by omega)
theorem Reads.setCell (h : Reads w B size A n xs) {p : Addr} (hB : B ≤ p.block) (u : Value) : Reads (w.setCell p u) B size A n xs :=
 h.keep fun q hq => World.cell?_setCell_other w p q u (fun e => by subst e; omega)
theorem Reads.grown (h : Reads w B size A n xs) {row : Option Nat} (hg : w.grownBy w' row) (hB : B ≤ w.heap.size) (hr : ∀ g, row = some g → B ≤ g) : Reads w' B size A n xs :=
 h.keep fun p hp => World.cell?_of_block (hg.block p.block (by omega) (fun e => by have := hr _ e.symm; omega))
theorem Reads.cut (h : Reads w B size A n xs) {k cap : Nat} (hk : k ≤ n) (hc : n ≤ cap) :
  Reads w B size (if cap = k then A else A.map (·.add (k * size))) (n - k) (xs.drop (k * size)) := by
 refine ⟨by rw [List.length_drop, h.1, Nat.sub_mul], fun hn => ?_⟩
 obtain ⟨ad, rfl, hb, hcell⟩ := h.2 (by omega)
 rw [if_neg (by omega)]
 refine ⟨ad.add (k * size), rfl, by rw [block_of_add]; exact hb, fun j u hu => ?_⟩
 rw [add_of_add]
 exact hcell _ u (by rw [← hu, List.getElem?_drop])
theorem Reads.of_own {base : Nat} {e : TypeId} {c : Nat} (h : w.ownsRow base e size (.slice A n c) n xs) : Reads w w.heap.size size A n xs := by
 refine ⟨h.1, fun hn => ?_⟩
 obtain ⟨g, cap, hv, _, hlt⟩ := h.form hn
 have hA : A = some ⟨g, 0, none⟩ := by injection hv
 subst hA
 exact ⟨_, rfl, hlt, h.cells (g := g) rfl⟩
end
section
variable {P : Program} (w : World)

end

theorem LS.reads {w : World} {B : Nat} {A : Option Addr} {l : List Lb} (h : LS w B A l) : Reads w B 2 A l.length (cellsL l) := by
 refine ⟨cellsL_length l, fun hn => ?_⟩
 obtain ⟨b, off, rfl, hb, hc⟩ := h (by intro e; rw [e] at hn; simp at hn)
 refine ⟨_, rfl, hb, fun j u hu => ?_⟩
 have hjl : j < (cellsL l).length := (List.getElem?_eq_some_iff.1 hu).1
 rw [cellsL_length] at hjl
 have e : ∀ i, (⟨b, off, none⟩ : Addr).add i = ⟨b, off + i, none⟩ := fun i => by cases i <;> simp [Addr.add]
 rw [e]
 have hk : j / 2 < l.length := by omega
 have h1 := cellsL_at l (j / 2) hk
 have h2 := hc (j / 2) hk
 rcases Nat.mod_two_eq_zero_or_one j with hm | hm
 ·have ej : j = j / 2 * 2 := by omega
  rw [ej] at hu ⊢
  rw [h1.1] at hu
  cases hu
  exact h2.1
 ·have ej : j = j / 2 * 2 + 1 := by omega
  rw [ej] at hu ⊢
  rw [h1.2] at hu
  cases hu
  exact h2.2
theorem Reads.take {w : World} {B size n : Nat} {A : Option Addr} {xs : List Value} (h : Reads w B size A n xs) {k : Nat} (hk : k ≤ n) : Reads w B size A k (xs.take (k * size)) := by
 refine ⟨?_, fun hn => ?_⟩
 ·rw [List.length_take, h.1]
  exact Nat.min_eq_left (Nat.mul_le_mul_right _ hk)
 ·obtain ⟨ad, e, hb, hc⟩ := h.2 (by omega)
  refine ⟨ad, e, hb, fun j u hu => hc j u ?_⟩
  rw [List.getElem?_take] at hu
  split at hu
  ·exact hu
  ·cases hu
end Go.Proofs.YtdeppcddknakjaaGreatDoor.Lab
namespace Go.Proofs.YtdeppcddknakjaaGreatDoor.Lab
open Go.RowKit
/-- How many labels at the beginning have a lesser name. -/
def lessN (s : ByteArray) : List Lb → Nat
 | [] => 0
 | x :: r => if Op.bytesLess x.n.toList s.toList = true then lessN s r + 1 else 0
structure Less (s : ByteArray) (m : List Lb) (k : Nat) : Prop where
 eq : lessN s m = k + lessN s (m.drop k)
theorem Less.start (s : ByteArray) (m : List Lb) : Less s m 0 := ⟨by simp⟩
theorem Less.next {s : ByteArray} {m : List Lb} {k : Nat} (H : Less s m k) (hk : k < m.length) (h : Op.bytesLess m[k].n.toList s.toList = true) : Less s m (k + 1) := by
 refine ⟨?_⟩
 rw [H.eq, drop_at hk, lessN, if_pos h]
 omega
theorem Less.stop {s : ByteArray} {m : List Lb} {k : Nat} (H : Less s m k) (hk : k < m.length) (h : Op.bytesLess m[k].n.toList s.toList = false) : lessN s m = k := by
 rw [H.eq, drop_at hk, lessN, if_neg (by simp [h])]
 rfl
theorem Less.done {s : ByteArray} {m : List Lb} (H : Less s m m.length) : lessN s m = m.length := by
 rw [H.eq, List.drop_of_length_le (Nat.le_refl _)]
 rfl
end Go.Proofs.YtdeppcddknakjaaGreatDoor.Lab
