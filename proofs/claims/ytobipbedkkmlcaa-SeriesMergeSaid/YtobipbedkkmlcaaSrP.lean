/- Layer 11: lists of samples in memory; the reference: whether a sample is valid, the step, the place. -/
import Derived.WalkKit
import Derived.WalkSpells
import Derived.WalkLawsBesides
import Derived.Lib.Hide
import Derived.IntWalk
import Derived.KernelRfl
import Derived.Outline
import Derived.Below
import Derived.Laws.OwnMore
import Derived.Deep.Draws
import Derived.Test.YtobipbedkkmlcaaSrO
import Derived.Test.YtobipbedkkmlcaaProg
set_option linter.unusedVariables false
set_option linter.unusedSimpArgs false
namespace Go.Proofs.Ytobipbedkkmlcaa.Sr
open Go.RowKit
/-- A number that is one of the program's. -/
def inI (z : Int) : Prop := -9223372036854775808 ≤ z ∧ z ≤ 9223372036854775807
def InS (x : S) : Prop := inI x.1 ∧ inI x.2
/-- A sample as a value. -/
abbrev smpV (x : S) : Value := .agg #[.int .i64 x.1, .int .i64 x.2]
/-- The slice at A reads as the samples l; it lies below block B. -/
def LS (w : World) (B : Nat) (A : Option Addr) (l : List S) : Prop :=
  l ≠ [] → ∃ b off, A = some ⟨b, off, none⟩ ∧ b < B ∧ ∀ j (h : j < l.length), w.cell? ⟨b, off + j * 2, none⟩ = some (.int .i64 l[j].1) ∧ w.cell? ⟨b, off + j * 2 + 1, none⟩ = some (.int .i64 l[j].2)
theorem LS.at_ {w : World} {B : Nat} {A : Option Addr} {l : List S} (h : LS w B A l) {k : Nat} (hk : k < l.length) :
    ∃ b off, A = some ⟨b, off, none⟩ ∧ b < B ∧ w.cell? ⟨b, off + k * 2, none⟩ = some (.int .i64 l[k].1) ∧ w.cell? ⟨b, off + k * 2 + 1, none⟩ = some (.int .i64 l[k].2) := by
  obtain ⟨b, off, e, hb, hc⟩ := h (by intro e; rw [e] at hk; simp at hk)
  exact ⟨b, off, e, hb, hc k hk⟩
theorem LS.keep {w w' : World} {B : Nat} {A : Option Addr} {l : List S} (h : LS w B A l) (hk : ∀ p : Addr, p.block < B → w'.cell? p = w.cell? p) : LS w' B A l := fun hne => by
  obtain ⟨b, off, e, hb, hc⟩ := h hne
  exact ⟨b, off, e, hb, fun j hj => ⟨(hk _ hb).trans (hc j hj).1, (hk _ hb).trans (hc j hj).2⟩⟩
theorem LS.below {w w' : World} {B : Nat} {A : Option Addr} {l : List S} (h : LS w B A l) (hb : Below B w w') : LS w' B A l := h.keep fun _ hp => hb.cell hp
theorem LS.more {w : World} {B B' : Nat} {A : Option Addr} {l : List S} (h : LS w B A l) (hB : B ≤ B') : LS w B' A l := fun hne => by
  obtain ⟨b, off, e, hb, hc⟩ := h hne
  exact ⟨b, off, e, by omega, hc⟩
theorem LS.nil (w : World) (B : Nat) (A : Option Addr) : LS w B A [] := fun h => absurd rfl h
theorem ret_bool {a b : Bool} (h : a = b) : Ending.returned (.bool a) = .returned (.bool b) := by rw [h]
theorem ret_int {k : IntKind} {a b : Int} (h : a = b) : Ending.returned (.int k a) = .returned (.int k b) := by rw [h]
theorem w64 {n : Int} (h : -9223372036854775808 ≤ n ∧ n ≤ 9223372036854775807) : wrap64 n = n := IntWalk.wrap64_in n h
set_option maxHeartbeats 1000000 in
theorem step_any (a b : Int) (ha : 0 ≤ a ∧ a ≤ 1099511627776) (hb : 0 ≤ b ∧ b ≤ 1099511627776) (w : World) : Calls Try.prog 38 #[.int .i64 a, .int .i64 b] w fun e w' => e = .returned (.int .i64 (step a b)) ∧ w = w' := by
  go_enter Try.func38, Try.ntmps38
  go_wp2
  all_goals
    go_ret
    refine ⟨ret_int ?_, rfl⟩
    unfold step
    first
      | (rw [if_pos (by assumption)]; done)
      | (rw [if_neg (by omega)]; done)
      | (rw [if_neg (by omega), w64 (by omega)])
set_option maxHeartbeats 1000000 in
theorem sample_any (x : S) (w : World) : Calls Try.prog 35 #[smpV x] w fun e w' => e = .returned (.bool (okS x)) ∧ Below w.heap.size w w' := by
  go_enter Try.func35, Try.ntmps35
  go_wp2
  all_goals
    go_ret
    refine ⟨ret_bool ?_, (Below.refl _ w).alloc (Nat.le_refl _) _⟩
    unfold okS
    rw [Bool.eq_iff_iff]
    simp only [Bool.and_eq_true, decide_eq_true_eq, Bool.false_eq_true, false_iff]
    omega
set_option maxHeartbeats 1000000 in
theorem place_any (l : List S) (hl : l.length ≤ 100000) (t : Int) (A : Option Addr) (c B : Nat) (w : World) (hL : LS w B A l) : Calls Try.prog 41 #[.slice A l.length c, .int .i64 t] w fun e w' => e = .returned (.int .i64 (plc l t)) ∧ w = w' := by
  have HL := Lib.hid hL
  clear hL
  go_enter Try.func41, Try.ntmps41
  go_wp2
  go_loop [5] (fun i => ∃ k : Nat, k ≤ l.length ∧ i = .int .i64 k ∧ Hid (∀ j, j < k → ∀ y, l[j]? = some y → y.1 < t)) (fun i => l.length - (intOf i).toNat)
  case atStart => exact ⟨0, by omega, rfl, fun j hj => by omega⟩
  case round =>
    obtain ⟨k, hk, rfl, H⟩ := hrel
    by_cases hlt : k < l.length
    · obtain ⟨b, off, rfl, hb, h1, h2⟩ := HL.out.at_ hlt
      by_cases ht : l[k].1 < t
      · have H2 : Hid (∀ j, j < k + 1 → ∀ y, l[j]? = some y → y.1 < t) := fun j hj y hy => by
          rcases Nat.lt_or_ge j k with h3 | h3
          · exact H.out j h3 y hy
          · obtain rfl : j = k := by omega
            rw [List.getElem?_eq_getElem hlt] at hy
            cases hy
            exact ht
        clear H
        go_wp2
        go_round
        case rel => exact ⟨k + 1, by omega, by go_num, H2⟩
        case measure => simp [intOf]; omega
      · have HE : Hid (plc l t = k) := plc_is (by omega) H.out fun y hy => by
          rw [List.getElem?_eq_getElem hlt] at hy
          cases hy
          omega
        clear H
        go_wp2
        go_ret
        rw [HE.out]
        exact ⟨rfl, rfl⟩
    · obtain rfl : k = l.length := by omega
      have HE : Hid (plc l t = l.length) := plc_is (Nat.le_refl _) H.out fun y hy => by
        rw [List.getElem?_eq_none (Nat.le_refl _)] at hy
        cases hy
      clear H
      go_wp2
      go_ret
      rw [HE.out]
      exact ⟨rfl, rfl⟩
end Go.Proofs.Ytobipbedkkmlcaa.Sr
