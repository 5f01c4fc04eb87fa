/- Layer 11: the reference's Same, Great, Resets, Increase; great. -/
import Derived.Laws.StructEq
import Derived.Deep.QuietTactic
import Derived.Deep.RegionWith
import Derived.BigQuiet
import Derived.Test.YtobipbedkkmlcaaSrQ
set_option linter.unusedVariables false
set_option linter.unusedSimpArgs false
namespace Go.Proofs.Ytobipbedkkmlcaa.Sr
open Go.RowKit
theorem neq_smp (a b c d : Int) (w : World) : (binOp .neq 33 (.agg #[.int .i64 a, .int .i64 b]) (.agg #[.int .i64 c, .int .i64 d])).run Try.prog w = .ok (.bool (!(a == c && b == d))) w := by
  have u3 := Try.underlying3
  have hS : Try.prog.underlying 33 = some (.struct (Try.prog.fieldsOf 33)) := by kernel_rfl
  have hp : Try.prog.stoodInHeld 33 = false := by kernel_rfl
  rw [run_neq_struct, show (10000 : Nat) = 9999 + 1 from rfl, run_equalIn_agg w 9999 33 _ _ hS hp]
  simp only [Program.fieldsOf, Try.underlying33]
  go_simp
  by_cases h1 : a = c <;> by_cases h2 : b = d <;> simp [h1, h2]
/-- Two samples are equal; two lists. -/
def eqX (x y : S) : Bool := x.1 == y.1 && x.2 == y.2
theorem eqX_iff {x y : S} : eqX x y = true ↔ x = y := by
  unfold eqX
  rw [Bool.and_eq_true, beq_iff_eq, beq_iff_eq]
  exact ⟨fun h => Prod.ext h.1 h.2, fun h => by rw [h]; exact ⟨rfl, rfl⟩⟩
def EqAt (a b : List S) (k : Nat) : Prop := a.take k = b.take k
theorem EqAt.start (a b : List S) : EqAt a b 0 := rfl
theorem EqAt.no {a b : List S} {k : Nat} (ha : k < a.length) (hb : k < b.length) (h : eqX a[k] b[k] = false) : decide (a = b) = false := by
  refine decide_eq_false fun e => ?_
  subst e
  rw [eqX_iff.2 rfl] at h
  cases h
theorem EqAt.next {a b : List S} {k : Nat} (H : EqAt a b k) (ha : k < a.length) (hb : k < b.length) (h : eqX a[k] b[k] = true) : EqAt a b (k + 1) := by
  unfold EqAt at H ⊢
  rw [take_snoc ha, take_snoc hb, H, eqX_iff.1 h]
theorem EqAt.done {a b : List S} {k : Nat} (H : EqAt a b k) (ha : a.length = k) (hb : b.length = k) : decide (a = b) = true := by
  unfold EqAt at H
  rw [List.take_of_length_le (by omega), List.take_of_length_le (by omega)] at H
  exact decide_eq_true H
theorem eq_len {a b : List S} (h : a.length ≠ b.length) : decide (a = b) = false := decide_eq_false fun e => h (by rw [e])
set_option maxHeartbeats 1000000 in
theorem same_any (a b : List S) (ha : a.length ≤ 100000) (hb : b.length ≤ 100000) (A C : Option Addr) (c d BA BB : Nat) (w : World) (hA : LS w BA A a) (hC : LS w BB C b) :
    Calls Try.prog 14 #[.slice A a.length c, .slice C b.length d] w fun e w' => e = .returned (.bool (decide (a = b))) ∧ ∃ n, w' = w.drewN n := by
  have HA := Lib.hid hA
  have HC := Lib.hid hC
  clear hA hC
  by_cases hlen : a.length = b.length
  · have HN := Lib.hid hlen
    have hq : ((a.length : Int) != (b.length : Int)) = false := by rw [hlen]; simp
    have hq2 : (a.length != b.length) = false := by rw [hlen]; simp
    clear hlen
    have HS := Lib.hid (EqAt.start a b)
    go_enter Try.func14, Try.ntmps14
    go_wp2
    go_loopw [5] (fun i wr => ∃ k : Nat, k ≤ a.length ∧ i = .int .i64 k ∧ Hid (EqAt a b k) ∧ Hid (∃ n, wr = w.drewN n)) (fun i _ => a.length - (intOf i).toNat)
    case atStart => exact ⟨0, by omega, rfl, HS, 0, rfl⟩
    case round =>
      clear HS
      obtain ⟨k, hk, rfl, H, hwr⟩ := hrel
      obtain ⟨n, rfl⟩ := hwr.out
      clear hwr
      by_cases hlt : k < a.length
      · have hlt2 : k < b.length := by have := HN.out; omega
        obtain ⟨bl, off, rfl, hbl, h1, h2⟩ := HA.out.at_ hlt
        obtain ⟨bl2, off2, rfl, hbl2, h3, h4⟩ := HC.out.at_ hlt2
        have hne := fun w => neq_smp a[k].1 a[k].2 b[k].1 b[k].2 w
        cases he : eqX a[k] b[k] with
        | false =>
          have HE := Lib.hid (EqAt.no hlt hlt2 he)
          simp only [show (a[k].1 == b[k].1 && a[k].2 == b[k].2) = false from he] at hne
          clear he H HN
          go_wp2
          go_quiet (fail)
          go_wp2
          go_ret
          rw [HE.out]
          exact ⟨rfl, _, World.drewN_drewN _ _ _⟩
        | true =>
          have HE := Lib.hid (H.out.next hlt hlt2 he)
          simp only [show (a[k].1 == b[k].1 && a[k].2 == b[k].2) = true from he] at hne
          clear he H HN
          go_wp2
          go_quiet (fail)
          go_wp2
          go_roundw
          case rel => exact ⟨k + 1, by omega, by go_num, HE, _, rfl⟩
          case measure => simp [intOf]; omega
      · have HE := Lib.hid (H.out.done (k := k) (by omega) (by have := HN.out; omega))
        clear H HN
        go_wp2
        go_ret
        rw [HE.out]
        exact ⟨rfl, _, rfl⟩
  · have HE := Lib.hid (eq_len hlen)
    have hq : ((a.length : Int) != (b.length : Int)) = true := by simp; omega
    have hq2 : (a.length != b.length) = true := by simp; omega
    clear hlen
    go_enter Try.func14, Try.ntmps14
    go_wp2
    go_ret
    rw [HE.out]
    exact ⟨rfl, 0, rfl⟩
def greatL (l : List S) : Bool := decide (24 < l.length)
theorem refGreat_any (l : List S) (A : Option Addr) (c : Nat) (w : World) : Calls Try.prog 32 #[.slice A l.length c] w fun e w' => e = .returned (.bool (greatL l)) ∧ w = w' := by
  go_enter Try.func32, Try.ntmps32
  go_wp2
  go_ret
  refine ⟨ret_bool ?_, rfl⟩
  unfold greatL
  first | rfl | (rw [Bool.eq_iff_iff]; simp; try omega)
/-- A list of samples as it stands in memory. -/
structure Sl where
  A : Option Addr
  c : Nat
  l : List S
/-- The row at block b holds the lists. -/
def Rows (w : World) (b : Nat) (l : List Sl) : Prop := ∀ j (h : j < l.length), w.cell? ⟨b, j, none⟩ = some (.slice l[j].A l[j].l.length l[j].c)
def greatLL (l : List Sl) : Bool := l.any fun x => greatL x.l
def IdxP (b : Bool) (w : World) (e : Ending) (w' : World) : Prop := ∃ i : Int, e = .returned (.int .i64 i) ∧ decide (0 ≤ i) = b ∧ w = w'
set_option maxHeartbeats 1000000 in
theorem idxGreat_any (l : List Sl) (hl : l.length ≤ 3) (b c : Nat) (w : World) (hL : Rows w b l) :
    Calls Try.prog 49 #[.slice (some ⟨b, 0, none⟩) l.length c, .func (.func 32) #[] #[]] w (IdxP (greatLL l) w) := by
  have HL := Lib.hid hL
  clear hL
  go_enter Try.func49, Try.ntmps49
  go_wp2
  go_loop [8] (fun i => ∃ k : Nat, k ≤ l.length ∧ i = .int .i64 k ∧ Hid (∀ j (hj : j < l.length), j < k → greatL l[j].l = false)) (fun i => l.length - (intOf i).toNat)
  case atStart => exact ⟨0, by omega, rfl, fun j _ h => by omega⟩
  case round =>
    obtain ⟨k, hk, rfl, H⟩ := hrel
    by_cases hlt : k < l.length
    · have h1 := HL.out k hlt
      have C := Lib.hid (refGreat_any l[k].l l[k].A l[k].c w)
      cases hg : greatL l[k].l with
      | true =>
        rw [hg] at C
        have HE : Hid (greatLL l = true) := List.any_eq_true.2 ⟨l[k], List.getElem_mem hlt, hg⟩
        clear H hg
        go_wp2_with (go_at_call 32; (with_reducible refine C.out.mono ?_); rintro e w' ⟨rfl, rfl⟩)
        go_ret
        exact ⟨_, rfl, by rw [HE.out]; exact decide_eq_true (by omega), rfl⟩
      | false =>
        rw [hg] at C
        have HE : Hid (∀ j (hj : j < l.length), j < k + 1 → greatL l[j].l = false) := fun j hj h => by
          rcases Nat.lt_or_ge j k with h3 | h3
          · exact H.out j hj h3
          · obtain rfl : j = k := by omega
            exact hg
        clear H hg
        go_wp2_with (go_at_call 32; (with_reducible refine C.out.mono ?_); rintro e w' ⟨rfl, rfl⟩)
        go_round
        case rel => exact ⟨k + 1, by omega, by go_num, HE⟩
        case measure => simp [intOf]; omega
    · obtain rfl : k = l.length := by omega
      have HE : Hid (greatLL l = false) := List.any_eq_false.2 fun x hx => by
        obtain ⟨j, hj, rfl⟩ := List.getElem_of_mem hx
        simp [H.out j hj hj]
      clear H
      go_wp2
      go_ret
      exact ⟨-1, rfl, by rw [HE.out]; rfl, rfl⟩
theorem hasGreat_any (l : List Sl) (hl : l.length ≤ 3) (b c : Nat) (w : World) (hL : Rows w b l) :
    Calls Try.prog 31 #[.slice (some ⟨b, 0, none⟩) l.length c, .func (.func 32) #[] #[]] w fun e w' => e = .returned (.bool (greatLL l)) ∧ w = w' := by
  have C := Lib.hid (idxGreat_any l hl b c w hL)
  clear hL
  go_enter Try.func31, Try.ntmps31
  go_wp2_with (go_at_call 49; (with_reducible refine C.out.mono ?_); rintro e w' ⟨i, rfl, hi, rfl⟩)
  go_ret
  exact ⟨by rw [← hi]; rfl, rfl⟩
theorem great_any (l : List Sl) (hl : l.length ≤ 3) (b c : Nat) (w : World) (hL : Rows w b l) :
    Calls Try.prog 10 #[.slice (some ⟨b, 0, none⟩) l.length c] w fun e w' => e = .returned (.bool (greatLL l)) ∧ w = w' := by
  have C := Lib.hid (hasGreat_any l hl b c w hL)
  clear hL
  go_enter Try.func10, Try.ntmps10
  go_wp2_with (go_at_call 31; (with_reducible refine C.out.mono ?_); rintro e w' ⟨rfl, rfl⟩)
  go_ret
  exact ⟨rfl, rfl⟩
end Go.Proofs.Ytobipbedkkmlcaa.Sr
