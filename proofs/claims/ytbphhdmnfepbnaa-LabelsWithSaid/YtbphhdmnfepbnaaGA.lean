/- Layer 5: great. -/
import Derived.Deep.QuietTactic
import Derived.BigQuiet
import Derived.Test.YtbphhdmnfepbnaaLE
set_option linter.unusedVariables false
set_option linter.unusedSimpArgs false
namespace Go.Proofs.Ytbphhdmnfepbnaa.Lab
open Go.RowKit
/-- A list of labels as it stands in memory. -/
structure Sl where
  A : Option Addr
  c : Nat
  l : List Lb
def Sl.val (x : Sl) : Value := .slice x.A x.l.length x.c
structure Sl.Ok (w : World) (B : Nat) (x : Sl) : Prop where
  len : x.l.length ≤ maxLen
  sz : ∀ y ∈ x.l, y.n.size ≤ maxLen ∧ y.v.size ≤ maxLen
  ls : LS w B x.A x.l
/-- The row at block b holds the lists. -/
structure Row49 (w : World) (b : Nat) (l : List Sl) : Prop where
  cell : ∀ j (h : j < l.length), w.cell? ⟨b, j, none⟩ = some (.slice l[j].A l[j].l.length l[j].c)
  ok : ∀ x ∈ l, ∃ B, x.Ok w B
def greatLL (l : List Sl) : Bool := l.any fun x => greatL x.l
def IdxP (b : Bool) (w : World) (e : Ending) (w' : World) : Prop := ∃ i : Int, e = .returned (.int .i64 i) ∧ decide (0 ≤ i) = b ∧ w = w'
set_option maxHeartbeats 1000000 in
theorem idxGreat_any (l : List Sl) (hl : l.length ≤ 3) (b c : Nat) (w : World) (hL : Row49 w b l) :
    Calls Try.prog 56 #[.slice (some ⟨b, 0, none⟩) l.length c, .func (.func 35) #[] #[]] w (IdxP (greatLL l) w) := by
  have HL := Lib.hid hL
  clear hL
  go_enter Try.func56, Try.ntmps56
  go_wp2
  go_loop [8] (fun i => ∃ k : Nat, k ≤ l.length ∧ i = .int .i64 k ∧ Hid (∀ j (hj : j < l.length), j < k → greatL l[j].l = false)) (fun i => l.length - (intOf i).toNat)
  case atStart => exact ⟨0, by omega, rfl, fun j _ h => by omega⟩
  case round =>
    obtain ⟨k, hk, rfl, H⟩ := hrel
    by_cases hlt : k < l.length
    · have h1 := HL.out.cell k hlt
      obtain ⟨B, ho⟩ := HL.out.ok _ (List.getElem_mem hlt)
      have C := Lib.hid (refGreat_any l[k].l ho.len ho.sz l[k].A l[k].c B w ho.ls)
      clear ho
      cases hg : greatL l[k].l with
      | true =>
        rw [hg] at C
        have HE : Hid (greatLL l = true) := List.any_eq_true.2 ⟨l[k], List.getElem_mem hlt, hg⟩
        clear H hg
        go_wp2_with (go_at_call 35; (with_reducible refine C.out.mono ?_); rintro e w' ⟨rfl, rfl⟩)
        go_ret
        exact ⟨_, rfl, by rw [HE.out]; exact decide_eq_true (by omega), rfl⟩
      | false =>
        rw [hg] at C
        have HE : Hid (∀ j (hj : j < l.length), j < k + 1 → greatL l[j].l = false) := fun j hj h => by
          rcases Nat.lt_or_ge j k with h3 | h3
          · exact H.out j hj h3
          · obtain rfl : j = k := by omega
            exact hg
        clear H hg
        go_wp2_with (go_at_call 35; (with_reducible refine C.out.mono ?_); rintro e w' ⟨rfl, rfl⟩)
        go_round
        case rel => exact ⟨k + 1, by omega, by go_num, HE⟩
        case measure => simp [intOf]; omega
    · obtain rfl : k = l.length := by omega
      have HE : Hid (greatLL l = false) := List.any_eq_false.2 fun x hx => by
        obtain ⟨j, hj, rfl⟩ := List.getElem_of_mem hx
        simp [H.out j hj hj]
      clear H
      go_wp2
      go_ret
      exact ⟨-1, rfl, by rw [HE.out]; rfl, rfl⟩
theorem hasGreat_any (l : List Sl) (hl : l.length ≤ 3) (b c : Nat) (w : World) (hL : Row49 w b l) :
    Calls Try.prog 34 #[.slice (some ⟨b, 0, none⟩) l.length c, .func (.func 35) #[] #[]] w fun e w' => e = .returned (.bool (greatLL l)) ∧ w = w' := by
  have C := Lib.hid (idxGreat_any l hl b c w hL)
  clear hL
  go_enter Try.func34, Try.ntmps34
  go_wp2_with (go_at_call 56; (with_reducible refine C.out.mono ?_); rintro e w' ⟨i, rfl, hi, rfl⟩)
  go_ret
  exact ⟨by rw [← hi]; rfl, rfl⟩
theorem great_any (l : List Sl) (hl : l.length ≤ 3) (b c : Nat) (w : World) (hL : Row49 w b l) :
    Calls Try.prog 10 #[.slice (some ⟨b, 0, none⟩) l.length c] w fun e w' => e = .returned (.bool (greatLL l)) ∧ w = w' := by
  have C := Lib.hid (hasGreat_any l hl b c w hL)
  clear hL
  go_enter Try.func10, Try.ntmps10
  go_wp2_with (go_at_call 34; (with_reducible refine C.out.mono ?_); rintro e w' ⟨rfl, rfl⟩)
  go_ret
  exact ⟨rfl, rfl⟩
end Go.Proofs.Ytbphhdmnfepbnaa.Lab
