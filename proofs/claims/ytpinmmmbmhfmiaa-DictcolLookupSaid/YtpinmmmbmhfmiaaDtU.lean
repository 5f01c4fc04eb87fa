/- Layer 10: slices.Contains at strings and numbers, slices.Reverse, slices.Sort and slices.IsSorted. -/
import Derived.Shelf.SlicesG.ReverseS
import Derived.Sort.OwnSortedInts
import Derived.Test.YtpinmmmbmhfmiaaDtR
set_option linter.unusedVariables false
set_option linter.unusedSimpArgs false
namespace Go.Proofs.Ytpinmmmbmhfmiaa.Dt
open Go.RowKit Go.Sort Dc
set_option maxHeartbeats 1000000 in
set_option maxRecDepth 100000 in
theorem sindex_any (l : List BA) (hl : l.length ≤ 1000000) (s : BA) (sv : Value) (w : World) (hI : StrsAt w.heap.size w sv l) :
    Calls Try.prog 45 #[sv, .string s] w fun e w' => e = .returned (.int .i64 (idxI s l)) ∧ w = w' := by
  obtain ⟨a, cap, rfl, hcx⟩ := hI
  have HX := Lib.hid hcx
  have HN := Lib.hid (@idxI_none s l)
  have HA := Lib.hid fun k => @idxI_at s l k
  clear hcx
  generalize idxI s l = r at *
  go_enter Try.func45, Try.ntmps45
  go_wp2
  go_loop [8] (fun vi => ∃ k : Nat, k ≤ l.length ∧ vi = .int .i64 k ∧ Hid (∀ j (h : j < l.length), j < k → l[j] ≠ s)) (fun vi => l.length - (intOf vi).toNat)
  case atStart => exact ⟨0, Nat.zero_le _, rfl, Lib.hid (fun j _ h => by omega)⟩
  case round =>
    obtain ⟨k, hk, rfl, HP⟩ := hrel
    by_cases hlt : k < l.length
    · obtain ⟨b, o, rfl, hb, hc⟩ := HX.out (by omega)
      have hcell := hc k hlt
      rw [at_get hlt] at hcell
      have hi : (k : Int) < l.length := by omega
      by_cases hq : l[k] = s
      · have hqq := eq_yes hq.symm
        have HE := Lib.hid (HA.out k hlt hq (fun j hj => HP.out j (by omega) hj))
        generalize l[k] = x at *
        clear hc HX HN HA HP hq
        go_wp2
        go_ret
        rw [HE.out]
        exact ⟨rfl, rfl⟩
      · have hqq := eq_no (fun h => hq (Eq.symm h))
        have HP2 : Hid (∀ j (h : j < l.length), j < k + 1 → l[j] ≠ s) := Lib.hid fun j h hj => by
          by_cases e : j = k
          · subst e; exact hq
          · exact HP.out j h (by omega)
        generalize l[k] = x at *
        clear hc HN HA HP hq
        go_wp2
        go_round
        case rel => exact ⟨k + 1, by omega, by go_num, HP2⟩
        case measure => simp [intOf]; omega
    · have HE := Lib.hid (HN.out fun j hj => HP.out j hj (by omega))
      clear HN HA HP
      go_wp2
      go_ret
      rw [HE.out]
      exact ⟨rfl, rfl⟩
theorem has_any (l : List BA) (hl : l.length ≤ 1000000) (s : BA) (sv : Value) (w : World) (hI : StrsAt w.heap.size w sv l) :
    Calls Try.prog 30 #[sv, .string s] w fun e w' => e = .returned (.bool (decide (0 ≤ idxI s l))) ∧ w = w' := by
  have HM := Lib.hid (sindex_any l hl s sv w hI)
  obtain ⟨a, ca, rfl, _⟩ := hI
  generalize idxI s l = r at *
  go_enter Try.func30, Try.ntmps30
  go_wp2_with fail
  refine HM.out.mono ?_
  rintro e w4 ⟨rfl, rfl⟩
  go_wp2
  go_ret
  exact ⟨rfl, rfl⟩
set_option maxHeartbeats 1000000 in
set_option maxRecDepth 100000 in
theorem zindex_any (l : List Int) (hl : l.length ≤ 1000000) (z : Int) (sv : Value) (w : World) (hI : IntsAt w.heap.size w sv l) :
    Calls Try.prog 49 #[sv, .int .i64 z] w fun e w' => (∃ r : Int, e = .returned (.int .i64 r) ∧ (0 ≤ r ↔ z ∈ l)) ∧ w = w' := by
  obtain ⟨a, cap, rfl, hcx⟩ := hI
  have HX := Lib.hid hcx
  clear hcx
  go_enter Try.func49, Try.ntmps49
  go_wp2
  go_loop [8] (fun vi => ∃ k : Nat, k ≤ l.length ∧ vi = .int .i64 k ∧ Hid (∀ j (h : j < l.length), j < k → l[j] ≠ z)) (fun vi => l.length - (intOf vi).toNat)
  case atStart => exact ⟨0, Nat.zero_le _, rfl, Lib.hid (fun j _ h => by omega)⟩
  case round =>
    obtain ⟨k, hk, rfl, HP⟩ := hrel
    by_cases hlt : k < l.length
    · obtain ⟨b, o, rfl, hb, hc⟩ := HX.out (List.ne_nil_of_length_pos (by omega))
      have hcell := hc k hlt
      rw [List.getElem?_eq_getElem hlt] at hcell
      have hcell : w.cell? ⟨b, o + k, none⟩ = some (.int .i64 l[k]) := hcell
      have hi : (k : Int) < l.length := by omega
      by_cases hq : l[k] = z
      · have hqq : (z == l[k]) = true := by rw [hq]; simp
        have HE : Hid (z ∈ l) := Lib.hid (by rw [← hq]; exact List.getElem_mem hlt)
        generalize l[k] = x at *
        clear hc HX HP hq
        go_wp2
        go_ret
        exact ⟨⟨_, rfl, fun _ => HE.out, fun _ => by omega⟩, rfl⟩
      · have hqq : (z == l[k]) = false := by rw [beq_eq_false_iff_ne]; exact fun h => hq h.symm
        have HP2 : Hid (∀ j (h : j < l.length), j < k + 1 → l[j] ≠ z) := Lib.hid fun j h hj => by
          by_cases e : j = k
          · subst e; exact hq
          · exact HP.out j h (by omega)
        generalize l[k] = x at *
        clear hc HP hq
        go_wp2
        go_round
        case rel => exact ⟨k + 1, by omega, by go_num, HP2⟩
        case measure => simp [intOf]; omega
    · have HE : Hid (z ∉ l) := Lib.hid fun h => by
        obtain ⟨j, hj, e⟩ := List.mem_iff_getElem.1 h
        exact HP.out j hj (by omega) e
      clear HP
      go_wp2
      go_ret
      exact ⟨⟨_, rfl, fun h => absurd h (by decide), fun h => absurd h HE.out⟩, rfl⟩
theorem hasz_any (l : List Int) (hl : l.length ≤ 1000000) (z : Int) (sv : Value) (w : World) (hI : IntsAt w.heap.size w sv l) :
    Calls Try.prog 33 #[sv, .int .i64 z] w fun e w' => e = .returned (.bool (decide (z ∈ l))) ∧ w = w' := by
  have HM := Lib.hid (zindex_any l hl z sv w hI)
  obtain ⟨a, ca, rfl, _⟩ := hI
  go_enter Try.func33, Try.ntmps33
  go_wp2_with fail
  refine HM.out.mono ?_
  rintro e w4 ⟨⟨r, rfl, hk⟩, rfl⟩
  have HK := Lib.hid hk
  clear hk
  go_wp2
  go_ret
  exact ⟨ret_bool (decide_eq_decide.2 HK.out), rfl⟩
theorem bls_rev (l : List BA) : (bls l).reverse = bls l.reverse := by unfold bls; rw [List.map_reverse]
theorem rev_any (B : Nat) (l : List BA) (hl : l.length ≤ 100000) (v : Value) (w : World) (hO : OwnS B w v l) :
    Calls Try.prog 29 #[v] w fun e w' => e = .returned (.tuple #[]) ∧ OwnS B w' v l.reverse ∧ w.grownBy w' v.ownBlock := by
  have hr := own_bls hO
  rcases hr.2 with ⟨rfl, hz⟩ | ⟨g, cap, cur, rfl, hbase, hg, h1, h2, h3, h4⟩
  · rw [bls_len] at hz
    have : l = [] := List.eq_nil_of_length_eq_zero hz
    subst this
    refine (AnyG.slices_Reverse_string_empty Try.revS none 0 w).mono ?_
    rintro e w' ⟨rfl, rfl⟩
    exact ⟨rfl, OwnS.nil_ B w', World.grownBy.refl _ _⟩
  · have hH : Holds encStr w g 0 (bls l).toArray := holds_of_block hg (by simpa using h4)
    refine (AnyG.slices_Reverse_string Try.revS g 0 cap (bls l) w hH (by rw [bls_len]; omega)).mono ?_
    rintro e w' ⟨rfl, q, rfl⟩
    have e0 : putRow encStr (Sort.ahead w q) g 0 (bls l).reverse.toArray = grow (putRow encStr (Sort.ahead w q) g 0 (bls l).reverse.toArray) #[] := by unfold grow; rw [Array.append_empty]
    have hG := grownBy_sorted (w := w) (g := g) (n := q) (os := #[]) (bls l).reverse.toArray
    have hS := ownsRow_sorted (n := q) (os := #[]) (ts := (bls l).reverse) (ss := bls l) (by simp) hbase hg h1 h2 h3
    rw [← e0] at hG hS
    refine ⟨rfl, ?_, hG⟩
    unfold OwnS
    rw [List.length_reverse, ← bls_len l, ← enc_bls, ← bls_rev]
    exact hS
/-- A row of numbers of the call's own. -/
def OwnZ (B : Nat) (w : World) (v : Value) (l : List Int) : Prop := w.ownsRow B 3 1 v l.length (ic l)
theorem sortz_any (B : Nat) (l : List Int) (hl : l.length ≤ 100000) (v : Value) (w : World) (hO : OwnZ B w v l) :
    Calls Try.prog 32 #[v] w fun e w' => e = .returned (.tuple #[]) ∧ OwnZ B w' v (l.mergeSort fun x y => decide (x ≤ y)) ∧ w.grownBy w' v.ownBlock := by
  have hr := hO
  rcases hr.2 with ⟨rfl, hz⟩ | ⟨g, cap, cur, rfl, hbase, hg, h1, h2, h3, h4⟩
  · have : l = [] := List.eq_nil_of_length_eq_zero hz
    subst this
    refine (AnyM.slices_Sort_int_none Try.sortI none 0 w).mono ?_
    rintro e w' ⟨rfl, rfl⟩
    exact ⟨rfl, by simpa using hO, World.grownBy.refl _ _⟩
  · have hH : Holds (Value.int .i64) w g 0 l.toArray := holds_of_blockI hg (by rw [Nat.mul_one] at h4; exact h4)
    refine (AnyM.slices_Sort_int Try.sortI g 0 cap l w hH (Array.getElem?_eq_some_iff.1 hg).1 (by omega)).mono ?_
    rintro e w' ⟨rfl, nn, os, rfl⟩
    refine ⟨rfl, ?_, grownBy_sortedI _⟩
    have hlen : (l.mergeSort fun x y => decide (x ≤ y)).length = l.length := (List.mergeSort_perm l _).length_eq
    have := ownsRow_sortedI (n := nn) (os := os) (ts := l.mergeSort fun x y => decide (x ≤ y)) (ss := l) hlen hbase hg h1 h2 h3
    unfold OwnZ
    rw [hlen]
    exact this
theorem less_any (x y : Int) (w : World) : Calls Try.prog 46 #[.int .i64 x, .int .i64 y] w fun e w' => e = .returned (.bool (decide (x < y))) ∧ w = w' := by
  have hx : (x != x) = false := by simp
  have hy : (y != y) = false := by simp
  go_enter Try.func46, Try.ntmps46
  go_wp2
  go_ret
  exact ⟨rfl, rfl⟩
end Go.Proofs.Ytpinmmmbmhfmiaa.Dt
