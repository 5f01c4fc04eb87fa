
/- Layer 7: Check, Same, Great of the reference; great of the laws. Layer 7: the examples of the chapter. Layer 7: awake. -/
import Derived.Test.YtdeppcddknakjaaGreatDoorCXq
import Derived.Test.YtdeppcddknakjaaGreatDoorCTm
import Derived.Test.YtdeppcddknakjaaGreatDoorCLa
import Derived.Test.YtdeppcddknakjaaGreatDoorCVa
set_option maxRecDepth 100000
set_option linter.unusedVariables false
set_option linter.unusedSimpArgs false
namespace Go.Proofs.YtdeppcddknakjaaGreatDoor.Mx
open Go.RowKit
open Go.Proofs.YtdeppcddknakjaaGreatDoor.Rx (EmpP SameP pfxS ChkP check check_ref_any)
open Go.Proofs.YtdeppcddknakjaaGreatDoor.Lab (nameB getL Lb LS refName_any)
set_option maxHeartbeats 4000000 in
theorem refOne_any (m : Mt) (hn : m.n.size ≤ maxLen) (hv : m.v.size ≤ maxLen) (w : World) :
  Calls Tryz.prog 37 #[.agg #[.int .i64 m.k, .string m.n, .string m.v]] w (ChkP (chk1 m) w) := by
 have HB : Hid (Below w.heap.size w (w.alloc (.cells #[.int .i64 m.k, .string m.n, .string m.v] 25))) := (Below.refl _ _).alloc (Nat.le_refl _) _
 obtain ⟨k, n, v⟩ := m
 dsimp only at hn hv HB ⊢
 unfold maxLen at hn hv
 by_cases h1 : k < 1
 ·have HE : Hid (chk1 ⟨k, n, v⟩ = 8) := if_pos (.inl h1)
  have e1 : decide (k < 1) = true := decide_eq_true h1
  rw [HE.out]
  go_enter Tryz.func37, Tryz.ntmps37
  go_wp2
  go_ret
  exact ⟨rfl, HB⟩
 ·have e1 : decide (k < 1) = false := decide_eq_false h1
  by_cases h4 : 4 < k
  ·have HE : Hid (chk1 ⟨k, n, v⟩ = 8) := if_pos (.inr h4)
   have e4 : decide (4 < k) = true := decide_eq_true h4
   rw [HE.out]
   go_enter Tryz.func37, Tryz.ntmps37
   go_wp2
   go_ret
   exact ⟨rfl, HB⟩
  ·have e4 : decide (4 < k) = false := decide_eq_false h4
   have HE : Hid (chk1 ⟨k, n, v⟩ = if nameB n = false then 5 else if 2 < k then check v.data.toList else if 200 < v.size then 4 else 0) := if_neg (by show ¬ (k < 1 ∨ 4 < k); omega)
   have KN := Lib.hid (refName_any n (by unfold maxLen; omega))
   cases hnm : nameB n with
   | false =>
    rw [hnm] at KN HE
    have HE' : Hid (chk1 ⟨k, n, v⟩ = 5) := HE.out
    rw [HE'.out]
    clear hnm HE
    go_enter Tryz.func37, Tryz.ntmps37
    go_wp2_with (go_at_call 69; (with_reducible refine (KN.out _).mono ?_); rintro e wz ⟨rfl, rfl⟩)
    go_ret
    exact ⟨rfl, HB⟩
   | true =>
    rw [hnm] at KN HE
    clear hnm
    by_cases h2 : 2 < k
    ·have e2 : decide (2 < k) = true := decide_eq_true h2
     have HE' : Hid (chk1 ⟨k, n, v⟩ = check v.data.toList) := by show _ = _; rw [HE.out, if_neg (by simp), if_pos h2]
     have KR := Lib.hid (check_ref_any v)
     rw [HE'.out]
     clear HE HE'
     generalize check v.data.toList = r at *
     go_enter Tryz.func37, Tryz.ntmps37
     go_wp2_with (first
      | (go_at_call 69; (with_reducible refine (KN.out _).mono ?_); rintro e wz ⟨rfl, rfl⟩)
      | (go_at_call 70; (with_reducible refine (KR.out _).mono ?_); rintro e w2 ⟨rfl, b2⟩))
     go_ret
     exact ⟨rfl, HB.out.trans (b2.out.mono HB.out.size)⟩
    ·have e2 : decide (2 < k) = false := decide_eq_false h2
     by_cases h200 : 200 < v.size
     ·have e3 : decide (200 < v.size) = true := decide_eq_true h200
      have HE' : Hid (chk1 ⟨k, n, v⟩ = 4) := by show _ = _; rw [HE.out, if_neg (by simp), if_neg h2, if_pos h200]
      rw [HE'.out]
      clear HE
      go_enter Tryz.func37, Tryz.ntmps37
      go_wp2_with (go_at_call 69; (with_reducible refine (KN.out _).mono ?_); rintro e wz ⟨rfl, rfl⟩)
      go_ret
      exact ⟨rfl, HB⟩
     ·have e3 : decide (200 < v.size) = false := decide_eq_false h200
      have HE' : Hid (chk1 ⟨k, n, v⟩ = 0) := by show _ = _; rw [HE.out, if_neg (by simp), if_neg h2, if_neg h200]
      rw [HE'.out]
      clear HE
      go_enter Tryz.func37, Tryz.ntmps37
      go_wp2_with (go_at_call 69; (with_reducible refine (KN.out _).mono ?_); rintro e wz ⟨rfl, rfl⟩)
      go_ret
      exact ⟨rfl, HB⟩
set_option maxHeartbeats 4000000 in
theorem refCheck_any (l : List Mt) (hl : Sz' l) (A : Option Addr) (c : Nat) (w : World) (hL : MS w w.heap.size A l) :
  Calls Tryz.prog 16 #[.slice A l.length c] w (ChkP (chkA l) w) := by
 have hlm := hl.len
 unfold maxLen at hlm
 have HL := Lib.hid hL
 have HZ := Lib.hid hl.sz
 clear hL
 by_cases h16 : 16 < l.length
 ·have HE : Hid (chkA l = 4) := if_pos h16
  rw [HE.out]
  go_enter Tryz.func16, Tryz.ntmps16
  go_wp2
  go_ret
  exact ⟨rfl, Below.refl _ _⟩
 ·have HC := Lib.hid (ChkAt.start h16)
  go_enter Tryz.func16, Tryz.ntmps16
  go_wp2
  go_loopw [3] (fun i wr => ∃ k : Nat, k ≤ l.length ∧ i = .int .i64 k ∧ Hid (ChkAt l k) ∧ Hid (Below w.heap.size w wr)) (fun i _ => l.length - (intOf i).toNat)
  case atStart => exact ⟨0, by omega, rfl, HC, Below.refl _ _⟩
  case round =>
   clear HC
   obtain ⟨k, hk, rfl, H, HB⟩ := hrel
   by_cases hlt : k < l.length
   ·obtain ⟨b, off, rfl, hb, h1', h2', h3'⟩ := HL.out.at_ hlt
    have h1 := (HB.out.cell (p := ⟨b, off + k * 3, none⟩) hb).trans h1'
    have h2 := (HB.out.cell (p := ⟨b, off + k * 3 + 1, none⟩) hb).trans h2'
    have h3 := (HB.out.cell (p := ⟨b, off + k * 3 + 2, none⟩) hb).trans h3'
    clear h1' h2' h3'
    obtain ⟨z1, z2⟩ := HZ.out l[k] (List.getElem_mem hlt)
    have C := Lib.hid (fun w => refOne_any l[k] z1 z2 w)
    clear z1 z2
    by_cases hz : chk1 l[k] = 0
    ·have HE := Lib.hid (H.out.next hlt hz)
     rw [hz] at C
     clear hz H
     go_wp2_with (go_at_call 37; (with_reducible refine (C.out _).mono ?_); rintro e w1 ⟨rfl, b1⟩)
     go_roundw
     case rel => exact ⟨k + 1, by omega, by go_num, HE, HB.out.trans (b1.out.mono HB.out.size)⟩
     case measure => simp [intOf]; omega
    ·have HE := Lib.hid (H.out.bad hlt hz)
     have hz' : (chk1 l[k] != 0) = true := by rw [bne, bneF hz]; rfl
     have hz2 := bneF hz
     clear hz H
     generalize chk1 l[k] = r at C HE hz' hz2
     go_wp2_with (go_at_call 37; (with_reducible refine (C.out _).mono ?_); rintro e w1 ⟨rfl, b1⟩)
     go_ret
     exact ⟨okI HE.out.symm, HB.out.trans (b1.out.mono HB.out.size)⟩
   ·have HE : Hid (chkA l = 0) := by
     obtain rfl : k = l.length := by omega
     exact H.out.done
    clear H
    go_wp2
    go_ret
    exact ⟨okI HE.out.symm, HB⟩
set_option maxHeartbeats 4000000 in
theorem refSame_any (a b : List Mt) (ha : a.length ≤ maxLen) (hb : b.length ≤ maxLen) (A C : Option Addr) (c d : Nat) (w : World) (hA : MS w w.heap.size A a) (hC : MS w w.heap.size C b) :
  Calls Tryz.prog 25 #[.slice A a.length c, .slice C b.length d] w (EmpP (decide (a = b)) w) := by
 unfold maxLen at ha hb
 have HA := Lib.hid hA
 have HC := Lib.hid hC
 clear hA hC
 by_cases hl : a.length = b.length
 ·have e0 := bneT (a := (a.length : Int)) (b := (b.length : Int)) (by omega)
  go_enter Tryz.func25, Tryz.ntmps25
  go_wp2
  go_loopw [5] (fun i wr => ∃ k : Nat, k ≤ a.length ∧ i = .int .i64 k ∧ Hid (a.take k = b.take k) ∧ Hid (∃ n, wr = w.drewN n)) (fun i _ => a.length - (intOf i).toNat)
  case atStart => exact ⟨0, by omega, rfl, rfl, 0, rfl⟩
  case round =>
   obtain ⟨k, hk, rfl, H, hwr⟩ := hrel
   obtain ⟨n, rfl⟩ := hwr.out
   clear hwr
   by_cases hlt : k < a.length
   ·have hlt2 : k < b.length := by omega
    obtain ⟨ba, oa, rfl, hba, a1, a2, a3⟩ := HA.out.at_ hlt
    obtain ⟨bc, oc, rfl, hbc, c1, c2, c3⟩ := HC.out.at_ hlt2
    have hne := fun w => neq_mt a[k] b[k] w
    by_cases he : a[k] = b[k]
    ·simp only [decide_eq_true he] at hne
     have HT : Hid (a.take (k + 1) = b.take (k + 1)) := by
      show _ = _
      rw [List.take_add_one, List.take_add_one, H.out, List.getElem?_eq_getElem hlt, List.getElem?_eq_getElem hlt2, he]
     clear he H
     generalize a[k] = x at *
     generalize b[k] = y at *
     go_wp2_with fail
     go_quiet (fail)
     go_wp2
     go_roundw
     case rel => exact ⟨k + 1, by omega, by go_num, HT, ⟨n + nq, rfl⟩⟩
     case measure => simp [intOf]; omega
    ·simp only [decide_eq_false he] at hne
     have HE : Hid (decide (a = b) = false) := decide_eq_false fun e => he (by subst e; rfl)
     clear he H
     generalize a[k] = x at *
     generalize b[k] = y at *
     go_wp2_with fail
     go_quiet (fail)
     go_wp2
     go_ret
     exact ⟨okE HE.out.symm, ⟨rfl, rfl, rfl, Nat.le_refl _, fun _ _ => rfl⟩⟩
   ·have HE : Hid (decide (a = b) = true) := decide_eq_true (by
     have h := H.out
     rwa [List.take_of_length_le (by omega), List.take_of_length_le (by omega)] at h)
    clear H
    go_wp2
    go_ret
    exact ⟨okE HE.out.symm, ⟨rfl, rfl, rfl, Nat.le_refl _, fun _ _ => rfl⟩⟩
 ·have e0 := bneF (a := (a.length : Int)) (b := (b.length : Int)) (by omega)
  have HE : Hid (decide (a = b) = false) := decide_eq_false fun e => hl (by rw [e])
  go_enter Tryz.func25, Tryz.ntmps25
  go_wp2
  go_ret
  exact ⟨okE HE.out.symm, Below.refl _ _⟩
/-- What the laws leave aside. -/
def bigM (m : Mt) : Bool := decide (61 < m.n.size) || ((decide (40 < m.v.size) && decide (2 < m.k)) || decide (201 < m.v.size))
def greatM (l : List Mt) : Bool := l.any bigM || decide (17 < l.length)
theorem greatM_big {l : List Mt} {k : Nat} (hk : k < l.length) (h : bigM l[k] = true) : greatM l = true := by
 unfold greatM
 rw [List.any_eq_true.2 ⟨_, List.getElem_mem hk, h⟩]
 rfl
theorem greatM_no {l : List Mt} (h : ∀ j (hj : j < l.length), bigM l[j] = false) : greatM l = decide (17 < l.length) := by
 unfold greatM
 rw [List.any_eq_false.2 fun x hx => by
  obtain ⟨j, hj, rfl⟩ := List.getElem_of_mem hx
  rw [h j hj]
  simp]
 rfl
set_option maxHeartbeats 4000000 in
theorem refGreatM_any (l : List Mt) (hl : Sz' l) (A : Option Addr) (c : Nat) (w : World) (hL : MS w w.heap.size A l) :
  Calls Tryz.prog 35 #[.slice A l.length c] w (SameP (greatM l) w) := by
 have hlm := hl.len
 unfold maxLen at hlm
 have HL := Lib.hid hL
 have HS := Lib.hid hl.sz
 clear hL
 go_enter Tryz.func35, Tryz.ntmps35
 go_wp2
 go_loop [3] (fun i => ∃ k : Nat, k ≤ l.length ∧ i = .int .i64 k ∧ Hid (∀ j (hj : j < l.length), j < k → bigM l[j] = false)) (fun i => l.length - (intOf i).toNat)
 case atStart => exact ⟨0, by omega, rfl, fun j _ h => by omega⟩
 case round =>
  obtain ⟨k, hk, rfl, H⟩ := hrel
  by_cases hlt : k < l.length
  ·obtain ⟨b, off, rfl, hb, h1, h2, h3⟩ := HL.out.at_ hlt
   obtain ⟨z1, z2⟩ := HS.out l[k] (List.getElem_mem hlt)
   unfold maxLen at z1 z2
   have HG := Lib.hid (greatM_big hlt)
   have HT : Hid (bigM l[k] = false → ∀ j (hj : j < l.length), j < k + 1 → bigM l[j] = false) := fun hx j hj h => by
    rcases Nat.lt_or_ge j k with h3 | h3
    ·exact H.out j hj h3
    ·obtain rfl : j = k := by omega
     exact hx
   clear H
   generalize l[k] = x at *
   obtain ⟨xk, xn, xv⟩ := x
   dsimp only at h1 h2 h3 z1 z2
   by_cases hn : 61 < xn.size
   ·have HE : Hid (greatM l = true) := HG.out (by unfold bigM; rw [decide_eq_true hn]; rfl)
    have e1 : decide (61 < xn.size) = true := decide_eq_true hn
    go_wp2
    go_ret
    exact ⟨okE HE.out.symm, rfl⟩
   ·have e1 : decide (61 < xn.size) = false := decide_eq_false hn
    by_cases hv : 201 < xv.size
    ·have HE : Hid (greatM l = true) := HG.out (by unfold bigM; rw [decide_eq_true hv, Bool.or_true, Bool.or_true])
     by_cases hk2 : 2 < xk
     ·go_wp2
      go_ret
      exact ⟨okE HE.out.symm, rfl⟩
     ·go_wp2
      go_ret
      exact ⟨okE HE.out.symm, rfl⟩
    ·by_cases h40 : 40 < xv.size
     ·by_cases hk2 : 2 < xk
      ·have HE : Hid (greatM l = true) := HG.out (by unfold bigM; rw [decide_eq_true h40, decide_eq_true hk2]; simp)
       go_wp2
       go_ret
       exact ⟨okE HE.out.symm, rfl⟩
      ·have HT2 := Lib.hid (HT.out (by unfold bigM; rw [decide_eq_false hn, decide_eq_false hk2, decide_eq_false hv]; simp))
       clear HT HG
       go_wp2
       go_round
       case rel => exact ⟨k + 1, by omega, by go_num, HT2⟩
       case measure => simp [intOf]; omega
     ·have HT2 := Lib.hid (HT.out (by unfold bigM; rw [decide_eq_false hn, decide_eq_false h40, decide_eq_false hv]; simp))
      clear HT HG
      go_wp2
      go_round
      case rel => exact ⟨k + 1, by omega, by go_num, HT2⟩
      case measure => simp [intOf]; omega
  ·have HE : Hid (greatM l = decide (17 < l.length)) := greatM_no fun j hj => H.out j hj (by omega)
   clear H
   go_wp2
   go_ret
   refine ⟨?_, rfl⟩
   rw [HE.out]
   first | rfl | (refine okE ?_; simp; omega)
/-- Lists that lie one behind the other. -/
structure Ls where
 A : Option Addr
 c : Nat
 l : List Mt
def SSl (w : World) (g : Nat) (xs : List Ls) : Prop := ∀ j (h : j < xs.length), w.cell? ⟨g, j, none⟩ = some (.slice xs[j].A xs[j].l.length xs[j].c) ∧ MS w w.heap.size xs[j].A xs[j].l ∧ Sz' xs[j].l
set_option maxHeartbeats 2000000 in
theorem greatIdx_any (xs : List Ls) (hl : xs.length ≤ 100) (g c : Nat) (w : World) (hx : SSl w g xs) :
  Calls Tryz.prog 65 #[.slice (some ⟨g, 0, none⟩) xs.length c, .func (.func 35) #[] #[]] w fun e w' => ∃ i : Int, e = .returned (.int .i64 i) ∧ decide (0 ≤ i) = xs.any (fun x => greatM x.l) ∧ w = w' := by
 have HX := Lib.hid hx
 clear hx
 go_enter Tryz.func65, Tryz.ntmps65
 go_wp2
 go_loop [5, 8] (fun _ i => ∃ k : Nat, k ≤ xs.length ∧ i = .int .i64 k ∧ Hid (∀ j (hj : j < xs.length), j < k → greatM xs[j].l = false)) (fun _ i => xs.length - (intOf i).toNat)
 case atStart => exact ⟨0, by omega, rfl, fun j _ h => by omega⟩
 case round =>
  obtain ⟨k, hk, rfl, H⟩ := hrel
  by_cases hlt : k < xs.length
  ·obtain ⟨h1, h2, h3⟩ := HX.out k hlt
   have C := Lib.hid (refGreatM_any xs[k].l h3 xs[k].A xs[k].c w h2)
   clear h2 h3
   cases hq : greatM xs[k].l with
   | true =>
    rw [hq] at C
    have HE : Hid (xs.any (fun x => greatM x.l) = true) := List.any_eq_true.2 ⟨xs[k], List.getElem_mem hlt, hq⟩
    clear H hq
    go_wp2_with fail
    refine C.out.mono ?_
    rintro e w1 ⟨rfl, rfl⟩
    go_wp2
    go_ret
    exact ⟨_, rfl, by rw [HE.out]; exact decide_eq_true (by omega), rfl⟩
   | false =>
    rw [hq] at C
    have HE : Hid (∀ j (hj : j < xs.length), j < k + 1 → greatM xs[j].l = false) := fun j hj h => by
     rcases Nat.lt_or_ge j k with h3 | h3
     ·exact H.out j hj h3
     ·obtain rfl : j = k := by omega
      exact hq
    clear H hq
    go_wp2_with fail
    refine C.out.mono ?_
    rintro e w1 ⟨rfl, rfl⟩
    go_wp2
    go_round
    case rel => exact ⟨k + 1, by omega, by go_num, HE⟩
    case measure => simp [intOf]; omega
  ·obtain rfl : k = xs.length := by omega
   have HE : Hid (xs.any (fun x => greatM x.l) = false) := List.any_eq_false.2 fun x hx => by
    obtain ⟨j, hj, rfl⟩ := List.getElem_of_mem hx
    simp [H.out j hj hj]
   clear H
   go_wp2
   go_ret
   exact ⟨-1, rfl, by rw [HE.out]; rfl, rfl⟩
theorem greatHas_any (xs : List Ls) (hl : xs.length ≤ 100) (g c : Nat) (w : World) (hx : SSl w g xs) :
  Calls Tryz.prog 34 #[.slice (some ⟨g, 0, none⟩) xs.length c, .func (.func 35) #[] #[]] w (SameP (xs.any fun x => greatM x.l) w) := by
 have C := Lib.hid (greatIdx_any xs hl g c w hx)
 clear hx
 go_enter Tryz.func34, Tryz.ntmps34
 go_wp2_with (go_at_call 65; (with_reducible refine C.out.mono ?_); rintro e w' ⟨i, rfl, hi, rfl⟩)
 go_ret
 exact ⟨rfl, rfl⟩
theorem great_any (xs : List Ls) (hl : xs.length ≤ 100) (g c : Nat) (w : World) (hx : SSl w g xs) :
  Calls Tryz.prog 12 #[.slice (some ⟨g, 0, none⟩) xs.length c] w (SameP (xs.any fun x => greatM x.l) w) := by
 have C := Lib.hid (greatHas_any xs hl g c w hx)
 clear hx
 go_enter Tryz.func12, Tryz.ntmps12
 go_wp2_with (go_at_call 34; (with_reducible refine C.out.mono ?_); rintro e w' ⟨rfl, rfl⟩)
 go_ret
 exact ⟨rfl, rfl⟩
end Go.Proofs.YtdeppcddknakjaaGreatDoor.Mx
namespace Go.Proofs.YtdeppcddknakjaaGreatDoor.Mx
open Go.Proofs.YtdeppcddknakjaaGreatDoor.Rx (Re Mat parse check prefix_ mat_byte mat_cls mat_nil mat_cons MatS)
open Go.Proofs.YtdeppcddknakjaaGreatDoor.Lab (quo letterB getL Lb)
/-- The example, and what it is after simplifying. -/
def exT : ByteArray := ⟨#[123, 98, 33, 61, 34, 113, 34, 44, 98, 61, 126, 34, 121, 46, 42, 34, 44, 97, 61, 126, 34, 120, 34, 44, 97, 33, 61, 34, 119, 34, 125]⟩
def ex1 : Mt := ⟨2, ⟨#[98]⟩, ⟨#[113]⟩⟩
def ex2 : Mt := ⟨3, ⟨#[98]⟩, ⟨#[121, 46, 42]⟩⟩
def ex3 : Mt := ⟨3, ⟨#[97]⟩, ⟨#[120]⟩⟩
def ex3' : Mt := ⟨1, ⟨#[97]⟩, ⟨#[120]⟩⟩
def ex4 : Mt := ⟨2, ⟨#[97]⟩, ⟨#[119]⟩⟩
def ex5 : Mt := ⟨2, ⟨#[97]⟩, ⟨#[120]⟩⟩
def exL : List Mt := [ex1, ex2, ex3, ex4]
theorem ex_read : rdA exT.data.toList = exL := by kernel_rfl
theorem ex_text : txtM exL = exT.data.toList := by kernel_rfl
theorem ex_chk : chkA exL = 0 := by kernel_rfl
theorem ex_lit : exL.map lit = [ex1, ex2, ex3', ex4] := by kernel_rfl
theorem ex_pre : preS ex2.v = (⟨#[121]⟩, false) := by kernel_rfl
theorem ex_emp : emp ex2.v = false := by kernel_rfl
theorem ex_q : mB ex2.v ⟨#[113]⟩ = false := by
 cases h : mB ex2.v ⟨#[113]⟩ with
 | false => rfl
 | true =>
  have h2 := mB_pre h
  rw [ex_pre] at h2
  obtain ⟨t, ht⟩ := h2
  cases ht
theorem ex_z : mB ex2.v ⟨#[122]⟩ = false := by
 cases h : mB ex2.v ⟨#[122]⟩ with
 | false => rfl
 | true =>
  have h2 := mB_pre h
  rw [ex_pre] at h2
  obtain ⟨t, ht⟩ := h2
  cases ht
theorem ex_parse : parse ex2.v.data.toList = some (.alt [.cat [.byte 121, .star (.cls fun _ => true)]]) := by rfl
theorem ex_check : check ex2.v.data.toList = 0 := by kernel_rfl
theorem ex_yz : mB ex2.v ⟨#[121, 122]⟩ = true := by
 refine mB_iff.2 ⟨_, ex_check, ex_parse, ?_⟩
 refine Mat.alt (List.mem_singleton.2 rfl) ?_
 have h1 : Mat (.star (.cls fun _ => true)) ([122] ++ []) := Mat.star_cons (.cls _ 122 rfl) .star_nil
 exact Mat.cat_cons (a := [121]) (b := [122]) (.byte 121) (Mat.cat_cons (a := [122]) (b := []) h1 .cat_nil)
def exS : List Mt := [ex1, ex2, ex3', ex4]
theorem tellsN {x m : Mt} (h1 : x.k ≠ 1) (h3 : x.k ≠ 3) : tells x m = false := by unfold tells; rw [if_neg h1, if_neg h3]
theorem tellsE {x m : Mt} (h : x.k = 1) : tells x m = fits m x.v := by unfold tells; rw [if_pos h]
theorem tellsR {x m : Mt} (h : x.k = 3) : tells x m = excl x.v m := by unfold tells; rw [if_neg (by omega), if_pos h]
theorem exclN {p : ByteArray} {m : Mt} (h2 : m.k ≠ 2) (h4 : m.k ≠ 4) : excl p m = false := by unfold excl; rw [if_neg h2, if_neg h4]
theorem grp_b : grp exS ⟨#[98]⟩ = [ex1, ex2] := by kernel_rfl
theorem grp_a : grp exS ⟨#[97]⟩ = [ex3', ex4] := by kernel_rfl
theorem ens_b (m : Mt) (hn : m.n = ⟨#[98]⟩) : ens exS m = ((decide (m.k = 4) && emp m.v) || excl ex2.v m) := by
 unfold ens
 rw [hn, grp_b, List.any_cons, List.any_cons, List.any_nil, tellsN (show ex1.k ≠ 1 by decide) (show ex1.k ≠ 3 by decide), tellsR (show ex2.k = 3 from rfl)]
 simp
theorem ens_a (m : Mt) (hn : m.n = ⟨#[97]⟩) : ens exS m = ((decide (m.k = 4) && emp m.v) || fits m ⟨#[120]⟩) := by
 unfold ens
 rw [hn, grp_a, List.any_cons, List.any_cons, List.any_nil, tellsE (show ex3'.k = 1 from rfl), tellsN (show ex4.k ≠ 1 by decide) (show ex4.k ≠ 3 by decide)]
 simp [ex3']
theorem con1 : contra exS ex1 = false := by
 show ens exS ⟨1, ⟨#[98]⟩, ⟨#[113]⟩⟩ = false
 rw [ens_b _ rfl, exclN (by decide) (by decide)]
 rfl
theorem con2 : contra exS ex2 = false := by
 show ens exS ⟨4, ⟨#[98]⟩, ⟨#[121, 46, 42]⟩⟩ = false
 rw [ens_b _ rfl, excl4 rfl]
 show (_ && emp ex2.v || apart ex2.v ex2.v) = false
 rw [ex_emp, apart_self]
 simp
theorem con3 : contra exS ex3' = false := by
 show ens exS ⟨2, ⟨#[97]⟩, ⟨#[120]⟩⟩ = false
 rw [ens_a _ rfl, fits2 rfl]
 simp
theorem con4 : contra exS ex4 = false := by
 show ens exS ⟨1, ⟨#[97]⟩, ⟨#[119]⟩⟩ = false
 rw [ens_a _ rfl, fits1 rfl]
 decide
theorem rep1 : repl exS ex1 = true := by
 unfold repl
 rw [ens_b _ rfl, excl2 rfl]
 show (_ && (_ || !mB ex2.v ⟨#[113]⟩)) = true
 rw [ex_q]
 simp [ex1]
theorem rep2 : repl exS ex2 = false := by
 unfold repl
 rw [ens_b _ rfl, exclN (by decide) (by decide)]
 rfl
theorem rep3 : repl exS ex3' = false := by
 unfold repl
 rw [show decide (ex3'.k ≠ 1) = false from rfl, Bool.false_and]
theorem rep4 : repl exS ex4 = true := by
 unfold repl
 rw [ens_a _ rfl, fits2 rfl]
 decide
theorem ex_lt : ltM ex3' ex2 := by
 have h : decide (cmpM ex3' ex2 < 0) = true := by kernel_rfl
 show cmpM ex3' ex2 < 0
 exact of_decide_eq_true h
theorem ex_sim : simA exL = some [ex3', ex2] := by
 refine simA_intro ?_ ?_ ?_
 ·rw [ex_lit]
  intro m hm
  simp only [List.mem_cons, List.not_mem_nil, or_false] at hm
  rcases hm with rfl | rfl | rfl | rfl
  ·exact con1
  ·exact con2
  ·exact con3
  ·exact con4
 ·rw [ex_lit]
  intro m
  constructor
  ·intro hm
   simp only [List.mem_cons, List.not_mem_nil, or_false] at hm
   rcases hm with rfl | rfl
   ·exact ⟨by simp, rep3⟩
   ·exact ⟨by simp, rep2⟩
  ·rintro ⟨hm, hr⟩
   simp only [List.mem_cons, List.not_mem_nil, or_false] at hm
   rcases hm with rfl | rfl | rfl | rfl
   ·have := rep1.symm.trans hr; cases this
   ·simp
   ·simp
   ·have := rep4.symm.trans hr; cases this
 ·exact List.Pairwise.cons (fun m hm => by rw [List.mem_singleton] at hm; subst hm; exact ex_lt) (List.pairwise_singleton _ _)
theorem ex_bad : simA [ex3', ex5] = none := by
 refine simA_none.2 ⟨ex5, ?_, ?_⟩
 ·have : [ex3', ex5].map lit = [ex3', ex5] := by kernel_rfl
  rw [this]
  simp
 ·have h : [ex3', ex5].map lit = [ex3', ex5] := by kernel_rfl
  rw [h]
  show ens [ex3', ex5] ⟨1, ⟨#[97]⟩, ⟨#[120]⟩⟩ = true
  unfold ens
  have hg : grp [ex3', ex5] ⟨#[97]⟩ = [ex3', ex5] := by kernel_rfl
  show (_ || (grp [ex3', ex5] ⟨#[97]⟩).any _) = true
  rw [hg, List.any_cons, tellsE (show ex3'.k = 1 from rfl), fits1 rfl]
  simp [ex3']
theorem ex_chk2 : chkA [ex3', ex2] = 0 := by kernel_rfl
theorem ex_chk3 : chkA [ex3', ex5] = 0 := by kernel_rfl
def exG : List Lb := [⟨⟨#[97]⟩, ⟨#[120]⟩⟩, ⟨⟨#[98]⟩, ⟨#[121, 122]⟩⟩]
def exB : List Lb := [⟨⟨#[97]⟩, ⟨#[120]⟩⟩, ⟨⟨#[98]⟩, ⟨#[122]⟩⟩]
theorem ex_good : matA [ex3', ex2] exG = true := by
 unfold matA satG
 rw [ex_chk2, List.all_cons, List.all_cons, List.all_nil, show getL exG ex3'.n = ⟨#[120]⟩ by kernel_rfl, show getL exG ex2.n = ⟨#[121, 122]⟩ by kernel_rfl, fits1 rfl, fits3 rfl, ex_yz]
 decide
theorem ex_worse : matA [ex3', ex2] exB = false := by
 unfold matA satG
 rw [ex_chk2, List.all_cons, List.all_cons, List.all_nil, show getL exB ex3'.n = ⟨#[120]⟩ by kernel_rfl, show getL exB ex2.n = ⟨#[122]⟩ by kernel_rfl, fits1 rfl, fits3 rfl, ex_z]
 decide
theorem ex_txt2 : txtM [ex3', ex2] = [123, 97, 61, 34, 120, 34, 44, 98, 61, 126, 34, 121, 46, 42, 34, 125] := by kernel_rfl
end Go.Proofs.YtdeppcddknakjaaGreatDoor.Mx
namespace Go.Proofs.YtdeppcddknakjaaGreatDoor.Mx
open Go.RowKit
open Go.Proofs.YtdeppcddknakjaaGreatDoor.Rx (EmpP SameP pfxS ChkP check)
open Go.Proofs.YtdeppcddknakjaaGreatDoor.Lab (nameB getL Lb LS StrPost)
/-- Small lists. -/
structure Sg (l : List Mt) : Prop where
 len : l.length ≤ 300
 n : ∀ m ∈ l, m.n.size ≤ 300
 v : ∀ m ∈ l, m.v.size ≤ 300
theorem Sg.ok {l : List Mt} (h : Sg l) : Ok l := ⟨by have := h.len; omega, fun m hm => by have := h.n m hm; unfold maxLen; omega, fun m hm => by have := h.v m hm; omega⟩
theorem Sg.sz {l : List Mt} (h : Sg l) : Sz' l := ⟨by have := h.len; unfold maxLen; omega, fun m hm => ⟨by have := h.n m hm; unfold maxLen; omega, by have := h.v m hm; unfold maxLen; omega⟩⟩
theorem Sg.hz {l : List Mt} (h : Sg l) : ∀ x ∈ l, x.n.size ≤ 100000 ∧ x.v.size ≤ 100000 := fun x hx => ⟨by have := h.n x hx; omega, by have := h.v x hx; omega⟩
theorem Sg.txt {l : List Mt} (h : Sg l) : (txtM l).length ≤ 1000000 := by
 have h1 := txtM_bd l 904 fun m hm => by
  have h1 := mat1_len m
  have h2 := h.n m hm
  have h3 := h.v m hm
  omega
 have h2 : l.length * (904 + 1) ≤ 300 * 905 := Nat.mul_le_mul h.len (Nat.le_refl _)
 omega
theorem Sg.nil : Sg [] := ⟨Nat.zero_le _, fun m hm => by (cases hm), fun m hm => by (cases hm)⟩
theorem Sg.sim {l s : List Mt} (h : Sg l) (hs : simA l = some s) : Sg s := by
 obtain ⟨_, h1, _, h2⟩ := simA_some hs
 refine ⟨Nat.le_trans h2 h.len, fun m hm => ?_, fun m hm => ?_⟩
 ·obtain ⟨x, hx, rfl⟩ := List.mem_map.1 ((h1 m).1 hm).1
  rw [lit_n]
  exact h.n x hx
 ·obtain ⟨x, hx, rfl⟩ := List.mem_map.1 ((h1 m).1 hm).1
  exact Nat.le_trans (lit_v x) (h.v x hx)
theorem Sg.of {l : List Mt} (h : (decide (l.length ≤ 300) && l.all fun m => decide (m.n.size ≤ 300) && decide (m.v.size ≤ 300)) = true) : Sg l := by
 rw [Bool.and_eq_true, List.all_eq_true, decide_eq_true_iff] at h
 refine ⟨h.1, fun m hm => ?_, fun m hm => ?_⟩
 ·have := h.2 m hm
  rw [Bool.and_eq_true, decide_eq_true_iff, decide_eq_true_iff] at this
  exact this.1
 ·have := h.2 m hm
  rw [Bool.and_eq_true, decide_eq_true_iff, decide_eq_true_iff] at this
  exact this.2
theorem great_sg {l : List Mt} (h : greatM l = false) : l.length ≤ 17 ∧ Sg l := by
 unfold greatM at h
 rw [Bool.or_eq_false_iff] at h
 have h1 := of_decide_eq_false h.2
 have h2 : ∀ m ∈ l, m.n.size ≤ 61 ∧ m.v.size ≤ 201 := fun m hm => by
  have h3 := List.any_eq_false.1 h.1 m hm
  rw [Bool.not_eq_true] at h3
  unfold bigM at h3
  rw [Bool.or_eq_false_iff, Bool.or_eq_false_iff] at h3
  have h4 := of_decide_eq_false h3.1
  have h5 := of_decide_eq_false h3.2.2
  omega
 exact ⟨by omega, by omega, fun m hm => by have := (h2 m hm).1; omega, fun m hm => by have := (h2 m hm).2; omega⟩
theorem sg_exL : Sg exL := Sg.of (by kernel_rfl)
theorem sg_ex2 : Sg [ex3', ex2] := Sg.of (by kernel_rfl)
theorem sg_ex3 : Sg [ex3', ex5] := Sg.of (by kernel_rfl)
theorem ex_par : parO exT.data.toList = (exL, 0) := by
 unfold parO
 rw [ex_read, if_pos ex_text, if_pos ex_chk]
theorem ex_simO : simO exL = some [ex3', ex2] := by
 unfold simO
 rw [if_pos ex_chk, ex_sim]
theorem ex_simO3 : simO [ex3', ex5] = none := by
 unfold simO
 rw [if_pos ex_chk3, ex_bad]
theorem ex_fmtO : fmtO [ex3', ex2] = [123, 97, 61, 34, 120, 34, 44, 98, 61, 126, 34, 121, 46, 42, 34, 125] := by
 unfold fmtO
 rw [if_pos ex_chk2, ex_txt2]
theorem two_MS (w : World) : MS (w.alloc (.cells #[.int .i64 1, .string ⟨#[97]⟩, .string ⟨#[120]⟩, .int .i64 2, .string ⟨#[97]⟩, .string ⟨#[120]⟩] 25)) (w.heap.size + 1) (some ⟨w.heap.size, 0, none⟩) [ex3', ex5] := fun _ => by
 have h := heap_alloc_new w (.cells #[.int .i64 1, .string ⟨#[97]⟩, .string ⟨#[120]⟩, .int .i64 2, .string ⟨#[97]⟩, .string ⟨#[120]⟩] 25)
 refine ⟨w.heap.size, 0, rfl, Nat.lt_succ_self _, fun j hj => ?_⟩
 have hj' : j = 0 ∨ j = 1 := by simp at hj; omega
 rcases hj' with rfl | rfl <;> refine ⟨?_, ?_, ?_⟩ <;> (rw [cell_of_row _ _ _ _ _ _ h]; rfl)
theorem two_LS (w : World) (a b : ByteArray) : LS (w.alloc (.cells #[.string ⟨#[97]⟩, .string a, .string ⟨#[98]⟩, .string b] 51)) (w.heap.size + 1) (some ⟨w.heap.size, 0, none⟩) [⟨⟨#[97]⟩, a⟩, ⟨⟨#[98]⟩, b⟩] := fun _ => by
 have h := heap_alloc_new w (.cells #[.string ⟨#[97]⟩, .string a, .string ⟨#[98]⟩, .string b] 51)
 refine ⟨w.heap.size, 0, rfl, Nat.lt_succ_self _, fun j hj => ?_⟩
 have hj' : j = 0 ∨ j = 1 := by simp at hj; omega
 rcases hj' with rfl | rfl <;> refine ⟨?_, ?_⟩ <;> (rw [cell_of_row _ _ _ _ _ _ h]; rfl)
theorem ex_str : ((⟨#[123, 97, 61, 34, 120, 34, 44, 98, 61, 126, 34, 121, 46, 42, 34, 125]⟩ : ByteArray).toList == (⟨#[123, 97, 61, 34, 120, 34, 44, 98, 61, 126, 34, 121, 46, 42, 34, 125]⟩ : ByteArray).toList) = true := beq_self_eq_true _
set_option maxHeartbeats 8000000 in
theorem awake_any (w : World) (hO : OpsW w) : Calls Tryz.prog 14 #[] w (EmpP true w) := by
 have KP := Lib.hid (parse_any exT (by decide) w hO)
 rw [ex_par] at KP
 have KS := Lib.hid (fun A c w1 h => simplify_any exL sg_exL.ok A c w1 h)
 rw [ex_simO] at KS
 have KT := Lib.hid (fun (w1 : World) => simplify_any [ex3', ex5] sg_ex3.ok (some ⟨w1.heap.size, 0, none⟩) 2 (w1.alloc (.cells #[.int .i64 1, .string ⟨#[97]⟩, .string ⟨#[120]⟩, .int .i64 2, .string ⟨#[97]⟩, .string ⟨#[120]⟩] 25)) (by simpa using two_MS w1))
 rw [ex_simO3] at KT
 have KG := Lib.hid (fun A c (w1 : World) (h : MS w1 w1.heap.size A [ex3', ex2]) => matches17 [ex3', ex2] sg_ex2.sz exG (by refine ⟨?_, ?_⟩ <;> decide) A (some ⟨w1.heap.size, 0, none⟩) c 2 (w1.alloc (.cells #[.string ⟨#[97]⟩, .string ⟨#[120]⟩, .string ⟨#[98]⟩, .string ⟨#[121, 122]⟩] 51)) (h.up ((Below.refl _ _).alloc (Nat.le_refl _) _)) (by rw [World.size_alloc]; exact two_LS w1 ⟨#[120]⟩ ⟨#[121, 122]⟩))
 rw [ex_good] at KG
 have KB := Lib.hid (fun A c (w1 : World) (h : MS w1 w1.heap.size A [ex3', ex2]) => matches17 [ex3', ex2] sg_ex2.sz exB (by refine ⟨?_, ?_⟩ <;> decide) A (some ⟨w1.heap.size, 0, none⟩) c 2 (w1.alloc (.cells #[.string ⟨#[97]⟩, .string ⟨#[120]⟩, .string ⟨#[98]⟩, .string ⟨#[122]⟩] 51)) (h.up ((Below.refl _ _).alloc (Nat.le_refl _) _)) (by rw [World.size_alloc]; exact two_LS w1 ⟨#[120]⟩ ⟨#[122]⟩))
 rw [ex_worse] at KB
 have KF := Lib.hid (fun A c (w1 : World) (hb : Below w.heap.size w w1) h => format_any [ex3', ex2] sg_ex2.ok sg_ex2.hz sg_ex2.txt A c w1 (hO.up hb) h)
 rw [ex_fmtO] at KF
 clear hO
 go_enter Tryz.func14, Tryz.ntmps14
 go_wp2_with fail
 refine KP.out.mono ?_
 rintro e w1 ⟨v1, rfl, o1, b1⟩
 obtain ⟨A1, c1, rfl, m1⟩ := o1.out.form
 have K1 := Lib.hid (KS.out A1 c1 w1 m1)
 clear KP KS m1 o1
 go_wp2_with fail
 refine K1.out.mono ?_
 rintro e w2 ⟨v2, rfl, o2, b2⟩
 have B2 : Hid (Below w.heap.size w w2) := b1.out.trans (b2.out.mono b1.out.size)
 obtain ⟨A2, c2, rfl, m2⟩ := o2.out.form
 have M2 := Lib.hid m2
 clear K1 m2 o2 b2
 have K2 := Lib.hid (KT.out w2)
 go_wp2_with fail
 refine K2.out.mono ?_
 rintro e w3 ⟨v3, rfl, o3, b3⟩
 have C3 : Hid (Below w2.heap.size w2 w3) := ((Below.refl _ _).alloc (Nat.le_refl _) _).trans (b3.out.mono (by simp))
 have B3 : Hid (Below w.heap.size w w3) := B2.out.trans (C3.out.mono B2.out.size)
 have M3 := Lib.hid (M2.out.up C3.out)
 have K3 := Lib.hid (KG.out A2 c2 w3 M3.out)
 clear K2 KT o3 b3 C3 M2 KG
 go_wp2_with fail
 refine K3.out.mono ?_
 rintro e w4 ⟨rfl, b4⟩
 have C4 : Hid (Below w3.heap.size w3 w4) := ((Below.refl _ _).alloc (Nat.le_refl _) _).trans (b4.out.mono (by simp))
 have B4 : Hid (Below w.heap.size w w4) := B3.out.trans (C4.out.mono B3.out.size)
 have M4 := Lib.hid (M3.out.up C4.out)
 have K4 := Lib.hid (KB.out A2 c2 w4 M4.out)
 clear K3 b4 C4 M3 KB
 go_wp2_with fail
 refine K4.out.mono ?_
 rintro e w5 ⟨rfl, b5⟩
 have C5 : Hid (Below w4.heap.size w4 w5) := ((Below.refl _ _).alloc (Nat.le_refl _) _).trans (b5.out.mono (by simp))
 have B5 : Hid (Below w.heap.size w w5) := B4.out.trans (C5.out.mono B4.out.size)
 have K5 := Lib.hid (KF.out A2 c2 w5 B5.out (M4.out.up C5.out))
 clear K4 b5 C5 M4 KF
 go_wp2_with fail
 refine K5.out.mono ?_
 rintro e w6 ⟨rfl, b6⟩
 have B6 : Hid (Below w.heap.size w w6) := B5.out.trans (b6.mono B5.out.size)
 have he := ex_str
 clear K5 b6
 go_wp2
 go_ret
 exact ⟨rfl, B6⟩
end Go.Proofs.YtdeppcddknakjaaGreatDoor.Mx
