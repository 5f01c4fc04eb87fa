/- Layer 5: slices.Equal at labels, Great, Get of the reference. -/
import Derived.Laws.StructEq
import Derived.Deep.QuietTactic
import Derived.BigQuiet
import Derived.Test.YtbphhdmnfepbnaaLD
set_option linter.unusedVariables false
set_option linter.unusedSimpArgs false
namespace Go.Proofs.Ytbphhdmnfepbnaa.Lab
open Go.RowKit
theorem neq_label (a b c d : ByteArray) (w : World) : (binOp .neq 29 (.agg #[.string a, .string b]) (.agg #[.string c, .string d])).run Try.prog w = .ok (.bool (!(a.toList == c.toList && b.toList == d.toList))) w := by
  have u9 := Try.underlying9
  have hS : Try.prog.underlying 29 = some (.struct (Try.prog.fieldsOf 29)) := by kernel_rfl
  have hp : Try.prog.stoodInHeld 29 = false := by kernel_rfl
  rw [run_neq_struct, show (10000 : Nat) = 9999 + 1 from rfl, run_equalIn_agg w 9999 29 _ _ hS hp]
  simp only [Program.fieldsOf, Try.underlying29]
  go_simp
  by_cases h1 : a.toList = c.toList <;> by_cases h2 : b.toList = d.toList <;> simp [h1, h2]
/-- Two labels are equal; two lists. -/
def eqX (x y : Lb) : Bool := x.n.toList == y.n.toList && x.v.toList == y.v.toList
def eqL : List Lb → List Lb → Bool
  | [], [] => true
  | x :: a, y :: b => eqX x y && eqL a b
  | _, _ => false
theorem eqX_iff {x y : Lb} : eqX x y = true ↔ x = y := by
  have h1 := eqS_iff (a := x.n) (b := y.n)
  have h2 := eqS_iff (a := x.v) (b := y.v)
  unfold eqS at h1 h2
  unfold eqX
  rw [Bool.and_eq_true, h1, h2]
  cases x; cases y
  simp
theorem eqL_iff : ∀ {a b : List Lb}, eqL a b = true ↔ a = b
  | [], [] => by simp [eqL]
  | x :: a, y :: b => by rw [eqL, Bool.and_eq_true, eqX_iff, eqL_iff]; simp
  | [], y :: b => by simp [eqL]
  | x :: a, [] => by simp [eqL]
theorem eqL_len {a b : List Lb} (h : a.length ≠ b.length) : eqL a b = false := by
  rw [Bool.eq_false_iff, ne_eq, eqL_iff]
  intro e
  exact h (by rw [e])
theorem eqL_at {a b : List Lb} {k : Nat} (ha : k < a.length) (hb : k < b.length) : eqL (a.drop k) (b.drop k) = (eqX a[k] b[k] && eqL (a.drop (k + 1)) (b.drop (k + 1))) := by
  rw [drop_at ha, drop_at hb, eqL]
structure EqAt (a b : List Lb) (k : Nat) : Prop where
  eq : eqL a b = eqL (a.drop k) (b.drop k)
theorem EqAt.start (a b : List Lb) : EqAt a b 0 := ⟨rfl⟩
theorem EqAt.no {a b : List Lb} {k : Nat} (H : EqAt a b k) (ha : k < a.length) (hb : k < b.length) (h : eqX a[k] b[k] = false) : eqL a b = false := by
  rw [H.eq, eqL_at ha hb, h]; rfl
theorem EqAt.next {a b : List Lb} {k : Nat} (H : EqAt a b k) (ha : k < a.length) (hb : k < b.length) (h : eqX a[k] b[k] = true) : EqAt a b (k + 1) :=
  ⟨by rw [H.eq, eqL_at ha hb, h]; rfl⟩
theorem EqAt.done {a b : List Lb} {k : Nat} (H : EqAt a b k) (ha : a.length = k) (hb : b.length = k) : eqL a b = true := by
  rw [H.eq, List.drop_of_length_le (by omega), List.drop_of_length_le (by omega)]; rfl
set_option maxHeartbeats 1000000 in
theorem equal_any (a b : List Lb) (ha : a.length ≤ maxLen) (hb : b.length ≤ maxLen) (A C : Option Addr) (c d BA BB : Nat) (w : World) (hA : LS w BA A a) (hC : LS w BB C b) :
    Calls Try.prog 14 #[.slice A a.length c, .slice C b.length d] w fun e w' => e = .returned (.bool (eqL a b)) ∧ ∃ n, w' = w.drewN n := by
  unfold maxLen at ha hb
  have HA := Lib.hid hA
  have HC := Lib.hid hC
  clear hA hC
  by_cases hlen : a.length = b.length
  · have HN := Lib.hid hlen
    have hq : ((a.length : Int) != (b.length : Int)) = false := by rw [hlen]; simp
    have hq2 : (a.length != b.length) = false := by rw [hlen]; simp
    clear hlen
    have HS := Lib.hid (EqAt.start a b)
    go_enter Try.func14, Try.ntmps14
    go_wp2
    go_loopw [13] (fun i wr => ∃ k : Nat, k ≤ a.length ∧ i = .int .i64 k ∧ Hid (EqAt a b k) ∧ Hid (∃ n, wr = w.drewN n)) (fun i _ => a.length - (intOf i).toNat)
    case atStart => exact ⟨0, by omega, rfl, HS, 0, rfl⟩
    case round =>
      clear HS
      obtain ⟨k, hk, rfl, H, hwr⟩ := hrel
      obtain ⟨n, rfl⟩ := hwr.out
      clear hwr
      by_cases hlt : k < a.length
      · have hlt2 : k < b.length := by have := HN.out; omega
        obtain ⟨bl, off, rfl, hbl, h1, h2⟩ := HA.out.at_ hlt
        obtain ⟨bl2, off2, rfl, hbl2, h3, h4⟩ := HC.out.at_ hlt2
        have hne := fun w => neq_label a[k].n a[k].v b[k].n b[k].v w
        cases he : eqX a[k] b[k] with
        | false =>
          have HE := Lib.hid (H.out.no hlt hlt2 he)
          simp only [show (a[k].n.toList == b[k].n.toList && a[k].v.toList == b[k].v.toList) = false from he] at hne
          clear he H HN
          go_wp2
          go_quiet (fail)
          go_wp2
          go_ret
          rw [HE.out]
          exact ⟨rfl, _, World.drewN_drewN _ _ _⟩
        | true =>
          have HE := Lib.hid (H.out.next hlt hlt2 he)
          simp only [show (a[k].n.toList == b[k].n.toList && a[k].v.toList == b[k].v.toList) = true from he] at hne
          clear he H HN
          go_wp2
          go_quiet (fail)
          go_wp2
          go_roundw
          case rel => exact ⟨k + 1, by omega, by go_num, HE, _, rfl⟩
          case measure => simp [intOf]; omega
      · have HE := Lib.hid (H.out.done (k := k) (by omega) (by have := HN.out; omega))
        clear H HN
        go_wp2
        go_ret
        rw [HE.out]
        exact ⟨rfl, _, rfl⟩
  · have HE := Lib.hid (eqL_len hlen)
    have hq : ((a.length : Int) != (b.length : Int)) = true := by simp; omega
    have hq2 : (a.length != b.length) = true := by simp; omega
    clear hlen
    go_enter Try.func14, Try.ntmps14
    go_wp2
    go_ret
    rw [HE.out]
    exact ⟨rfl, 0, rfl⟩

/-- Great. -/
def bigX (x : Lb) : Bool := decide (61 < x.n.size) || decide (201 < x.v.size)
def greatL (l : List Lb) : Bool := l.any bigX || decide (17 < l.length)
theorem great_big {l : List Lb} {k : Nat} (hk : k < l.length) (h : bigX l[k] = true) : greatL l = true := by
  unfold greatL
  rw [List.any_eq_true.2 ⟨l[k], List.getElem_mem _, h⟩]; rfl
theorem great_no {l : List Lb} (h : ∀ j (hj : j < l.length), bigX l[j] = false) : greatL l = decide (17 < l.length) := by
  unfold greatL
  rw [List.any_eq_false.2, Bool.false_or]
  intro x hx
  obtain ⟨j, hj, rfl⟩ := List.getElem_of_mem hx
  rw [h j hj]; decide
theorem bigX_false {x : Lb} (h : ¬ 61 < x.n.size) (h2 : ¬ 201 < x.v.size) : bigX x = false := by
  unfold bigX; rw [decide_eq_false h, decide_eq_false h2]; rfl
theorem bigX_n {x : Lb} (h : 61 < x.n.size) : bigX x = true := by unfold bigX; rw [decide_eq_true h]; rfl
theorem bigX_v {x : Lb} (h : 201 < x.v.size) : bigX x = true := by unfold bigX; rw [decide_eq_true h, Bool.or_true]
set_option maxHeartbeats 1000000 in
theorem refGreat_any (l : List Lb) (hl : l.length ≤ maxLen) (hs : ∀ x ∈ l, x.n.size ≤ maxLen ∧ x.v.size ≤ maxLen) (A : Option Addr) (c B : Nat) (w : World) (hL : LS w B A l) :
    Calls Try.prog 35 #[.slice A l.length c] w fun e w' => e = .returned (.bool (greatL l)) ∧ w = w' := by
  unfold maxLen at hl hs
  have HL := Lib.hid hL
  have HS := Lib.hid hs
  clear hL hs
  go_enter Try.func35, Try.ntmps35
  go_wp2
  go_loop [3] (fun i => ∃ k : Nat, k ≤ l.length ∧ i = .int .i64 k ∧ Hid (∀ j (hj : j < l.length), j < k → bigX l[j] = false)) (fun i => l.length - (intOf i).toNat)
  case atStart => exact ⟨0, by omega, rfl, fun j _ h => by omega⟩
  case round =>
    obtain ⟨k, hk, rfl, H⟩ := hrel
    by_cases hlt : k < l.length
    · obtain ⟨b, off, rfl, hb, h1, h2⟩ := HL.out.at_ hlt
      obtain ⟨z1, z2⟩ := HS.out l[k] (List.getElem_mem hlt)
      by_cases hn : 61 < l[k].n.size
      · have HE := Lib.hid (great_big hlt (bigX_n hn))
        clear H
        go_wp2
        go_ret
        rw [HE.out]
        exact ⟨rfl, rfl⟩
      · by_cases hv : 201 < l[k].v.size
        · have HE := Lib.hid (great_big hlt (bigX_v hv))
          clear H
          go_wp2
          go_ret
          rw [HE.out]
          exact ⟨rfl, rfl⟩
        · have HE := Lib.hid (bigX_false hn hv)
          go_wp2
          go_round
          case rel =>
            refine ⟨k + 1, by omega, by go_num, fun j hj h => ?_⟩
            rcases Nat.lt_or_ge j k with h3 | h3
            · exact H.out j hj h3
            · obtain rfl : j = k := by omega
              exact HE.out
          case measure => simp [intOf]; omega
    · obtain rfl : k = l.length := by omega
      have HE := Lib.hid (great_no fun j hj => H.out j hj hj)
      clear H
      go_wp2
      go_ret
      exact ⟨ret_bool (by rw [HE.out, Bool.eq_iff_iff, decide_eq_true_iff, decide_eq_true_iff]; omega), rfl⟩

/-- Get. -/
def getL : List Lb → ByteArray → ByteArray
  | [], _ => ⟨#[]⟩
  | x :: r, s => if (x.n.toList == s.toList) = true then x.v else getL r s
structure GetAt (l : List Lb) (s : ByteArray) (k : Nat) : Prop where
  eq : getL l s = getL (l.drop k) s
theorem GetAt.start (l : List Lb) (s : ByteArray) : GetAt l s 0 := ⟨rfl⟩
theorem GetAt.yes {l : List Lb} {s : ByteArray} {k : Nat} (H : GetAt l s k) (hk : k < l.length) (h : (l[k].n.toList == s.toList) = true) : getL l s = l[k].v := by
  rw [H.eq, drop_at hk, getL, if_pos h]
theorem GetAt.next {l : List Lb} {s : ByteArray} {k : Nat} (H : GetAt l s k) (hk : k < l.length) (h : (l[k].n.toList == s.toList) = false) : GetAt l s (k + 1) := by
  refine ⟨?_⟩
  rw [H.eq, drop_at hk, getL, if_neg (by simp [h])]
theorem GetAt.done {l : List Lb} {s : ByteArray} (H : GetAt l s l.length) : getL l s = ⟨#[]⟩ := by
  rw [H.eq, List.drop_of_length_le (Nat.le_refl _), getL]
set_option maxHeartbeats 1000000 in
theorem refGet_any (l : List Lb) (hl : l.length ≤ maxLen) (s : ByteArray) (A : Option Addr) (c B : Nat) (w : World) (hL : LS w B A l) :
    Calls Try.prog 13 #[.slice A l.length c, .string s] w fun e w' => e = .returned (.string (getL l s)) ∧ w = w' := by
  unfold maxLen at hl
  have HL := Lib.hid hL
  have HS := Lib.hid (GetAt.start l s)
  clear hL
  go_enter Try.func13, Try.ntmps13
  go_wp2
  go_loop [5] (fun i => ∃ k : Nat, k ≤ l.length ∧ i = .int .i64 k ∧ Hid (GetAt l s k)) (fun i => l.length - (intOf i).toNat)
  case atStart => exact ⟨0, by omega, rfl, HS⟩
  case round =>
    clear HS
    obtain ⟨k, hk, rfl, H⟩ := hrel
    by_cases hlt : k < l.length
    · obtain ⟨b, off, rfl, hb, h1, h2⟩ := HL.out.at_ hlt
      cases he : (l[k].n.toList == s.toList) with
      | true =>
        have HE := Lib.hid (H.out.yes hlt he)
        clear H
        go_wp2
        go_ret
        rw [HE.out]
        exact ⟨rfl, rfl⟩
      | false =>
        have HE := Lib.hid (H.out.next hlt he)
        clear H
        go_wp2
        go_round
        case rel => exact ⟨k + 1, by omega, by go_num, HE⟩
        case measure => simp [intOf]; omega
    · obtain rfl : k = l.length := by omega
      have HE := Lib.hid H.out.done
      clear H
      go_wp2
      go_ret
      rw [HE.out]
      exact ⟨rfl, rfl⟩
end Go.Proofs.Ytbphhdmnfepbnaa.Lab
