/- Layer 5: Check. -/
import Derived.Deep.QuietTactic
import Derived.BigQuiet
import Derived.Test.YtbphhdmnfepbnaaLB
set_option linter.unusedVariables false
set_option linter.unusedSimpArgs false
namespace Go.Proofs.Ytbphhdmnfepbnaa.Lab
open Go.RowKit
/-- a ≤ b. -/
def leS (a b : ByteArray) : Bool := Op.bytesLess a.toList b.toList || a.toList == b.toList
def prevS (l : List Lb) : Nat → Option ByteArray
  | 0 => none
  | k + 1 => l[k]?.map Lb.n
def leP (a : ByteArray) : Option ByteArray → Bool
  | none => false
  | some b => leS a b
/-- The first error of the labels, p the name ahead of them. -/
def chkL : Option ByteArray → List Lb → Int
  | _, [] => 0
  | p, x :: r => if nameB x.n = false then 5 else if x.v.size = 0 then 1 else if 200 < x.v.size then 4 else if leP x.n p = true then 9 else chkL (some x.n) r
/-- Check. -/
def chk (l : List Lb) : Int := if 16 < l.length then 4 else chkL none l
theorem chk_long {l : List Lb} (h : 16 < l.length) : chk l = 4 := if_pos h
theorem drop_at {l : List Lb} {k : Nat} (h : k < l.length) : l.drop k = l[k] :: l.drop (k + 1) := List.drop_eq_getElem_cons h
theorem below_drewN {B : Nat} {a w : World} (h : Below B a w) (n : Nat) : Below B a (w.drewN n) := ⟨h.os, h.tape, h.output, h.size, h.block⟩
structure Chk (l : List Lb) (k : Nat) : Prop where
  eq : chk l = chkL (prevS l k) (l.drop k)
theorem Chk.start {l : List Lb} (h : l.length ≤ 16) : Chk l 0 := ⟨by unfold chk; rw [if_neg (by omega)]; rfl⟩
theorem Chk.name {l : List Lb} {k : Nat} (H : Chk l k) (hk : k < l.length) (h : nameB l[k].n = false) : chk l = 5 := by
  rw [H.eq, drop_at hk, chkL, if_pos h]
theorem Chk.empty {l : List Lb} {k : Nat} (H : Chk l k) (hk : k < l.length) (h : nameB l[k].n = true) (h2 : l[k].v.size = 0) : chk l = 1 := by
  rw [H.eq, drop_at hk, chkL, if_neg (by simp [h]), if_pos h2]
theorem Chk.long {l : List Lb} {k : Nat} (H : Chk l k) (hk : k < l.length) (h : nameB l[k].n = true) (h2 : 0 < l[k].v.size) (h3 : 200 < l[k].v.size) : chk l = 4 := by
  rw [H.eq, drop_at hk, chkL, if_neg (by simp [h]), if_neg (by omega), if_pos h3]
theorem Chk.order {l : List Lb} {k : Nat} (H : Chk l k) (hk : k < l.length) (h : nameB l[k].n = true) (h2 : 0 < l[k].v.size) (h3 : l[k].v.size ≤ 200) (h4 : leP l[k].n (prevS l k) = true) : chk l = 9 := by
  rw [H.eq, drop_at hk, chkL, if_neg (by simp [h]), if_neg (by omega), if_neg (by omega), if_pos h4]
theorem Chk.next {l : List Lb} {k : Nat} (H : Chk l k) (hk : k < l.length) (h : nameB l[k].n = true) (h2 : 0 < l[k].v.size) (h3 : l[k].v.size ≤ 200) (h4 : leP l[k].n (prevS l k) = false) : Chk l (k + 1) := by
  refine ⟨?_⟩
  rw [H.eq, drop_at hk, chkL, if_neg (by simp [h]), if_neg (by omega), if_neg (by omega), if_neg (by simp [h4])]
  simp only [prevS, List.getElem?_eq_getElem hk, Option.map_some]
theorem Chk.done {l : List Lb} (H : Chk l l.length) : chk l = 0 := by
  rw [H.eq, List.drop_of_length_le (Nat.le_refl _), chkL]
theorem prev_zero {l : List Lb} {k : Nat} (h : k = 0) (a : ByteArray) : leP a (prevS l k) = false := by subst h; rfl
theorem prev_at {l : List Lb} {m : Nat} (h : m < l.length) (a : ByteArray) : leP a (prevS l (m + 1)) = (Op.bytesLess a.toList l[m].n.toList || a.toList == l[m].n.toList) := by
  simp only [prevS, List.getElem?_eq_getElem h, Option.map_some, leP, leS]
set_option maxHeartbeats 2000000 in
theorem refCheck_any (l : List Lb) (hl : l.length ≤ maxLen) (hs : ∀ x ∈ l, x.n.size ≤ maxLen ∧ x.v.size ≤ maxLen) (A : Option Addr) (c : Nat) (w : World) (hL : LS w w.heap.size A l) :
    Calls Try.prog 18 #[.slice A l.length c] w fun e w' => e = .returned (.int .i64 (chk l)) ∧ Below w.heap.size w w' := by
  unfold maxLen at hl
  have HL := Lib.hid hL
  have HZ := Lib.hid hs
  clear hL hs
  by_cases h16 : 16 < l.length
  · have HE := Lib.hid (chk_long h16)
    go_enter Try.func18, Try.ntmps18
    go_wp2
    go_ret
    rw [HE.out]
    exact ⟨rfl, Below.refl _ _⟩
  · have HC := Lib.hid (Chk.start (l := l) (by omega))
    go_enter Try.func18, Try.ntmps18
    go_wp2
    go_loopw [3] (fun i wr => ∃ k : Nat, k ≤ l.length ∧ i = .int .i64 k ∧ Hid (Chk l k) ∧ Hid (Below w.heap.size w wr)) (fun i _ => l.length - (intOf i).toNat)
    case atStart => exact ⟨0, by omega, rfl, HC, Below.refl _ _⟩
    case round =>
      clear HC
      obtain ⟨k, hk, rfl, H, HB⟩ := hrel
      by_cases hlt : k < l.length
      · obtain ⟨b, off, rfl, hb, h1', h2'⟩ := HL.out.at_ hlt
        have h1 := (HB.out.cell (p := ⟨b, off + k * 2, none⟩) hb).trans h1'
        have h2 := (HB.out.cell (p := ⟨b, off + k * 2 + 1, none⟩) hb).trans h2'
        have hbw : b < wr.heap.size := Nat.lt_of_lt_of_le hb HB.out.size
        clear h1' h2'
        obtain ⟨z1, z2⟩ := HZ.out l[k] (List.getElem_mem hlt)
        have Z1 := Lib.hid z1
        unfold maxLen at z2
        clear z1
        have C := Lib.hid (refName_any l[k].n Z1.out)
        cases hn : nameB l[k].n with
        | false =>
          have HE := Lib.hid (H.out.name hlt hn)
          simp only [hn] at C
          clear hn H
          go_wp2_with (go_at_call 41; (with_reducible refine (C.out _).mono ?_); rintro e w' ⟨rfl, rfl⟩)
          go_ret
          rw [HE.out]
          exact ⟨rfl, HB.out⟩
        | true =>
          have HN := Lib.hid hn
          simp only [hn] at C
          clear hn
          rcases Nat.eq_zero_or_pos l[k].v.size with hv | hv
          · have HE := Lib.hid (H.out.empty hlt HN.out hv)
            have he := emp_true hv
            clear hv H
            go_wp2_with (go_at_call 41; (with_reducible refine (C.out _).mono ?_); rintro e w' ⟨rfl, rfl⟩)
            go_ret
            rw [HE.out]
            exact ⟨rfl, HB.out⟩
          · have he := emp_false hv
            by_cases h200 : 200 < l[k].v.size
            · have HE := Lib.hid (H.out.long hlt HN.out hv h200)
              clear H
              go_wp2_with (go_at_call 41; (with_reducible refine (C.out _).mono ?_); rintro e w' ⟨rfl, rfl⟩)
              go_ret
              rw [HE.out]
              exact ⟨rfl, HB.out⟩
            · have h200' : l[k].v.size ≤ 200 := by omega
              clear h200
              by_cases hk0 : k = 0
              · have HE := Lib.hid (H.out.next hlt HN.out hv h200' (prev_zero hk0 _))
                have hg : decide (0 < k) = false := by rw [hk0]; rfl
                have hg1 : decide ((0 : Int) < (k : Int)) = false := by rw [hk0]; rfl
                clear hk0
                go_wp2_with (go_at_call 41; (with_reducible refine (C.out _).mono ?_); rintro e w' ⟨rfl, rfl⟩)
                go_quiet (fail)
                go_wp2
                go_roundw
                case rel => exact ⟨k + 1, by omega, by go_num, HE, below_drewN HB.out _⟩
                case measure => simp [intOf]; omega
              · obtain ⟨m, hm⟩ : ∃ m, k = m + 1 := ⟨k - 1, by omega⟩
                have hml : m < l.length := by omega
                obtain ⟨b', off', hbo, hx1, hp1', hx2⟩ := HL.out.at_ hml
                clear hx1 hx2
                obtain ⟨rfl, rfl⟩ : b = b' ∧ off = off' := by simpa using hbo
                have hp1 := (HB.out.cell (p := ⟨b, off + m * 2, none⟩) hb).trans hp1'
                clear hp1' hbo
                have hg : decide (0 < k) = true := by simp; omega
                have hg1 : decide ((0 : Int) < (k : Int)) = true := by simp; omega
                have hw : IntKind.i64.wrap ((k : Int) - 1) = (m : Int) := by rw [IntWalk.i64_in _ (by omega)]; omega
                have HP : Hid (leP l[k].n (prevS l k) = (Op.bytesLess l[k].n.toList l[m].n.toList || l[k].n.toList == l[m].n.toList)) := by
                  subst hm
                  exact prev_at hml _
                cases ho : leP l[k].n (prevS l k) with
                | true =>
                  have HE := Lib.hid (H.out.order hlt HN.out hv h200' ho)
                  have ho2 := HP.out.symm.trans ho
                  clear H ho HP hm hk0
                  go_wp2_with (go_at_call 41; (with_reducible refine (C.out _).mono ?_); rintro e w' ⟨rfl, rfl⟩)
                  go_quiet (fail)
                  go_wp2
                  go_ret
                  rw [HE.out]
                  exact ⟨rfl, below_drewN HB.out _⟩
                | false =>
                  have HE := Lib.hid (H.out.next hlt HN.out hv h200' ho)
                  have ho2 := HP.out.symm.trans ho
                  clear H ho HP hm hk0
                  go_wp2_with (go_at_call 41; (with_reducible refine (C.out _).mono ?_); rintro e w' ⟨rfl, rfl⟩)
                  go_quiet (fail)
                  go_wp2
                  go_roundw
                  case rel => exact ⟨k + 1, by omega, by go_num, HE, below_drewN HB.out _⟩
                  case measure => simp [intOf]; omega
      · obtain rfl : k = l.length := by omega
        have HE := Lib.hid H.out.done
        clear H
        go_wp2
        go_ret
        rw [HE.out]
        exact ⟨rfl, HB.out⟩
set_option maxHeartbeats 2000000 in
theorem check_any (l : List Lb) (hl : l.length ≤ maxLen) (hs : ∀ x ∈ l, x.n.size ≤ maxLen ∧ x.v.size ≤ maxLen) (A : Option Addr) (c : Nat) (w : World) (hL : LS w w.heap.size A l) :
    Calls Try.prog 17 #[.slice A l.length c] w fun e w' => e = .returned (.int .i64 (chk l)) ∧ Below w.heap.size w w' := by
  unfold maxLen at hl
  have HL := Lib.hid hL
  have HZ := Lib.hid hs
  clear hL hs
  by_cases h16 : 16 < l.length
  · have HE := Lib.hid (chk_long h16)
    go_enter Try.func17, Try.ntmps17
    go_wp2
    go_ret
    rw [HE.out]
    exact ⟨rfl, Below.refl _ _⟩
  · have HC := Lib.hid (Chk.start (l := l) (by omega))
    go_enter Try.func17, Try.ntmps17
    go_wp2
    go_loopw [10] (fun i wr => ∃ k : Nat, k ≤ l.length ∧ i = .int .i64 k ∧ Hid (Chk l k) ∧ Hid (Below w.heap.size w wr)) (fun i _ => l.length - (intOf i).toNat)
    case atStart => exact ⟨0, by omega, rfl, HC, Below.refl _ _⟩
    case round =>
      clear HC
      obtain ⟨k, hk, rfl, H, HB⟩ := hrel
      by_cases hlt : k < l.length
      · obtain ⟨b, off, rfl, hb, h1', h2'⟩ := HL.out.at_ hlt
        have h1 := (HB.out.cell (p := ⟨b, off + k * 2, none⟩) hb).trans h1'
        have h2 := (HB.out.cell (p := ⟨b, off + k * 2 + 1, none⟩) hb).trans h2'
        have hbw : b < wr.heap.size := Nat.lt_of_lt_of_le hb HB.out.size
        clear h1' h2'
        obtain ⟨z1, z2⟩ := HZ.out l[k] (List.getElem_mem hlt)
        have Z1 := Lib.hid z1
        unfold maxLen at z2
        clear z1
        have C := Lib.hid (isName_any l[k].n Z1.out)
        have HB2 : Hid (Below w.heap.size w (wr.alloc (.cells #[.string l[k].n, .string l[k].v] 29))) := HB.out.alloc HB.out.size _
        cases hn : nameB l[k].n with
        | false =>
          have HE := Lib.hid (H.out.name hlt hn)
          simp only [hn] at C
          clear hn H
          go_wp2_with (go_at_call 40; (with_reducible refine (C.out _).mono ?_); rintro e w' ⟨rfl, rfl⟩)
          go_ret
          rw [HE.out]
          exact ⟨rfl, HB2.out⟩
        | true =>
          have HN := Lib.hid hn
          simp only [hn] at C
          clear hn
          rcases Nat.eq_zero_or_pos l[k].v.size with hv | hv
          · have HE := Lib.hid (H.out.empty hlt HN.out hv)
            have he := emp_true hv
            clear hv H
            go_wp2_with (go_at_call 40; (with_reducible refine (C.out _).mono ?_); rintro e w' ⟨rfl, rfl⟩)
            go_ret
            rw [HE.out]
            exact ⟨rfl, HB2.out⟩
          · have he := emp_false hv
            by_cases h200 : 200 < l[k].v.size
            · have HE := Lib.hid (H.out.long hlt HN.out hv h200)
              clear H
              go_wp2_with (go_at_call 40; (with_reducible refine (C.out _).mono ?_); rintro e w' ⟨rfl, rfl⟩)
              go_ret
              rw [HE.out]
              exact ⟨rfl, HB2.out⟩
            · have h200' : l[k].v.size ≤ 200 := by omega
              clear h200
              by_cases hk0 : k = 0
              · have HE := Lib.hid (H.out.next hlt HN.out hv h200' (prev_zero hk0 _))
                have hg : decide (0 < k) = false := by rw [hk0]; rfl
                have hg1 : decide ((0 : Int) < (k : Int)) = false := by rw [hk0]; rfl
                clear hk0
                go_wp2_with (go_at_call 40; (with_reducible refine (C.out _).mono ?_); rintro e w' ⟨rfl, rfl⟩)
                go_quiet (fail)
                go_wp2
                go_roundw
                case rel => exact ⟨k + 1, by omega, by go_num, HE, below_drewN HB2.out _⟩
                case measure => simp [intOf]; omega
              · obtain ⟨m, hm⟩ : ∃ m, k = m + 1 := ⟨k - 1, by omega⟩
                have hml : m < l.length := by omega
                obtain ⟨b', off', hbo, hx1, hp1', hx2⟩ := HL.out.at_ hml
                clear hx1 hx2
                obtain ⟨rfl, rfl⟩ : b = b' ∧ off = off' := by simpa using hbo
                have hp1 := (HB.out.cell (p := ⟨b, off + m * 2, none⟩) hb).trans hp1'
                clear hp1' hbo
                have hg : decide (0 < k) = true := by simp; omega
                have hg1 : decide ((0 : Int) < (k : Int)) = true := by simp; omega
                have hw : IntKind.i64.wrap ((k : Int) - 1) = (m : Int) := by rw [IntWalk.i64_in _ (by omega)]; omega
                have HP : Hid (leP l[k].n (prevS l k) = (Op.bytesLess l[k].n.toList l[m].n.toList || l[k].n.toList == l[m].n.toList)) := by
                  subst hm
                  exact prev_at hml _
                cases ho : leP l[k].n (prevS l k) with
                | true =>
                  have HE := Lib.hid (H.out.order hlt HN.out hv h200' ho)
                  have ho2 := HP.out.symm.trans ho
                  clear H ho HP hm hk0
                  go_wp2_with (go_at_call 40; (with_reducible refine (C.out _).mono ?_); rintro e w' ⟨rfl, rfl⟩)
                  go_quiet (fail)
                  go_wp2
                  go_ret
                  rw [HE.out]
                  exact ⟨rfl, below_drewN HB2.out _⟩
                | false =>
                  have HE := Lib.hid (H.out.next hlt HN.out hv h200' ho)
                  have ho2 := HP.out.symm.trans ho
                  clear H ho HP hm hk0
                  go_wp2_with (go_at_call 40; (with_reducible refine (C.out _).mono ?_); rintro e w' ⟨rfl, rfl⟩)
                  go_quiet (fail)
                  go_wp2
                  go_roundw
                  case rel => exact ⟨k + 1, by omega, by go_num, HE, below_drewN HB2.out _⟩
                  case measure => simp [intOf]; omega
      · obtain rfl : k = l.length := by omega
        have HE := Lib.hid H.out.done
        clear H
        go_wp2
        go_ret
        rw [HE.out]
        exact ⟨rfl, HB.out⟩
end Go.Proofs.Ytbphhdmnfepbnaa.Lab
