/- For every two lists of matchers and every list of labels, the law MatcherImplies returns true: if a implies b, b matches whatever a matches, and each valid list implies itself; conditions: the listed variables hold what the program's text lays (tied). The frame is the guide's; the walk is ours. -/
import Derived.Test.YtdeppcddknakjaaGreatDoorCY
import Derived.Test.YtdeppcddknakjaaGreatDoorCLb
import Derived.Test.YtdeppcddknakjaaGreatDoorCards
import Derived.Test.YtdeppcddknakjaaGreatDoorTie
import Derived.Test.YtdeppcddknakjaaGreatDoorCFR
import Derived.SevenTiedAt
import Derived.ChangeOld
import Derived.Below
set_option maxRecDepth 100000
set_option linter.unusedVariables false
set_option linter.unusedSimpArgs false
namespace Go.Proofs.YtdeppcddknakjaaGreatDoor.Mx
open Go.RowKit
open Go.Proofs.YtdeppcddknakjaaGreatDoor.Rx (EmpP SameP pfxS ChkP check)
open Go.Proofs.YtdeppcddknakjaaGreatDoor.Lab (nameB getL Lb LS StrPost)
/-- One list that lies in a new block. -/
theorem one_SS {w V : World} {g : Nat} {A : Option Addr} {c : Nat} {l : List Mt} (hm : MS w w.heap.size A l) (hl : Sz' l) (hb : Below w.heap.size w V) (hc : V.cell? ⟨g, 0, none⟩ = some (.slice A l.length c)) : SSl V g [⟨A, c, l⟩] := fun j hj => by
  obtain rfl : j = 0 := by simp at hj; omega
  exact ⟨hc, hm.up hb, hl⟩
/-- What a text parses to. -/
theorem name_word {s : ByteArray} (h : nameB s = true) : s.data.toList ≠ [] ∧ ∀ c ∈ s.data.toList, Lab.letterB c.toNat = true := by
  unfold nameB at h
  simp only [Bool.and_eq_true, decide_eq_true_eq, List.all_eq_true] at h
  refine ⟨fun e => ?_, h.1.2⟩
  have h2 := congrArg List.length e
  rw [Array.length_toList, List.length_nil] at h2
  have h3 : s.data.size = s.size := rfl
  omega
theorem good_of {l : List Mt} (h : chkA l = 0) : ∀ m ∈ l, GoodM m := fun m hm => by
  have h1 := (chkA_each h).2 m hm
  exact ⟨chk1_kind h1, name_word (chk1_name h1)⟩
theorem par_txt {l : List Mt} (h : chkA l = 0) : parO (txtM l) = (l, 0) := by
  unfold parO
  rw [rdA_txt (good_of h), if_pos rfl, if_pos h]
theorem par_ok {s : List UInt8} {m : List Mt} (h : parO s = (m, 0)) : chkA m = 0 ∧ txtM m = s := by
  unfold parO at h
  split at h
  · rename_i h1
    split at h
    · rename_i h2
      injection h with h _
      subst h
      exact ⟨h2, h1⟩
    · rename_i h2
      injection h with _ h
      exact absurd h h2
  · injection h with _ h
    cases h
theorem par_bad {s : List UInt8} {m : List Mt} {e : Int} (h : parO s = (m, e)) (he : e ≠ 0) : m = [] := by
  unfold parO at h
  split at h
  · split at h
    · injection h with _ h
      exact absurd h.symm he
    · injection h with h _
      exact h.symm
  · injection h with h _
    exact h.symm
theorem par_sg {s : List UInt8} (hs : s.length ≤ 200) {m : List Mt} {e : Int} (h : parO s = (m, e)) : Sg m := by
  obtain ⟨h1, h2⟩ := rdA_size s
  have hr : Sg (rdA s) := ⟨by omega, fun x hx => by have := (h2 x hx).1; omega, fun x hx => by have := (h2 x hx).2; omega⟩
  unfold parO at h
  split at h
  · split at h
    · injection h with h _
      subst h
      exact hr
    · injection h with h _
      subst h
      exact Sg.nil
  · injection h with h _
    subst h
    exact Sg.nil
theorem great_txt {l : List Mt} (h : greatM l = false) : (txtM l).length ≤ 10000 := by
  unfold greatM at h
  rw [Bool.or_eq_false_iff] at h
  have h1 := of_decide_eq_false h.2
  have h2 : ∀ m ∈ l, (mat1 m).length ≤ 467 := fun m hm => by
    have h3 := List.any_eq_false.1 h.1 m hm
    rw [Bool.not_eq_true] at h3
    unfold bigM at h3
    rw [Bool.or_eq_false_iff, Bool.or_eq_false_iff] at h3
    have h4 := of_decide_eq_false h3.1
    have h5 := of_decide_eq_false h3.2.2
    have h6 := mat1_len m
    omega
  have h3 := txtM_bd l 467 h2
  have h4 : l.length * (467 + 1) ≤ 17 * 468 := Nat.mul_le_mul (by omega) (Nat.le_refl _)
  omega
set_option maxHeartbeats 8000000 in
theorem rt_walk (l : List Mt) (hl : Sz' l) (A : Option Addr) (c : Nat) (s : ByteArray) (hs : s.size ≤ maxLen) (w : World) (hO : OpsW w) (hA : MS w w.heap.size A l) :
    Calls Tryz.prog 11 #[.slice A l.length c, .string s] w (EmpP true w) := by
  unfold maxLen at hs
  have B0 : Hid (Below w.heap.size w (w.alloc (.cells #[.slice A l.length c] 22))) := (Below.refl _ _).alloc (Nat.le_refl _) _
  have KG := Lib.hid (great_any [⟨A, c, l⟩] (show 1 ≤ 100 by omega) w.heap.size 1 (w.alloc (.cells #[.slice A l.length c] 22)) (one_SS hA hl B0.out (by simp)))
  have KA := Lib.hid (fun w1 (hb : Below w.heap.size w w1) => awake_any w1 (hO.up hb))
  have hany : ([(⟨A, c, l⟩ : Ls)].any fun x => greatM x.l) = greatM l := by simp
  rw [hany] at KG
  clear hany
  cases hg : greatM l with
  | true =>
    rw [hg] at KG
    have KA1 := Lib.hid (KA.out _ B0.out)
    clear KA hg hA
    go_enter Tryz.func11, Tryz.ntmps11
    go_wp2_with fail
    refine KG.out.mono ?_
    rintro e w1 ⟨rfl, rfl⟩
    go_wp2_with fail
    refine KA1.out.mono ?_
    rintro e w2 ⟨rfl, b2⟩
    go_wp2
    go_ret
    exact ⟨rfl, B0.out.trans (b2.out.mono B0.out.size)⟩
  | false =>
    rw [hg] at KG
    by_cases h200 : 200 < s.size
    · have KA1 := Lib.hid (KA.out _ B0.out)
      clear KA hg hA
      go_enter Tryz.func11, Tryz.ntmps11
      go_wp2_with fail
      refine KG.out.mono ?_
      rintro e w1 ⟨rfl, rfl⟩
      go_wp2_with fail
      refine KA1.out.mono ?_
      rintro e w2 ⟨rfl, b2⟩
      go_wp2
      go_ret
      exact ⟨rfl, B0.out.trans (b2.out.mono B0.out.size)⟩
    · have hsg := (great_sg hg).2
      have htx := great_txt hg
      have hsl : s.data.toList.length ≤ 200 := by
        have : s.data.toList.length = s.size := Array.length_toList
        omega
      have KF := Lib.hid (format_any l hsg.ok hsg.hz hsg.txt A c _ (hO.up B0.out) (hA.up B0.out))
      have KC := Lib.hid (fun w1 (hb : Below w.heap.size w w1) => checkO_any l hsg.ok A c w1 (hA.up hb))
      have KP := Lib.hid (fun w1 (hb : Below w.heap.size w w1) => parse_any s (by omega) w1 (hO.up hb))
      obtain ⟨m', e', hpe⟩ : ∃ m' e', parO s.data.toList = (m', e') := ⟨_, _, rfl⟩
      rw [hpe] at KP
      have hsm := par_sg hsl hpe
      have KC2 := Lib.hid (fun A c w1 (hm : MS w1 w1.heap.size A m') => checkO_any m' hsm.ok A c w1 hm)
      have KF2 := Lib.hid (fun A c w1 (hb : Below w.heap.size w w1) (hm : MS w1 w1.heap.size A m') => format_any m' hsm.ok hsm.hz hsm.txt A c w1 (hO.up hb) hm)
      have HOK : Hid (e' = 0 → chkA m' = 0 ∧ fmtO m' = s.data.toList) := fun he => by
        subst he
        obtain ⟨h1, h2⟩ := par_ok hpe
        refine ⟨h1, ?_⟩
        unfold fmtO
        rw [if_pos h1, h2]
      have HBAD : Hid (e' ≠ 0 → m' = []) := fun he => par_bad hpe he
      have heq : (s.data.toList == s.toList) = true := by rw [ByteArray.toList_eq]; exact beq_self_eq_true _
      clear hpe hsm hsl
      by_cases hc : chkA l = 0
      · have HF : Hid (fmtO l = txtM l) := if_pos hc
        rw [HF.out] at KF
        rw [hc] at KC
        have KT := Lib.hid (fun w1 (hb : Below w.heap.size w w1) => parse_any ⟨(txtM l).toArray⟩ (by show (txtM l).toArray.size ≤ _; rw [List.size_toArray]; omega) w1 (hO.up hb))
        rw [mkS_eq, par_txt hc] at KT
        have KS := Lib.hid (fun C d w1 (hb : Below w.heap.size w w1) (hm : MS w1 w1.heap.size C l) => refSame_any l l hsg.ok.max hsg.ok.max A C c d w1 (hA.up hb) hm)
        rw [decide_eq_true (rfl : l = l)] at KS
        clear HF hc hA hO hg htx hsg
        by_cases he : e' = 0
        · obtain ⟨ok1, ok2⟩ := HOK.out he
          subst he
          rw [ok1] at KC2
          rw [ok2] at KF2
          clear HOK HBAD ok1 ok2
          go_enter Tryz.func11, Tryz.ntmps11
          go_wp2_with fail
          refine KG.out.mono ?_
          rintro e w0 ⟨rfl, rfl⟩
          go_wp2_with fail
          refine KF.out.mono ?_
          rintro e w1 ⟨rfl, b1⟩
          have B1 : Hid (Below w.heap.size w w1) := B0.out.trans (b1.mono B0.out.size)
          have KC1 := Lib.hid (KC.out w1 B1.out)
          clear KG KF KC b1 B0
          go_wp2_with fail
          refine KC1.out.mono ?_
          rintro e w2 ⟨rfl, b2⟩
          have B2 : Hid (Below w.heap.size w w2) := B1.out.trans (b2.out.mono B1.out.size)
          clear KC1 b2 B1
          have KT1 := Lib.hid (KT.out w2 B2.out)
          clear KT
          go_wp2_with fail
          refine KT1.out.mono ?_
          rintro e w3 ⟨v3, rfl, o3, b3⟩
          have B3 : Hid (Below w.heap.size w w3) := B2.out.trans (b3.out.mono B2.out.size)
          obtain ⟨A3, c3, rfl, m3⟩ := o3.out.form
          have KS1 := Lib.hid (KS.out A3 c3 w3 B3.out m3)
          clear KT1 o3 b3 m3 B2 KS
          go_wp2_with fail
          refine KS1.out.mono ?_
          rintro e w4 ⟨rfl, b4⟩
          have B4 : Hid (Below w.heap.size w w4) := B3.out.trans (b4.out.mono B3.out.size)
          clear KS1 b4 B3
          have KP1 := Lib.hid (KP.out w4 B4.out)
          clear KP
          go_wp2_with fail
          refine KP1.out.mono ?_
          rintro e w5 ⟨v5, rfl, o5, b5⟩
          have B5 : Hid (Below w.heap.size w w5) := B4.out.trans (b5.out.mono B4.out.size)
          obtain ⟨A5, c5, rfl, m5⟩ := o5.out.form
          have M5 := Lib.hid m5
          have KC3 := Lib.hid (KC2.out A5 c5 w5 m5)
          clear KP1 o5 b5 m5 B4 KC2
          go_wp2_with fail
          refine KC3.out.mono ?_
          rintro e w6 ⟨rfl, b6⟩
          have B6 : Hid (Below w.heap.size w w6) := B5.out.trans (b6.out.mono B5.out.size)
          have KF3 := Lib.hid (KF2.out A5 c5 w6 B6.out (M5.out.up b6.out))
          clear KC3 M5 b6 B5 KF2
          go_wp2_with fail
          refine KF3.out.mono ?_
          rintro e w7 ⟨rfl, b7⟩
          have B7 : Hid (Below w.heap.size w w7) := B6.out.trans (b7.mono B6.out.size)
          have KA1 := Lib.hid (KA.out w7 B7.out)
          clear KF3 b7 B6 KA
          go_wp2_with fail
          refine KA1.out.mono ?_
          rintro e w8 ⟨rfl, b8⟩
          have B8 : Hid (Below w.heap.size w w8) := B7.out.trans (b8.out.mono B7.out.size)
          clear KA1 b8 B7
          go_wp2
          go_ret
          exact ⟨rfl, B8⟩
        · have hm0 := HBAD.out he
          subst hm0
          have e0 := bneF he
          have e0' : (e' != 0) = true := by rw [bne, e0]; rfl
          clear HOK HBAD he KC2 KF2
          go_enter Tryz.func11, Tryz.ntmps11
          go_wp2_with fail
          refine KG.out.mono ?_
          rintro e w0 ⟨rfl, rfl⟩
          go_wp2_with fail
          refine KF.out.mono ?_
          rintro e w1 ⟨rfl, b1⟩
          have B1 : Hid (Below w.heap.size w w1) := B0.out.trans (b1.mono B0.out.size)
          have KC1 := Lib.hid (KC.out w1 B1.out)
          clear KG KF KC b1 B0
          go_wp2_with fail
          refine KC1.out.mono ?_
          rintro e w2 ⟨rfl, b2⟩
          have B2 : Hid (Below w.heap.size w w2) := B1.out.trans (b2.out.mono B1.out.size)
          clear KC1 b2 B1
          have KT1 := Lib.hid (KT.out w2 B2.out)
          clear KT
          go_wp2_with fail
          refine KT1.out.mono ?_
          rintro e w3 ⟨v3, rfl, o3, b3⟩
          have B3 : Hid (Below w.heap.size w w3) := B2.out.trans (b3.out.mono B2.out.size)
          obtain ⟨A3, c3, rfl, m3⟩ := o3.out.form
          have KS1 := Lib.hid (KS.out A3 c3 w3 B3.out m3)
          clear KT1 o3 b3 m3 B2 KS
          go_wp2_with fail
          refine KS1.out.mono ?_
          rintro e w4 ⟨rfl, b4⟩
          have B4 : Hid (Below w.heap.size w w4) := B3.out.trans (b4.out.mono B3.out.size)
          clear KS1 b4 B3
          have KP1 := Lib.hid (KP.out w4 B4.out)
          clear KP
          go_wp2_with fail
          refine KP1.out.mono ?_
          rintro e w5 ⟨v5, rfl, o5, b5⟩
          have B5 : Hid (Below w.heap.size w w5) := B4.out.trans (b5.out.mono B4.out.size)
          obtain ⟨A5, c5, rfl, m5⟩ := o5.out.form
          have KA1 := Lib.hid (KA.out w5 B5.out)
          clear KP1 o5 b5 m5 B4 KA
          go_wp2_with fail
          refine KA1.out.mono ?_
          rintro e w8 ⟨rfl, b8⟩
          have B8 : Hid (Below w.heap.size w w8) := B5.out.trans (b8.out.mono B5.out.size)
          clear KA1 b8 B5
          go_wp2
          go_ret
          exact ⟨rfl, B8⟩
      · have HF : Hid (fmtO l = []) := if_neg hc
        rw [HF.out] at KF
        have f0 := bneF hc
        have hem : (⟨([] : List UInt8).toArray⟩ : ByteArray).toList.isEmpty = true := by kernel_rfl
        clear HF hc hA hO hg htx hsg
        generalize chkA l = q at *
        by_cases he : e' = 0
        · obtain ⟨ok1, ok2⟩ := HOK.out he
          subst he
          rw [ok1] at KC2
          rw [ok2] at KF2
          clear HOK HBAD ok1 ok2
          go_enter Tryz.func11, Tryz.ntmps11
          go_wp2_with fail
          refine KG.out.mono ?_
          rintro e w0 ⟨rfl, rfl⟩
          go_wp2_with fail
          refine KF.out.mono ?_
          rintro e w1 ⟨rfl, b1⟩
          have B1 : Hid (Below w.heap.size w w1) := B0.out.trans (b1.mono B0.out.size)
          have KC1 := Lib.hid (KC.out w1 B1.out)
          clear KG KF KC b1 B0
          go_wp2_with fail
          refine KC1.out.mono ?_
          rintro e w2 ⟨rfl, b2⟩
          have B2 : Hid (Below w.heap.size w w2) := B1.out.trans (b2.out.mono B1.out.size)
          clear KC1 b2 B1
          have KP1 := Lib.hid (KP.out w2 B2.out)
          clear KP
          go_wp2_with fail
          refine KP1.out.mono ?_
          rintro e w5 ⟨v5, rfl, o5, b5⟩
          have B5 : Hid (Below w.heap.size w w5) := B2.out.trans (b5.out.mono B2.out.size)
          obtain ⟨A5, c5, rfl, m5⟩ := o5.out.form
          have M5 := Lib.hid m5
          have KC3 := Lib.hid (KC2.out A5 c5 w5 m5)
          clear KP1 o5 b5 m5 B2 KC2
          go_wp2_with fail
          refine KC3.out.mono ?_
          rintro e w6 ⟨rfl, b6⟩
          have B6 : Hid (Below w.heap.size w w6) := B5.out.trans (b6.out.mono B5.out.size)
          have KF3 := Lib.hid (KF2.out A5 c5 w6 B6.out (M5.out.up b6.out))
          clear KC3 M5 b6 B5 KF2
          go_wp2_with fail
          refine KF3.out.mono ?_
          rintro e w7 ⟨rfl, b7⟩
          have B7 : Hid (Below w.heap.size w w7) := B6.out.trans (b7.mono B6.out.size)
          have KA1 := Lib.hid (KA.out w7 B7.out)
          clear KF3 b7 B6 KA
          go_wp2_with fail
          refine KA1.out.mono ?_
          rintro e w8 ⟨rfl, b8⟩
          have B8 : Hid (Below w.heap.size w w8) := B7.out.trans (b8.out.mono B7.out.size)
          clear KA1 b8 B7
          go_wp2
          go_ret
          exact ⟨rfl, B8⟩
        · have hm0 := HBAD.out he
          subst hm0
          have e0 := bneF he
          have e0' : (e' != 0) = true := by rw [bne, e0]; rfl
          clear HOK HBAD he KC2 KF2
          go_enter Tryz.func11, Tryz.ntmps11
          go_wp2_with fail
          refine KG.out.mono ?_
          rintro e w0 ⟨rfl, rfl⟩
          go_wp2_with fail
          refine KF.out.mono ?_
          rintro e w1 ⟨rfl, b1⟩
          have B1 : Hid (Below w.heap.size w w1) := B0.out.trans (b1.mono B0.out.size)
          have KC1 := Lib.hid (KC.out w1 B1.out)
          clear KG KF KC b1 B0
          go_wp2_with fail
          refine KC1.out.mono ?_
          rintro e w2 ⟨rfl, b2⟩
          have B2 : Hid (Below w.heap.size w w2) := B1.out.trans (b2.out.mono B1.out.size)
          clear KC1 b2 B1
          have KP1 := Lib.hid (KP.out w2 B2.out)
          clear KP
          go_wp2_with fail
          refine KP1.out.mono ?_
          rintro e w5 ⟨v5, rfl, o5, b5⟩
          have B5 : Hid (Below w.heap.size w w5) := B2.out.trans (b5.out.mono B2.out.size)
          obtain ⟨A5, c5, rfl, m5⟩ := o5.out.form
          have KA1 := Lib.hid (KA.out w5 B5.out)
          clear KP1 o5 b5 m5 B2 KA
          go_wp2_with fail
          refine KA1.out.mono ?_
          rintro e w8 ⟨rfl, b8⟩
          have B8 : Hid (Below w.heap.size w w8) := B5.out.trans (b8.out.mono B5.out.size)
          clear KA1 b8 B5
          go_wp2
          go_ret
          exact ⟨rfl, B8⟩
end Go.Proofs.YtdeppcddknakjaaGreatDoor.Mx
namespace Go.Proofs.YtdeppcddknakjaaGreatDoor.Mx
open Go.RowKit
open Go.Proofs.YtdeppcddknakjaaGreatDoor.Rx (EmpP SameP pfxS ChkP check)
open Go.Proofs.YtdeppcddknakjaaGreatDoor.Lab (nameB getL Lb LS StrPost greatL refGreat_any Sm great_sm)
theorem sm_lz {ls : List Lb} (h : Sm ls) : Lz ls := ⟨by have := h.len; omega, fun x hx => by have := (h.sz x hx).2; omega⟩
theorem val_of {l : List Mt} (h : chkA l = 0) : Val l := (chkA_each h).2
theorem chk_sim {l s : List Mt} (h : chkA l = 0) (hs : simA l = some s) : chkA s = 0 := chkA_zero.2 ⟨Nat.le_trans (simA_some hs).2.2.2 (chkA_each h).1, simA_val (val_of h) hs⟩
theorem mat_chk {l : List Mt} (h : chkA l = 0) (ls : List Lb) : matA l ls = satG l (getL ls) := by unfold matA; rw [decide_eq_true h, Bool.true_and]
set_option maxHeartbeats 8000000 in
theorem same_walk (l : List Mt) (hl : Sz' l) (A : Option Addr) (c : Nat) (ls : List Lb) (hn : ls.length ≤ maxLen) (hz : ∀ x ∈ ls, x.n.size ≤ maxLen ∧ x.v.size ≤ maxLen) (C : Option Addr) (d : Nat) (w : World) (hO : OpsW w) (hA : MS w w.heap.size A l) (hC : LS w w.heap.size C ls) :
    Calls Tryz.prog 7 #[.slice A l.length c, .slice C ls.length d] w (EmpP true w) := by
  have B0 : Hid (Below w.heap.size w (w.alloc (.cells #[.slice A l.length c] 22))) := (Below.refl _ _).alloc (Nat.le_refl _) _
  have KG := Lib.hid (great_any [⟨A, c, l⟩] (show 1 ≤ 100 by omega) w.heap.size 1 (w.alloc (.cells #[.slice A l.length c] 22)) (one_SS hA hl B0.out (by simp)))
  have KA := Lib.hid (fun w1 (hb : Below w.heap.size w w1) => awake_any w1 (hO.up hb))
  have hany : ([(⟨A, c, l⟩ : Ls)].any fun x => greatM x.l) = greatM l := by simp
  rw [hany] at KG
  have KL := Lib.hid (refGreat_any ls hn hz C d _ _ (LS_up hC B0.out))
  have KC := Lib.hid (refCheck_any l hl A c _ (hA.up B0.out))
  clear hany
  cases hg : greatM l with
  | true =>
    rw [hg] at KG
    clear hg KL KC hA hC
    go_enter Tryz.func7, Tryz.ntmps7
    go_wp2_with fail
    refine KG.out.mono ?_
    rintro e w0 ⟨rfl, rfl⟩
    have KA1 := Lib.hid (KA.out _ B0.out)
    clear KA
    go_wp2_with fail
    refine KA1.out.mono ?_
    rintro e w9 ⟨rfl, b9⟩
    have B9 : Hid (Below w.heap.size w w9) := B0.out.trans (b9.out.mono B0.out.size)
    clear KA1 b9
    go_wp2
    go_ret
    exact ⟨rfl, B9⟩
  | false =>
    rw [hg] at KG
    cases hgl : greatL ls with
    | true =>
      rw [hgl] at KL
      clear hg hgl KC hA hC
      go_enter Tryz.func7, Tryz.ntmps7
      go_wp2_with fail
      refine KG.out.mono ?_
      rintro e w0 ⟨rfl, rfl⟩
      go_wp2_with fail
      refine KL.out.mono ?_
      rintro e w0 ⟨rfl, rfl⟩
      have KA1 := Lib.hid (KA.out _ B0.out)
      clear KA
      go_wp2_with fail
      refine KA1.out.mono ?_
      rintro e w9 ⟨rfl, b9⟩
      have B9 : Hid (Below w.heap.size w w9) := B0.out.trans (b9.out.mono B0.out.size)
      clear KA1 b9
      go_wp2
      go_ret
      exact ⟨rfl, B9⟩
    | false =>
      rw [hgl] at KL
      by_cases hc : chkA l = 0
      · rw [hc] at KC
        have hsg := (great_sg hg).2
        have hlz := sm_lz (great_sm hgl)
        have hv := val_of hc
        have KS := Lib.hid (fun w1 (hb : Below w.heap.size w w1) => simplify_any l hsg.ok A c w1 (hA.up hb))
        have hsim : simO l = simA l := if_pos hc
        rw [hsim] at KS
        have KM := Lib.hid (fun w1 (hb : Below w.heap.size w w1) => matches17 l hl ls hlz A C c d w1 (hA.up hb) (LS_up hC hb))
        rw [mat_chk hc] at KM
        cases hs : simA l with
        | none =>
          rw [hs] at KS
          rw [simA_bad hv hs] at KM
          clear hs hsim hv hlz hsg hc hg hgl hA hC
          go_enter Tryz.func7, Tryz.ntmps7
          go_wp2_with fail
          refine KG.out.mono ?_
          rintro e w0 ⟨rfl, rfl⟩
          go_wp2_with fail
          refine KL.out.mono ?_
          rintro e w0 ⟨rfl, rfl⟩
          go_wp2_with fail
          refine KC.out.mono ?_
          rintro e w1 ⟨rfl, b1⟩
          have B1 : Hid (Below w.heap.size w w1) := B0.out.trans (b1.out.mono B0.out.size)
          have KS1 := Lib.hid (KS.out w1 B1.out)
          clear b1 B0 KG KL KC KS
          go_wp2_with fail
          refine KS1.out.mono ?_
          rintro e w2 ⟨v2, rfl, o2, b2⟩
          have B2 : Hid (Below w.heap.size w w2) := B1.out.trans (b2.out.mono B1.out.size)
          obtain ⟨A2, c2, rfl, _⟩ := o2.out.form
          have KM1 := Lib.hid (KM.out w2 B2.out)
          clear b2 B1 KS1 KM o2
          go_wp2_with fail
          refine KM1.out.mono ?_
          rintro e w3 ⟨rfl, b3⟩
          have B3 : Hid (Below w.heap.size w w3) := B2.out.trans (b3.out.mono B2.out.size)
          clear b3 B2 KM1
          have KA1 := Lib.hid (KA.out w3 B3.out)
          clear KA
          go_wp2_with fail
          refine KA1.out.mono ?_
          rintro e w9 ⟨rfl, b9⟩
          have B9 : Hid (Below w.heap.size w w9) := B3.out.trans (b9.out.mono B3.out.size)
          clear KA1 b9
          go_wp2
          go_ret
          exact ⟨rfl, B9⟩
        | some s =>
          rw [hs] at KS
          have hss := hsg.sim hs
          have hcs := chk_sim hc hs
          have KS2 := Lib.hid (fun A c w1 (hm : MS w1 w1.heap.size A s) => simplify_any s hss.ok A c w1 hm)
          have hsim2 : simO s = some s := by unfold simO; rw [if_pos hcs, simA_again hv hs]
          rw [hsim2] at KS2
          have KM2 := Lib.hid (fun A c w1 (hb : Below w.heap.size w w1) (hm : MS w1 w1.heap.size A s) => matches17 s hss.sz ls hlz A C c d w1 hm (LS_up hC hb))
          rw [mat_chk hcs, simA_sat hv hs] at KM2
          have KE := Lib.hid (fun A c D d w1 (hm : MS w1 w1.heap.size A s) (hm2 : MS w1 w1.heap.size D s) => refSame_any s s hss.ok.max hss.ok.max A D c d w1 hm hm2)
          rw [decide_eq_true (rfl : s = s)] at KE
          clear hs hsim hsim2 hv hlz hsg hss hcs hc hg hgl hA hC
          generalize satG l (getL ls) = q at *
          have hqq : (q == q) = true := beq_self_eq_true q
          go_enter Tryz.func7, Tryz.ntmps7
          go_wp2_with fail
          refine KG.out.mono ?_
          rintro e w0 ⟨rfl, rfl⟩
          go_wp2_with fail
          refine KL.out.mono ?_
          rintro e w0 ⟨rfl, rfl⟩
          go_wp2_with fail
          refine KC.out.mono ?_
          rintro e w1 ⟨rfl, b1⟩
          have B1 : Hid (Below w.heap.size w w1) := B0.out.trans (b1.out.mono B0.out.size)
          have KS1 := Lib.hid (KS.out w1 B1.out)
          clear b1 B0 KG KL KC KS
          go_wp2_with fail
          refine KS1.out.mono ?_
          rintro e w2 ⟨v2, rfl, o2, b2⟩
          have B2 : Hid (Below w.heap.size w w2) := B1.out.trans (b2.out.mono B1.out.size)
          obtain ⟨A2, c2, rfl, m2⟩ := o2.out.form
          have M2 := Lib.hid m2
          have KS3 := Lib.hid (KS2.out A2 c2 w2 m2)
          clear b2 B1 KS1 o2 m2 KS2
          go_wp2_with fail
          refine KS3.out.mono ?_
          rintro e w3 ⟨v3, rfl, o3, b3⟩
          have B3 : Hid (Below w.heap.size w w3) := B2.out.trans (b3.out.mono B2.out.size)
          obtain ⟨A3, c3, rfl, m3⟩ := o3.out.form
          have M3 := Lib.hid m3
          have M23 := Lib.hid (M2.out.up b3.out)
          have KM3 := Lib.hid (KM2.out A2 c2 w3 B3.out M23.out)
          clear b3 B2 KS3 o3 m3 KM2 M2
          go_wp2_with fail
          refine KM3.out.mono ?_
          rintro e w4 ⟨rfl, b4⟩
          have B4 : Hid (Below w.heap.size w w4) := B3.out.trans (b4.out.mono B3.out.size)
          have KM4 := Lib.hid (KM.out w4 B4.out)
          have M24 := Lib.hid (M23.out.up b4.out)
          have M34 := Lib.hid (M3.out.up b4.out)
          clear b4 B3 KM3 KM M23 M3
          go_wp2_with fail
          refine KM4.out.mono ?_
          rintro e w5 ⟨rfl, b5⟩
          have B5 : Hid (Below w.heap.size w w5) := B4.out.trans (b5.out.mono B4.out.size)
          have KE1 := Lib.hid (KE.out A3 c3 A2 c2 w5 (M34.out.up b5.out) (M24.out.up b5.out))
          clear b5 B4 KM4 KE M24 M34
          go_wp2_with fail
          refine KE1.out.mono ?_
          rintro e w6 ⟨rfl, b6⟩
          have B6 : Hid (Below w.heap.size w w6) := B5.out.trans (b6.out.mono B5.out.size)
          clear b6 B5 KE1
          have KA1 := Lib.hid (KA.out w6 B6.out)
          clear KA
          go_wp2_with fail
          refine KA1.out.mono ?_
          rintro e w9 ⟨rfl, b9⟩
          have B9 : Hid (Below w.heap.size w w9) := B6.out.trans (b9.out.mono B6.out.size)
          clear KA1 b9
          go_wp2
          go_ret
          exact ⟨rfl, B9⟩
      · have e0 := bneF hc
        have e0' : (chkA l != 0) = true := by rw [bne, e0]; rfl
        clear hg hgl hA hC hc
        generalize chkA l = q at *
        go_enter Tryz.func7, Tryz.ntmps7
        go_wp2_with fail
        refine KG.out.mono ?_
        rintro e w0 ⟨rfl, rfl⟩
        go_wp2_with fail
        refine KL.out.mono ?_
        rintro e w0 ⟨rfl, rfl⟩
        go_wp2_with fail
        refine KC.out.mono ?_
        rintro e w1 ⟨rfl, b1⟩
        have B1 : Hid (Below w.heap.size w w1) := B0.out.trans (b1.out.mono B0.out.size)
        clear b1 B0 KG KL KC
        have KA1 := Lib.hid (KA.out w1 B1.out)
        clear KA
        go_wp2_with fail
        refine KA1.out.mono ?_
        rintro e w9 ⟨rfl, b9⟩
        have B9 : Hid (Below w.heap.size w w9) := B1.out.trans (b9.out.mono B1.out.size)
        clear KA1 b9
        go_wp2
        go_ret
        exact ⟨rfl, B9⟩
end Go.Proofs.YtdeppcddknakjaaGreatDoor.Mx
namespace Go.Proofs.YtdeppcddknakjaaGreatDoor.Mx
open Go.RowKit
open Go.Proofs.YtdeppcddknakjaaGreatDoor.Rx (EmpP SameP pfxS ChkP check)
open Go.Proofs.YtdeppcddknakjaaGreatDoor.Lab (nameB getL Lb LS StrPost greatL refGreat_any Sm great_sm)
theorem two_SS {w V : World} {g : Nat} {A C : Option Addr} {c d : Nat} {a b : List Mt} (hm : MS w w.heap.size A a) (hm2 : MS w w.heap.size C b) (ha : Sz' a) (hb' : Sz' b) (hb : Below w.heap.size w V) (hc : V.cell? ⟨g, 0, none⟩ = some (.slice A a.length c)) (hd : V.cell? ⟨g, 1, none⟩ = some (.slice C b.length d)) : SSl V g [⟨A, c, a⟩, ⟨C, d, b⟩] := fun j hj => by
  have hj' : j = 0 ∨ j = 1 := by simp at hj; omega
  rcases hj' with rfl | rfl
  · exact ⟨hc, hm.up hb, ha⟩
  · exact ⟨hd, hm2.up hb, hb'⟩
set_option maxHeartbeats 8000000 in
theorem implies_walk (a : List Mt) (ha : Sz' a) (A : Option Addr) (c : Nat) (b : List Mt) (hb' : Sz' b) (D : Option Addr) (d : Nat) (ls : List Lb) (hn : ls.length ≤ maxLen) (hz : ∀ x ∈ ls, x.n.size ≤ maxLen ∧ x.v.size ≤ maxLen) (C : Option Addr) (f : Nat) (w : World) (hO : OpsW w) (hA : MS w w.heap.size A a) (hD : MS w w.heap.size D b) (hC : LS w w.heap.size C ls) :
    Calls Tryz.prog 9 #[.slice A a.length c, .slice D b.length d, .slice C ls.length f] w (EmpP true w) := by
  have B0 : Hid (Below w.heap.size w (w.alloc (.cells #[.slice A a.length c, .slice D b.length d] 22))) := (Below.refl _ _).alloc (Nat.le_refl _) _
  have hcell := heap_alloc_new w (.cells #[.slice A a.length c, .slice D b.length d] 22)
  have KG := Lib.hid (great_any [⟨A, c, a⟩, ⟨D, d, b⟩] (show 2 ≤ 100 by omega) w.heap.size 2 (w.alloc (.cells #[.slice A a.length c, .slice D b.length d] 22)) (two_SS hA hD ha hb' B0.out (by rw [cell_of_row _ _ _ _ _ _ hcell]; rfl) (by rw [cell_of_row _ _ _ _ _ _ hcell]; rfl)))
  clear hcell
  have KA := Lib.hid (fun w1 (hb : Below w.heap.size w w1) => awake_any w1 (hO.up hb))
  have hany : ([(⟨A, c, a⟩ : Ls), ⟨D, d, b⟩].any fun x => greatM x.l) = (greatM a || greatM b) := by simp
  rw [hany] at KG
  have KL := Lib.hid (refGreat_any ls hn hz C f _ _ (LS_up hC B0.out))
  have KC := Lib.hid (refCheck_any a ha A c _ (hA.up B0.out))
  have KD := Lib.hid (fun w1 (hb : Below w.heap.size w w1) => refCheck_any b hb' D d w1 (hD.up hb))
  clear hany
  cases hg : (greatM a || greatM b) with
  | true =>
    rw [hg] at KG
    clear hg KL KC KD hA hD hC
    go_enter Tryz.func9, Tryz.ntmps9
    go_wp2_with fail
    refine KG.out.mono ?_
    rintro e w0 ⟨rfl, rfl⟩
    have KA1 := Lib.hid (KA.out _ B0.out)
    clear KA
    go_wp2_with fail
    refine KA1.out.mono ?_
    rintro e w9 ⟨rfl, b9⟩
    have B9 : Hid (Below w.heap.size w w9) := B0.out.trans (b9.out.mono B0.out.size)
    clear KA1 b9
    go_wp2
    go_ret
    exact ⟨rfl, B9⟩
  | false =>
    rw [hg] at KG
    rw [Bool.or_eq_false_iff] at hg
    cases hgl : greatL ls with
    | true =>
      rw [hgl] at KL
      clear hg hgl KC KD hA hD hC
      go_enter Tryz.func9, Tryz.ntmps9
      go_wp2_with fail
      refine KG.out.mono ?_
      rintro e w0 ⟨rfl, rfl⟩
      go_wp2_with fail
      refine KL.out.mono ?_
      rintro e w0 ⟨rfl, rfl⟩
      have KA1 := Lib.hid (KA.out _ B0.out)
      clear KA
      go_wp2_with fail
      refine KA1.out.mono ?_
      rintro e w9 ⟨rfl, b9⟩
      have B9 : Hid (Below w.heap.size w w9) := B0.out.trans (b9.out.mono B0.out.size)
      clear KA1 b9
      go_wp2
      go_ret
      exact ⟨rfl, B9⟩
    | false =>
      rw [hgl] at KL
      by_cases hc : chkA a = 0
      · rw [hc] at KC
        by_cases hd : chkA b = 0
        · rw [hd] at KD
          have hsa := (great_sg hg.1).2
          have hsb := (great_sg hg.2).2
          have hlz := sm_lz (great_sm hgl)
          have KI := Lib.hid (fun w1 (hb : Below w.heap.size w w1) => implies_any a b hsa.ok hsb.ok A c D d w1 (hA.up hb) (hD.up hb))
          have KJ := Lib.hid (fun w1 (hb : Below w.heap.size w w1) => implies_any a a hsa.ok hsa.ok A c A c w1 (hA.up hb) (hA.up hb))
          have i1 : impO a b = impA a b := by unfold impO; rw [decide_eq_true hc, decide_eq_true hd, Bool.true_and, Bool.true_and]
          have i2 : impO a a = true := by unfold impO; rw [decide_eq_true hc, impA_refl, Bool.true_and, Bool.true_and]
          rw [i1] at KI
          rw [i2] at KJ
          have KM := Lib.hid (fun w1 (hb : Below w.heap.size w w1) => matches17 a ha ls hlz A C c f w1 (hA.up hb) (LS_up hC hb))
          have KN := Lib.hid (fun w1 (hb : Below w.heap.size w w1) => matches17 b hb' ls hlz D C d f w1 (hD.up hb) (LS_up hC hb))
          rw [mat_chk hc] at KM
          rw [mat_chk hd] at KN
          have HS : Hid (impA a b = true → satG a (getL ls) = true → satG b (getL ls) = true) := fun h1 h2 => impA_sound (val_of hc) (val_of hd) h1 h2
          clear i1 i2 hsa hsb hlz hc hd hg hgl hA hD hC
          cases hi : impA a b with
          | false =>
            rw [hi] at KI
            clear hi KM KN HS
            go_enter Tryz.func9, Tryz.ntmps9
            go_wp2_with fail
            refine KG.out.mono ?_
            rintro e w0 ⟨rfl, rfl⟩
            go_wp2_with fail
            refine KL.out.mono ?_
            rintro e w0 ⟨rfl, rfl⟩
            go_wp2_with fail
            refine KC.out.mono ?_
            rintro e w1 ⟨rfl, b1⟩
            have B1 : Hid (Below w.heap.size w w1) := B0.out.trans (b1.out.mono B0.out.size)
            have KD1 := Lib.hid (KD.out w1 B1.out)
            clear b1 B0 KG KL KC KD
            go_wp2_with fail
            refine KD1.out.mono ?_
            rintro e w2 ⟨rfl, b2⟩
            have B2 : Hid (Below w.heap.size w w2) := B1.out.trans (b2.out.mono B1.out.size)
            clear b2 B1 KD1
            have KI1 := Lib.hid (KI.out w2 B2.out)
            clear KI
            go_wp2_with fail
            refine KI1.out.mono ?_
            rintro e w3 ⟨rfl, b3⟩
            have B3 : Hid (Below w.heap.size w w3) := B2.out.trans (b3.out.mono B2.out.size)
            clear b3 B2 KI1
            have KJ1 := Lib.hid (KJ.out w3 B3.out)
            clear KJ
            go_wp2_with fail
            refine KJ1.out.mono ?_
            rintro e w8 ⟨rfl, b8⟩
            have B8 : Hid (Below w.heap.size w w8) := B3.out.trans (b8.out.mono B3.out.size)
            clear b8 B3 KJ1
            have KA1 := Lib.hid (KA.out w8 B8.out)
            clear KA
            go_wp2_with fail
            refine KA1.out.mono ?_
            rintro e w9 ⟨rfl, b9⟩
            have B9 : Hid (Below w.heap.size w w9) := B8.out.trans (b9.out.mono B8.out.size)
            clear KA1 b9
            go_wp2
            go_ret
            exact ⟨rfl, B9⟩
          | true =>
            rw [hi] at KI HS
            clear hi
            cases hm : satG a (getL ls) with
            | false =>
              rw [hm] at KM
              clear hm KN HS
              go_enter Tryz.func9, Tryz.ntmps9
              go_wp2_with fail
              refine KG.out.mono ?_
              rintro e w0 ⟨rfl, rfl⟩
              go_wp2_with fail
              refine KL.out.mono ?_
              rintro e w0 ⟨rfl, rfl⟩
              go_wp2_with fail
              refine KC.out.mono ?_
              rintro e w1 ⟨rfl, b1⟩
              have B1 : Hid (Below w.heap.size w w1) := B0.out.trans (b1.out.mono B0.out.size)
              have KD1 := Lib.hid (KD.out w1 B1.out)
              clear b1 B0 KG KL KC KD
              go_wp2_with fail
              refine KD1.out.mono ?_
              rintro e w2 ⟨rfl, b2⟩
              have B2 : Hid (Below w.heap.size w w2) := B1.out.trans (b2.out.mono B1.out.size)
              clear b2 B1 KD1
              have KI1 := Lib.hid (KI.out w2 B2.out)
              clear KI
              go_wp2_with fail
              refine KI1.out.mono ?_
              rintro e w3 ⟨rfl, b3⟩
              have B3 : Hid (Below w.heap.size w w3) := B2.out.trans (b3.out.mono B2.out.size)
              clear b3 B2 KI1
              have KM1 := Lib.hid (KM.out w3 B3.out)
              clear KM
              go_wp2_with fail
              refine KM1.out.mono ?_
              rintro e w4 ⟨rfl, b9⟩
              have B4 : Hid (Below w.heap.size w w4) := B3.out.trans (b9.out.mono B3.out.size)
              clear b9 B3 KM1
              have KJ1 := Lib.hid (KJ.out w4 B4.out)
              clear KJ
              go_wp2_with fail
              refine KJ1.out.mono ?_
              rintro e w8 ⟨rfl, b8⟩
              have B8 : Hid (Below w.heap.size w w8) := B4.out.trans (b8.out.mono B4.out.size)
              clear b8 B4 KJ1
              have KA1 := Lib.hid (KA.out w8 B8.out)
              clear KA
              go_wp2_with fail
              refine KA1.out.mono ?_
              rintro e w9 ⟨rfl, b9⟩
              have B9 : Hid (Below w.heap.size w w9) := B8.out.trans (b9.out.mono B8.out.size)
              clear KA1 b9
              go_wp2
              go_ret
              exact ⟨rfl, B9⟩
            | true =>
              rw [hm] at KM HS
              have hb2 := HS.out rfl rfl
              rw [hb2] at KN
              clear hm hb2 HS
              go_enter Tryz.func9, Tryz.ntmps9
              go_wp2_with fail
              refine KG.out.mono ?_
              rintro e w0 ⟨rfl, rfl⟩
              go_wp2_with fail
              refine KL.out.mono ?_
              rintro e w0 ⟨rfl, rfl⟩
              go_wp2_with fail
              refine KC.out.mono ?_
              rintro e w1 ⟨rfl, b1⟩
              have B1 : Hid (Below w.heap.size w w1) := B0.out.trans (b1.out.mono B0.out.size)
              have KD1 := Lib.hid (KD.out w1 B1.out)
              clear b1 B0 KG KL KC KD
              go_wp2_with fail
              refine KD1.out.mono ?_
              rintro e w2 ⟨rfl, b2⟩
              have B2 : Hid (Below w.heap.size w w2) := B1.out.trans (b2.out.mono B1.out.size)
              clear b2 B1 KD1
              have KI1 := Lib.hid (KI.out w2 B2.out)
              clear KI
              go_wp2_with fail
              refine KI1.out.mono ?_
              rintro e w3 ⟨rfl, b3⟩
              have B3 : Hid (Below w.heap.size w w3) := B2.out.trans (b3.out.mono B2.out.size)
              clear b3 B2 KI1
              have KM1 := Lib.hid (KM.out w3 B3.out)
              clear KM
              go_wp2_with fail
              refine KM1.out.mono ?_
              rintro e w4 ⟨rfl, b9⟩
              have B4 : Hid (Below w.heap.size w w4) := B3.out.trans (b9.out.mono B3.out.size)
              clear b9 B3 KM1
              have KN1 := Lib.hid (KN.out w4 B4.out)
              clear KN
              go_wp2_with fail
              refine KN1.out.mono ?_
              rintro e w5 ⟨rfl, b9⟩
              have B5 : Hid (Below w.heap.size w w5) := B4.out.trans (b9.out.mono B4.out.size)
              clear b9 B4 KN1
              have KJ1 := Lib.hid (KJ.out w5 B5.out)
              clear KJ
              go_wp2_with fail
              refine KJ1.out.mono ?_
              rintro e w8 ⟨rfl, b8⟩
              have B8 : Hid (Below w.heap.size w w8) := B5.out.trans (b8.out.mono B5.out.size)
              clear b8 B5 KJ1
              have KA1 := Lib.hid (KA.out w8 B8.out)
              clear KA
              go_wp2_with fail
              refine KA1.out.mono ?_
              rintro e w9 ⟨rfl, b9⟩
              have B9 : Hid (Below w.heap.size w w9) := B8.out.trans (b9.out.mono B8.out.size)
              clear KA1 b9
              go_wp2
              go_ret
              exact ⟨rfl, B9⟩
        · have e0 := bneF hd
          have e0' : (chkA b != 0) = true := by rw [bne, e0]; rfl
          clear hg hgl hA hD hC hc hd
          generalize chkA b = q at *
          go_enter Tryz.func9, Tryz.ntmps9
          go_wp2_with fail
          refine KG.out.mono ?_
          rintro e w0 ⟨rfl, rfl⟩
          go_wp2_with fail
          refine KL.out.mono ?_
          rintro e w0 ⟨rfl, rfl⟩
          go_wp2_with fail
          refine KC.out.mono ?_
          rintro e w1 ⟨rfl, b1⟩
          have B1 : Hid (Below w.heap.size w w1) := B0.out.trans (b1.out.mono B0.out.size)
          have KD1 := Lib.hid (KD.out w1 B1.out)
          clear b1 B0 KG KL KC KD
          go_wp2_with fail
          refine KD1.out.mono ?_
          rintro e w2 ⟨rfl, b2⟩
          have B2 : Hid (Below w.heap.size w w2) := B1.out.trans (b2.out.mono B1.out.size)
          clear b2 B1 KD1
          have KA1 := Lib.hid (KA.out w2 B2.out)
          clear KA
          go_wp2_with fail
          refine KA1.out.mono ?_
          rintro e w9 ⟨rfl, b9⟩
          have B9 : Hid (Below w.heap.size w w9) := B2.out.trans (b9.out.mono B2.out.size)
          clear KA1 b9
          go_wp2
          go_ret
          exact ⟨rfl, B9⟩
      · have e0 := bneF hc
        have e0' : (chkA a != 0) = true := by rw [bne, e0]; rfl
        clear hg hgl hA hD hC hc KD
        generalize chkA a = q at *
        go_enter Tryz.func9, Tryz.ntmps9
        go_wp2_with fail
        refine KG.out.mono ?_
        rintro e w0 ⟨rfl, rfl⟩
        go_wp2_with fail
        refine KL.out.mono ?_
        rintro e w0 ⟨rfl, rfl⟩
        go_wp2_with fail
        refine KC.out.mono ?_
        rintro e w1 ⟨rfl, b1⟩
        have B1 : Hid (Below w.heap.size w w1) := B0.out.trans (b1.out.mono B0.out.size)
        clear b1 B0 KG KL KC
        have KA1 := Lib.hid (KA.out w1 B1.out)
        clear KA
        go_wp2_with fail
        refine KA1.out.mono ?_
        rintro e w9 ⟨rfl, b9⟩
        have B9 : Hid (Below w.heap.size w w9) := B1.out.trans (b9.out.mono B1.out.size)
        clear KA1 b9
        go_wp2
        go_ret
        exact ⟨rfl, B9⟩
end Go.Proofs.YtdeppcddknakjaaGreatDoor.Mx
namespace Go.Proofs.YtdeppcddknakjaaGreatDoor.matcherImplies
open Go.ChangeShapes Go.WideShapes Go.ChangeAt Go.RowKit
open Go.ChangeMaps (open_string shut_string)
set_option linter.unusedVariables false

set_option maxRecDepth 100000 in
theorem lifted (os : Os) (started : os.Started) (H : Type) (enc : TypeId × Value → H) :
    ReturnsInHanded {} Tryz.checked os 9 .any (fun w args => (Rows.matcherImpliesSpec.pre enc Tryz.prog Tryz.f9 [] false w args ∧ laidMetH Tryz.prog Fr.laid3 w) ∧ sizedMet enc Tryz.prog Tryz.f9 (OpenSpec.ofChange Rows.matcherImpliesSpec) false w args)
      (Rows.matcherImpliesSpec.post enc Tryz.prog Tryz.f9 false true false false) := by
  refine Fr.handed (C := Tryz.checked) (X := fun w _ => laidMetH Tryz.prog Fr.laid3 w) (fun _ _ _ hh h => h.of_heap hh) Fr.own started (by kernel_rfl) Tryz.func9
    (ChangeSpec.witness_shaped (enc := enc) (C := Tryz.checked) (os := os) (X := fun w _ => laidMetH Tryz.prog Fr.laid3 w) false (World.laidAll Tryz.prog os Fr.laid3) #[.slice none 0 0, .slice none 0 0, .slice none 0 0] 8 (World.laidAll_os _ _ _)
      (World.shaped_of_ZipB (by kernel_rfl) (by kernel_rfl)) (by kernel_rfl) (by kernel_rfl) (by kernel_rfl)
      (by rw [MakeChecks.laidMetH_plain _ _ _ (by kernel_rfl)]; exact laidMet_laidAll _ (by kernel_rfl) (by kernel_rfl))) ?_
  intro W base args ds gs before hval0 hW hL _
  have hval : ∀ (j : Nat) t v, Tryz.f9.params[j]? = some t → args[j]? = some v → Value.okWide Tryz.prog W .any base t v := hval0
  have hW' := hW
  obtain ⟨p, q, hA0, hV, rfl, hfz, hnd⟩ := hW
  have hA : DataW.TrodAll enc Tryz.prog W 0 (fun _ => true) true Tryz.f9.params.toList args.toList ds p := hA0
  rw [Tryz.params9] at hA hval
  obtain ⟨v0, vs0, d0, ds0, p0, q0, hargs, rfl, rfl, h0, r0⟩ := trodAll_cons hA
  obtain ⟨v1, vs1, d1, ds1, p1, q1, rfl, rfl, rfl, h1, r1⟩ := trodAll_cons r0
  obtain ⟨v2, vs2, d2, ds2, p2, q2, rfl, rfl, rfl, h2, r2⟩ := trodAll_cons r1
  obtain ⟨rfl, rfl, rfl⟩ := trodAll_nil r2
  obtain rfl : args = #[v0, v1, v2] := by cases args; simp_all
  obtain ⟨rfl, rfl⟩ := trodVars_none hV
  have lt0 : ∀ x ∈ p0, x.block < W.heap.size := by obtain ⟨m, hm⟩ := h0; exact DataW.trod_lt m _ _ _ hm
  obtain ⟨A0, c0, l0, rfl, ok0, ms0⟩ := Fr.open_mts (hval 0 22 v0 rfl rfl) h0
  have lt1 : ∀ x ∈ p1, x.block < W.heap.size := by obtain ⟨m, hm⟩ := h1; exact DataW.trod_lt m _ _ _ hm
  obtain ⟨A1, c1, l1, rfl, ok1, ms1⟩ := Fr.open_mts (hval 1 22 v1 rfl rfl) h1
  have lt2 : ∀ x ∈ p2, x.block < W.heap.size := by obtain ⟨m, hm⟩ := h2; exact DataW.trod_lt m _ _ _ hm
  obtain ⟨A2, c2, l2, rfl, n2, z2, ms2⟩ := Fr.open_lbs (hval 2 23 v2 rfl rfl) h2
  clear hA0 hval0
  refine (Mx.implies_walk l0 ok0 A0 c0 l1 ok1 A1 c1 l2 n2 z2 A2 c2 W (Fr.ops3 hL) ms0 ms1 ms2).mono fun e W' ⟨he, hg⟩ => ?_
  subst he
  exact ⟨_, rfl, _, _, _, [], _, [], hW', trodAll_mk1 (shut_bool Tryz.underlying4 _), (trodAll_cons_mk (Below.trod Fr.laidOut (by kernel_rfl) (of_decide_eq_true (by kernel_rfl)) h0 hg.out lt0) (trodAll_cons_mk (Below.trod Fr.laidOut (by kernel_rfl) (of_decide_eq_true (by kernel_rfl)) h1 hg.out lt1) (trodAll_cons_mk (Below.trod Fr.laidOut (by kernel_rfl) (of_decide_eq_true (by kernel_rfl)) h2 hg.out lt2) trodAll_mk0))), rfl, hg.out.frame _, fun h => by cases h⟩

theorem row_holds : Rows.MatcherImpliesSaid :=
  OpenClaim.holds_of_wide 9 Tryz.f9 rfl rfl rfl rfl rfl rfl rfl ⟨rfl, rfl, rfl, rfl, rfl⟩ rfl rfl rfl rfl rfl (by kernel_rfl) Tryz.func9 (by kernel_rfl)
    (of_decide_eq_true (by kernel_rfl)) (by unfold Func.isWrapper; first | (rw [if_pos (by decide +kernel)]; kernel_rfl) | (rw [if_neg (by decide +kernel)]; exact ⟨rfl, rfl⟩))
    (fun os started H enc _ => lifted os started H enc)
end Go.Proofs.YtdeppcddknakjaaGreatDoor.matcherImplies

namespace Go.Proofs.YtdeppcddknakjaaGreatDoor
open Go
/-- The statement. -/
theorem matcherImplies_holds : Rows.MatcherImpliesCardSaid :=
  Claim7.holds_tied_plain_at .later [] [.data, .data, .pinned] true (true, "126e80e8a37fb66c813ddb1f4b050526e7878a6494eb724fb5d42db2ec55942f") false
    matcherImplies.row_holds (fun _ h => by cases h) (by kernel_rfl) (fun _ h => by cases h) matcherImplies_row_tie rfl ⟨rfl, rfl⟩ (by kernel_rfl) rfl
    (fun f fn hf hfn => by
      obtain rfl : f = 9 := Option.some.inj ((show Tryz.prog.funcNamed "lookout/lookoutlaw07.MatcherImplies" = some 9 by kernel_rfl).symm.trans hf) |>.symm
      obtain rfl : fn = Tryz.f9 := (Option.some.inj (Tryz.func9.symm.trans hfn)).symm
      exact ⟨by kernel_rfl, fun j t ht => by
        rw [Tryz.params9] at ht
        have hm : t ∈ [22, 22, 23] := by simpa using Array.mem_of_getElem? ht
        have hall : ([22, 22, 23].all fun u => !Tryz.prog.wantsStandIn u) = true := by kernel_rfl
        exact (show Tryz.prog.wantsStandIn t = false by simpa using List.all_eq_true.1 hall t hm)⟩)
    (by kernel_rfl)
end Go.Proofs.YtdeppcddknakjaaGreatDoor
#print axioms Go.Proofs.YtdeppcddknakjaaGreatDoor.matcherImplies_holds
