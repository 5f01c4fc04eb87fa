/- For every list of matchers and every string, the law MatcherText returns true: Format and Parse return the results of the reference; conditions: the listed variables hold what the program's text lays (tied). The frame is the guide's; the walk is ours. -/
import Derived.Test.YtdeppcddknakjaaGreatDoorCY
import Derived.Test.YtdeppcddknakjaaGreatDoorCZ
import Derived.Test.YtdeppcddknakjaaGreatDoorCards
import Derived.Test.YtdeppcddknakjaaGreatDoorTie
import Derived.Test.YtdeppcddknakjaaGreatDoorCFR
import Derived.SevenTiedAt
import Derived.ChangeOld
import Derived.Below
set_option maxRecDepth 100000
set_option linter.unusedVariables false
set_option linter.unusedSimpArgs false
namespace Go.Proofs.YtdeppcddknakjaaGreatDoor.Mx
open Go.RowKit
open Go.Proofs.YtdeppcddknakjaaGreatDoor.Rx (EmpP SameP pfxS ChkP check)
open Go.Proofs.YtdeppcddknakjaaGreatDoor.Lab (nameB getL Lb LS StrPost)
/-- One list that lies in a new block. -/
theorem one_SS {w V : World} {g : Nat} {A : Option Addr} {c : Nat} {l : List Mt} (hm : MS w w.heap.size A l) (hl : Sz' l) (hb : Below w.heap.size w V) (hc : V.cell? ⟨g, 0, none⟩ = some (.slice A l.length c)) : SSl V g [⟨A, c, l⟩] := fun j hj => by
  obtain rfl : j = 0 := by simp at hj; omega
  exact ⟨hc, hm.up hb, hl⟩
/-- What a text parses to. -/
theorem name_word {s : ByteArray} (h : nameB s = true) : s.data.toList ≠ [] ∧ ∀ c ∈ s.data.toList, Lab.letterB c.toNat = true := by
  unfold nameB at h
  simp only [Bool.and_eq_true, decide_eq_true_eq, List.all_eq_true] at h
  refine ⟨fun e => ?_, h.1.2⟩
  have h2 := congrArg List.length e
  rw [Array.length_toList, List.length_nil] at h2
  have h3 : s.data.size = s.size := rfl
  omega
theorem good_of {l : List Mt} (h : chkA l = 0) : ∀ m ∈ l, GoodM m := fun m hm => by
  have h1 := (chkA_each h).2 m hm
  exact ⟨chk1_kind h1, name_word (chk1_name h1)⟩
theorem par_txt {l : List Mt} (h : chkA l = 0) : parO (txtM l) = (l, 0) := by
  unfold parO
  rw [rdA_txt (good_of h), if_pos rfl, if_pos h]
theorem par_ok {s : List UInt8} {m : List Mt} (h : parO s = (m, 0)) : chkA m = 0 ∧ txtM m = s := by
  unfold parO at h
  split at h
  · rename_i h1
    split at h
    · rename_i h2
      injection h with h _
      subst h
      exact ⟨h2, h1⟩
    · rename_i h2
      injection h with _ h
      exact absurd h h2
  · injection h with _ h
    cases h
theorem par_bad {s : List UInt8} {m : List Mt} {e : Int} (h : parO s = (m, e)) (he : e ≠ 0) : m = [] := by
  unfold parO at h
  split at h
  · split at h
    · injection h with _ h
      exact absurd h.symm he
    · injection h with h _
      exact h.symm
  · injection h with h _
    exact h.symm
theorem par_sg {s : List UInt8} (hs : s.length ≤ 200) {m : List Mt} {e : Int} (h : parO s = (m, e)) : Sg m := by
  obtain ⟨h1, h2⟩ := rdA_size s
  have hr : Sg (rdA s) := ⟨by omega, fun x hx => by have := (h2 x hx).1; omega, fun x hx => by have := (h2 x hx).2; omega⟩
  unfold parO at h
  split at h
  · split at h
    · injection h with h _
      subst h
      exact hr
    · injection h with h _
      subst h
      exact Sg.nil
  · injection h with h _
    subst h
    exact Sg.nil
theorem great_txt {l : List Mt} (h : greatM l = false) : (txtM l).length ≤ 10000 := by
  unfold greatM at h
  rw [Bool.or_eq_false_iff] at h
  have h1 := of_decide_eq_false h.2
  have h2 : ∀ m ∈ l, (mat1 m).length ≤ 467 := fun m hm => by
    have h3 := List.any_eq_false.1 h.1 m hm
    rw [Bool.not_eq_true] at h3
    unfold bigM at h3
    rw [Bool.or_eq_false_iff, Bool.or_eq_false_iff] at h3
    have h4 := of_decide_eq_false h3.1
    have h5 := of_decide_eq_false h3.2.2
    have h6 := mat1_len m
    omega
  have h3 := txtM_bd l 467 h2
  have h4 : l.length * (467 + 1) ≤ 17 * 468 := Nat.mul_le_mul (by omega) (Nat.le_refl _)
  omega
end Go.Proofs.YtdeppcddknakjaaGreatDoor.Mx
namespace Go.Proofs.YtdeppcddknakjaaGreatDoor.Mx
open Go.RowKit
open Go.Proofs.YtdeppcddknakjaaGreatDoor.Rx (EmpP SameP pfxS ChkP check)
open Go.Proofs.YtdeppcddknakjaaGreatDoor.Lab (nameB getL Lb LS StrPost)
set_option maxHeartbeats 8000000 in
theorem text_walk (l : List Mt) (hl : Sz' l) (A : Option Addr) (c : Nat) (s : ByteArray) (hs : s.size ≤ maxLen) (w : World) (hO : OpsW w) (hA : MS w w.heap.size A l) :
    Calls Tryz.prog 4 #[.slice A l.length c, .string s] w (EmpP true w) := by
  unfold maxLen at hs
  have B0 : Hid (Below w.heap.size w (w.alloc (.cells #[.slice A l.length c] 22))) := (Below.refl _ _).alloc (Nat.le_refl _) _
  have KG := Lib.hid (great_any [⟨A, c, l⟩] (show 1 ≤ 100 by omega) w.heap.size 1 (w.alloc (.cells #[.slice A l.length c] 22)) (one_SS hA hl B0.out (by simp)))
  have KA := Lib.hid (fun w1 (hb : Below w.heap.size w w1) => awake_any w1 (hO.up hb))
  have hany : ([(⟨A, c, l⟩ : Ls)].any fun x => greatM x.l) = greatM l := by simp
  rw [hany] at KG
  clear hany
  cases hg : greatM l with
  | true =>
    rw [hg] at KG
    have KA1 := Lib.hid (KA.out _ B0.out)
    clear KA hg hA
    go_enter Tryz.func4, Tryz.ntmps4
    go_wp2_with fail
    refine KG.out.mono ?_
    rintro e w1 ⟨rfl, rfl⟩
    go_wp2_with fail
    refine KA1.out.mono ?_
    rintro e w2 ⟨rfl, b2⟩
    go_wp2
    go_ret
    exact ⟨rfl, B0.out.trans (b2.out.mono B0.out.size)⟩
  | false =>
    rw [hg] at KG
    by_cases h200 : 200 < s.size
    · have KA1 := Lib.hid (KA.out _ B0.out)
      clear KA hg hA
      go_enter Tryz.func4, Tryz.ntmps4
      go_wp2_with fail
      refine KG.out.mono ?_
      rintro e w1 ⟨rfl, rfl⟩
      go_wp2_with fail
      refine KA1.out.mono ?_
      rintro e w2 ⟨rfl, b2⟩
      go_wp2
      go_ret
      exact ⟨rfl, B0.out.trans (b2.out.mono B0.out.size)⟩
    · have hsg := (great_sg hg).2
      have hsl : s.data.toList.length ≤ 200 := by
        have : s.data.toList.length = s.size := Array.length_toList
        omega
      have KP := Lib.hid (parse_any s (by omega) _ (hO.up B0.out))
      have KQ := Lib.hid (fun w1 => refParse_any s (by omega) w1)
      have KF := Lib.hid (fun w1 (hb : Below w.heap.size w w1) => format_any l hsg.ok hsg.hz hsg.txt A c w1 (hO.up hb) (hA.up hb))
      have KR := Lib.hid (fun w1 (hb : Below w.heap.size w w1) => refFormatM_any l hl hsg.hz hsg.txt A c w1 (hA.up hb))
      obtain ⟨m', e', hpe⟩ : ∃ m' e', parO s.data.toList = (m', e') := ⟨_, _, rfl⟩
      rw [hpe] at KP KQ
      have hsm := par_sg hsl hpe
      have KS := Lib.hid (fun C D c d w1 (h1 : MS w1 w1.heap.size C m') (h2 : MS w1 w1.heap.size D m') => refSame_any m' m' hsm.ok.max hsm.ok.max C D c d w1 h1 h2)
      rw [decide_eq_true (rfl : m' = m')] at KS
      have hee : (e' == e') = true := beq_self_eq_true e'
      have hff : ((fmtO l) == (fmtO l)) = true := beq_self_eq_true _
      generalize fmtO l = fl at *
      clear hpe hsm hsl hg hA hO hsg
      go_enter Tryz.func4, Tryz.ntmps4
      go_wp2_with fail
      refine KG.out.mono ?_
      rintro e w1 ⟨rfl, rfl⟩
      clear KG
      go_wp2_with fail
      refine KP.out.mono ?_
      rintro e w2 ⟨v2, rfl, o2, b2⟩
      have B2 : Hid (Below w.heap.size w w2) := B0.out.trans (b2.out.mono B0.out.size)
      obtain ⟨A2, c2, rfl, m2⟩ := o2.out.form
      have M2 := Lib.hid m2
      have KQ1 := Lib.hid (KQ.out w2)
      clear KP o2 b2 m2 B0 KQ
      go_wp2_with fail
      refine KQ1.out.mono ?_
      rintro e w3 ⟨v3, rfl, o3, b3⟩
      have B3 : Hid (Below w.heap.size w w3) := B2.out.trans (b3.out.mono B2.out.size)
      obtain ⟨A3, c3, rfl, m3⟩ := o3.out.form
      have M3 := Lib.hid m3
      have M2' := Lib.hid (M2.out.up b3.out)
      have KF1 := Lib.hid (KF.out w3 B3.out)
      clear KQ1 o3 b3 m3 B2 M2 KF
      go_wp2_with fail
      refine KF1.out.mono ?_
      rintro e w4 ⟨rfl, b4⟩
      have B4 : Hid (Below w.heap.size w w4) := B3.out.trans (b4.mono B3.out.size)
      have M3' := Lib.hid (M3.out.up b4)
      have M2'' := Lib.hid (M2'.out.up b4)
      have KR1 := Lib.hid (KR.out w4 B4.out)
      clear KF1 b4 B3 M3 M2' KR
      go_wp2_with fail
      refine KR1.out.mono ?_
      rintro e w5 ⟨rfl, b5⟩
      have B5 : Hid (Below w.heap.size w w5) := B4.out.trans (b5.mono B4.out.size)
      have KS1 := Lib.hid (KS.out A2 A3 c2 c3 w5 (M2''.out.up b5) (M3'.out.up b5))
      clear KR1 b5 B4 M3' M2'' KS
      go_wp2_with fail
      refine KS1.out.mono ?_
      rintro e w6 ⟨rfl, b6⟩
      have B6 : Hid (Below w.heap.size w w6) := B5.out.trans (b6.out.mono B5.out.size)
      have KA1 := Lib.hid (KA.out w6 B6.out)
      clear KS1 b6 B5 KA
      go_wp2_with fail
      refine KA1.out.mono ?_
      rintro e w8 ⟨rfl, b8⟩
      have B8 : Hid (Below w.heap.size w w8) := B6.out.trans (b8.out.mono B6.out.size)
      clear KA1 b8 B6
      go_wp2
      go_ret
      exact ⟨rfl, B8⟩
end Go.Proofs.YtdeppcddknakjaaGreatDoor.Mx
namespace Go.Proofs.YtdeppcddknakjaaGreatDoor.matcherText
open Go.ChangeShapes Go.WideShapes Go.ChangeAt Go.RowKit
open Go.ChangeMaps (open_string shut_string)
set_option linter.unusedVariables false

set_option maxRecDepth 100000 in
theorem lifted (os : Os) (started : os.Started) (H : Type) (enc : TypeId × Value → H) :
    ReturnsInHanded {} Tryz.checked os 4 .any (fun w args => (Rows.matcherTextSpec.pre enc Tryz.prog Tryz.f4 [] false w args ∧ laidMetH Tryz.prog Fr.laid3 w) ∧ sizedMet enc Tryz.prog Tryz.f4 (OpenSpec.ofChange Rows.matcherTextSpec) false w args)
      (Rows.matcherTextSpec.post enc Tryz.prog Tryz.f4 false true false false) := by
  refine Fr.handed (C := Tryz.checked) (X := fun w _ => laidMetH Tryz.prog Fr.laid3 w) (fun _ _ _ hh h => h.of_heap hh) Fr.own started (by kernel_rfl) Tryz.func4
    (ChangeSpec.witness_shaped (enc := enc) (C := Tryz.checked) (os := os) (X := fun w _ => laidMetH Tryz.prog Fr.laid3 w) false (World.laidAll Tryz.prog os Fr.laid3) #[.slice none 0 0, .string ByteArray.empty] 8 (World.laidAll_os _ _ _)
      (World.shaped_of_ZipB (by kernel_rfl) (by kernel_rfl)) (by kernel_rfl) (by kernel_rfl) (by kernel_rfl)
      (by rw [MakeChecks.laidMetH_plain _ _ _ (by kernel_rfl)]; exact laidMet_laidAll _ (by kernel_rfl) (by kernel_rfl))) ?_
  intro W base args ds gs before hval0 hW hL _
  have hval : ∀ (j : Nat) t v, Tryz.f4.params[j]? = some t → args[j]? = some v → Value.okWide Tryz.prog W .any base t v := hval0
  have hW' := hW
  obtain ⟨p, q, hA0, hV, rfl, hfz, hnd⟩ := hW
  have hA : DataW.TrodAll enc Tryz.prog W 0 (fun _ => true) true Tryz.f4.params.toList args.toList ds p := hA0
  rw [Tryz.params4] at hA hval
  obtain ⟨v0, vs0, d0, ds0, p0, q0, hargs, rfl, rfl, h0, r0⟩ := trodAll_cons hA
  obtain ⟨v1, vs1, d1, ds1, p1, q1, rfl, rfl, rfl, h1, r1⟩ := trodAll_cons r0
  obtain ⟨rfl, rfl, rfl⟩ := trodAll_nil r1
  obtain rfl : args = #[v0, v1] := by cases args; simp_all
  obtain ⟨rfl, rfl⟩ := trodVars_none hV
  have lt0 : ∀ x ∈ p0, x.block < W.heap.size := by obtain ⟨m, hm⟩ := h0; exact DataW.trod_lt m _ _ _ hm
  obtain ⟨A0, c0, l0, rfl, ok0, ms0⟩ := Fr.open_mts (hval 0 22 v0 rfl rfl) h0
  obtain ⟨a1, rfl, rfl, rfl, w1⟩ := open_string Tryz.underlying9 (hval 1 9 v1 rfl rfl) h1
  clear hA0 hval0
  refine (Mx.text_walk l0 ok0 A0 c0 a1 w1 W (Fr.ops3 hL) ms0).mono fun e W' ⟨he, hg⟩ => ?_
  subst he
  exact ⟨_, rfl, _, _, _, [], _, [], hW', trodAll_mk1 (shut_bool Tryz.underlying4 _), (trodAll_cons_mk (Below.trod Fr.laidOut (by kernel_rfl) (of_decide_eq_true (by kernel_rfl)) h0 hg.out lt0) (trodAll_cons_mk (shut_string Tryz.underlying9 w1) trodAll_mk0)), rfl, hg.out.frame _, fun h => by cases h⟩

theorem row_holds : Rows.MatcherTextSaid :=
  OpenClaim.holds_of_wide 4 Tryz.f4 rfl rfl rfl rfl rfl rfl rfl ⟨rfl, rfl, rfl, rfl, rfl⟩ rfl rfl rfl rfl rfl (by kernel_rfl) Tryz.func4 (by kernel_rfl)
    (of_decide_eq_true (by kernel_rfl)) (by unfold Func.isWrapper; first | (rw [if_pos (by decide +kernel)]; kernel_rfl) | (rw [if_neg (by decide +kernel)]; exact ⟨rfl, rfl⟩))
    (fun os started H enc _ => lifted os started H enc)
end Go.Proofs.YtdeppcddknakjaaGreatDoor.matcherText

namespace Go.Proofs.YtdeppcddknakjaaGreatDoor
open Go
/-- The statement. -/
theorem matcherText_holds : Rows.MatcherTextCardSaid :=
  Claim7.holds_tied_plain_at .later [] [.data, .data, .pinned] true (true, "126e80e8a37fb66c813ddb1f4b050526e7878a6494eb724fb5d42db2ec55942f") false
    matcherText.row_holds (fun _ h => by cases h) (by kernel_rfl) (fun _ h => by cases h) matcherText_row_tie rfl ⟨rfl, rfl⟩ (by kernel_rfl) rfl
    (fun f fn hf hfn => by
      obtain rfl : f = 4 := Option.some.inj ((show Tryz.prog.funcNamed "lookout/lookoutlaw07.MatcherText" = some 4 by kernel_rfl).symm.trans hf) |>.symm
      obtain rfl : fn = Tryz.f4 := (Option.some.inj (Tryz.func4.symm.trans hfn)).symm
      exact ⟨by kernel_rfl, fun j t ht => by
        rw [Tryz.params4] at ht
        have hm : t ∈ [22, 9] := by simpa using Array.mem_of_getElem? ht
        have hall : ([22, 9].all fun u => !Tryz.prog.wantsStandIn u) = true := by kernel_rfl
        exact (show Tryz.prog.wantsStandIn t = false by simpa using List.all_eq_true.1 hall t hm)⟩)
    (by kernel_rfl)
end Go.Proofs.YtdeppcddknakjaaGreatDoor
#print axioms Go.Proofs.YtdeppcddknakjaaGreatDoor.matcherText_holds
