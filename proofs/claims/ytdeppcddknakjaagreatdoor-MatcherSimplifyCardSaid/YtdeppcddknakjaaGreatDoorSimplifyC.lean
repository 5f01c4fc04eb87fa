
/- For every two lists of matchers, the law MatcherSimplify returns true: Simplify and Implies return the results of the reference; conditions: the listed variables hold what the program's text lays (tied). The frame is the guide's; the walk is ours. -/
import Derived.Test.YtdeppcddknakjaaGreatDoorCY
import Derived.Test.YtdeppcddknakjaaGreatDoorCWd
import Derived.Test.YtdeppcddknakjaaGreatDoorCards
import Derived.Test.YtdeppcddknakjaaGreatDoorTie
import Derived.Test.YtdeppcddknakjaaGreatDoorCFR
import Derived.SevenTiedAt
import Derived.ChangeOld
import Derived.Below
set_option maxRecDepth 100000
set_option linter.unusedVariables false
set_option linter.unusedSimpArgs false
namespace Go.Proofs.YtdeppcddknakjaaGreatDoor.Mx
open Go.RowKit
open Go.Proofs.YtdeppcddknakjaaGreatDoor.Rx (EmpP SameP pfxS ChkP check)
open Go.Proofs.YtdeppcddknakjaaGreatDoor.Lab (nameB getL Lb LS StrPost)
theorem par_ok {s : List UInt8} {m : List Mt} (h : parO s = (m, 0)) : chkA m = 0 ∧ txtM m = s := by
 unfold parO at h
 split at h
 ·rename_i h1
  split at h
  ·rename_i h2
   injection h with h _
   subst h
   exact ⟨h2, h1⟩
  ·rename_i h2
   injection h with _ h
   exact absurd h h2
 ·injection h with _ h
  cases h
end Go.Proofs.YtdeppcddknakjaaGreatDoor.Mx
namespace Go.Proofs.YtdeppcddknakjaaGreatDoor.Mx
open Go.RowKit
open Go.Proofs.YtdeppcddknakjaaGreatDoor.Rx (EmpP SameP pfxS ChkP check)
open Go.Proofs.YtdeppcddknakjaaGreatDoor.Lab (nameB getL Lb LS StrPost)
theorem pair_SS {w V : World} {g : Nat} {A C : Option Addr} {c d : Nat} {a b : List Mt} (hm : MS w w.heap.size A a) (hm2 : MS w w.heap.size C b) (ha : Sz' a) (hb' : Sz' b) (hb : Below w.heap.size w V) (hc : V.cell? ⟨g, 0, none⟩ = some (.slice A a.length c)) (hd : V.cell? ⟨g, 1, none⟩ = some (.slice C b.length d)) : SSl V g [⟨A, c, a⟩, ⟨C, d, b⟩] := fun j hj => by
 have hj' : j = 0 ∨ j = 1 := by simp at hj; omega
 rcases hj' with rfl | rfl
 ·exact ⟨hc, hm.up hb, ha⟩
 ·exact ⟨hd, hm2.up hb, hb'⟩
theorem simO_sg {l : List Mt} (h : Sg l) : Sg ((simO l).getD []) := by
 unfold simO
 split
 ·cases hs : simA l with
  | none => exact Sg.nil
  | some s => exact h.sim hs
 ·exact Sg.nil
set_option maxHeartbeats 8000000 in
theorem simplify_walk (a : List Mt) (ha : Sz' a) (A : Option Addr) (c : Nat) (b : List Mt) (hb' : Sz' b) (D : Option Addr) (d : Nat) (w : World) (hO : OpsW w) (hA : MS w w.heap.size A a) (hD : MS w w.heap.size D b) :
  Calls Tryz.prog 5 #[.slice A a.length c, .slice D b.length d] w (EmpP true w) := by
 have B0 : Hid (Below w.heap.size w (w.alloc (.cells #[.slice A a.length c, .slice D b.length d] 22))) := (Below.refl _ _).alloc (Nat.le_refl _) _
 have hcell := heap_alloc_new w (.cells #[.slice A a.length c, .slice D b.length d] 22)
 have KG := Lib.hid (great_any [⟨A, c, a⟩, ⟨D, d, b⟩] (show 2 ≤ 100 by omega) w.heap.size 2 (w.alloc (.cells #[.slice A a.length c, .slice D b.length d] 22)) (pair_SS hA hD ha hb' B0.out (by rw [cell_of_row _ _ _ _ _ _ hcell]; rfl) (by rw [cell_of_row _ _ _ _ _ _ hcell]; rfl)))
 clear hcell
 have KA := Lib.hid (fun w1 (hb : Below w.heap.size w w1) => awake_any w1 (hO.up hb))
 have hany : ([(⟨A, c, a⟩ : Ls), ⟨D, d, b⟩].any fun x => greatM x.l) = (greatM a || greatM b) := by simp
 rw [hany] at KG
 clear hany
 cases hg : (greatM a || greatM b) with
 | true =>
  rw [hg] at KG
  have KA1 := Lib.hid (KA.out _ B0.out)
  clear hg hA hD KA
  go_enter Tryz.func5, Tryz.ntmps5
  go_wp2_with fail
  refine KG.out.mono ?_
  rintro e w0 ⟨rfl, rfl⟩
  go_wp2_with fail
  refine KA1.out.mono ?_
  rintro e w9 ⟨rfl, b9⟩
  have B9 : Hid (Below w.heap.size w w9) := B0.out.trans (b9.out.mono B0.out.size)
  clear KA1 b9
  go_wp2
  go_ret
  exact ⟨rfl, B9⟩
 | false =>
  rw [hg] at KG
  rw [Bool.or_eq_false_iff] at hg
  have hsa := (great_sg hg.1).2
  have hsb := (great_sg hg.2).2
  have hss := simO_sg hsa
  have KP := Lib.hid (simplify_any a hsa.ok A c _ (hA.up B0.out))
  have KQ := Lib.hid (fun w1 (hb : Below w.heap.size w w1) => refSimplify_any a (by have := hsa.len; omega) (fun m hm => ⟨by have := hsa.n m hm; omega, by have := hsa.v m hm; omega⟩) A c w1 (hA.up hb))
  have KI := Lib.hid (fun w1 (hb : Below w.heap.size w w1) => implies_any a b hsa.ok hsb.ok A c D d w1 (hA.up hb) (hD.up hb))
  have KJ := Lib.hid (fun w1 (hb : Below w.heap.size w w1) => refImplies_any a b hsa hsb A D c d w1 (hA.up hb) (hD.up hb))
  obtain ⟨r, hr⟩ : ∃ r, simO a = r := ⟨_, rfl⟩
  rw [hr] at KP KQ hss
  unfold SimP at KP KQ
  obtain ⟨m', hm'⟩ : ∃ m', r.getD [] = m' := ⟨_, rfl⟩
  obtain ⟨ok, hok⟩ : ∃ ok, r.isSome = ok := ⟨_, rfl⟩
  rw [hm'] at KP KQ hss
  rw [hok] at KP KQ
  have KS := Lib.hid (fun C D c d w1 (h1 : MS w1 w1.heap.size C m') (h2 : MS w1 w1.heap.size D m') => refSame_any m' m' hss.ok.max hss.ok.max C D c d w1 h1 h2)
  rw [decide_eq_true (rfl : m' = m')] at KS
  have hoo : (ok == ok) = true := beq_self_eq_true ok
  generalize impO a b = im at *
  have hii : (im == im) = true := beq_self_eq_true im
  clear hg hA hD hO hsa hsb hss hr hm' hok
  go_enter Tryz.func5, Tryz.ntmps5
  go_wp2_with fail
  refine KG.out.mono ?_
  rintro e w1 ⟨rfl, rfl⟩
  clear KG
  go_wp2_with fail
  refine KP.out.mono ?_
  rintro e w2 ⟨v2, rfl, o2, b2⟩
  have B2 : Hid (Below w.heap.size w w2) := B0.out.trans (b2.out.mono B0.out.size)
  obtain ⟨A2, c2, rfl, m2⟩ := o2.out.form
  have M2 := Lib.hid m2
  have KQ1 := Lib.hid (KQ.out w2 B2.out)
  clear KP o2 b2 m2 B0 KQ
  go_wp2_with fail
  refine KQ1.out.mono ?_
  rintro e w3 ⟨v3, rfl, o3, b3⟩
  have B3 : Hid (Below w.heap.size w w3) := B2.out.trans (b3.out.mono B2.out.size)
  obtain ⟨A3, c3, rfl, m3⟩ := o3.out.form
  have M2' := Lib.hid (M2.out.up b3.out)
  have KS1 := Lib.hid (KS.out A2 A3 c2 c3 w3 M2'.out m3)
  clear KQ1 o3 b3 m3 B2 M2 M2' KS
  go_wp2_with fail
  refine KS1.out.mono ?_
  rintro e w4 ⟨rfl, b4⟩
  have B4 : Hid (Below w.heap.size w w4) := B3.out.trans (b4.out.mono B3.out.size)
  have KI1 := Lib.hid (KI.out w4 B4.out)
  clear KS1 b4 B3 KI
  go_wp2_with fail
  refine KI1.out.mono ?_
  rintro e w5 ⟨rfl, b5⟩
  have B5 : Hid (Below w.heap.size w w5) := B4.out.trans (b5.out.mono B4.out.size)
  have KJ1 := Lib.hid (KJ.out w5 B5.out)
  clear KI1 b5 B4 KJ
  go_wp2_with fail
  refine KJ1.out.mono ?_
  rintro e w6 ⟨rfl, b6⟩
  have B6 : Hid (Below w.heap.size w w6) := B5.out.trans (b6.out.mono B5.out.size)
  have KA1 := Lib.hid (KA.out w6 B6.out)
  clear KJ1 b6 B5 KA
  go_wp2_with fail
  refine KA1.out.mono ?_
  rintro e w8 ⟨rfl, b8⟩
  have B8 : Hid (Below w.heap.size w w8) := B6.out.trans (b8.out.mono B6.out.size)
  clear KA1 b8 B6
  go_wp2
  go_ret
  exact ⟨rfl, B8⟩
end Go.Proofs.YtdeppcddknakjaaGreatDoor.Mx
namespace Go.Proofs.YtdeppcddknakjaaGreatDoor.matcherSimplify
open Go.ChangeShapes Go.WideShapes Go.ChangeAt Go.RowKit
open Go.ChangeMaps (open_string shut_string)
set_option linter.unusedVariables false

set_option maxRecDepth 100000 in
theorem lifted (os : Os) (started : os.Started) (H : Type) (enc : TypeId × Value → H) :
  ReturnsInHanded {} Tryz.checked os 5 .any (fun w args => (Rows.matcherSimplifySpec.pre enc Tryz.prog Tryz.f5 [] false w args ∧ laidMetH Tryz.prog Fr.laid3 w) ∧ sizedMet enc Tryz.prog Tryz.f5 (OpenSpec.ofChange Rows.matcherSimplifySpec) false w args)
   (Rows.matcherSimplifySpec.post enc Tryz.prog Tryz.f5 false true false false) := by
 refine Fr.handed (C := Tryz.checked) (X := fun w _ => laidMetH Tryz.prog Fr.laid3 w) (fun _ _ _ hh h => h.of_heap hh) Fr.own started (by kernel_rfl) Tryz.func5
  (ChangeSpec.witness_shaped (enc := enc) (C := Tryz.checked) (os := os) (X := fun w _ => laidMetH Tryz.prog Fr.laid3 w) false (World.laidAll Tryz.prog os Fr.laid3) #[.slice none 0 0, .slice none 0 0] 8 (World.laidAll_os _ _ _)
   (World.shaped_of_ZipB (by kernel_rfl) (by kernel_rfl)) (by kernel_rfl) (by kernel_rfl) (by kernel_rfl)
   (by rw [MakeChecks.laidMetH_plain _ _ _ (by kernel_rfl)]; exact laidMet_laidAll _ (by kernel_rfl) (by kernel_rfl))) ?_
 intro W base args ds gs before hval0 hW hL _
 have hval : ∀ (j : Nat) t v, Tryz.f5.params[j]? = some t → args[j]? = some v → Value.okWide Tryz.prog W .any base t v := hval0
 have hW' := hW
 obtain ⟨p, q, hA0, hV, rfl, hfz, hnd⟩ := hW
 have hA : DataW.TrodAll enc Tryz.prog W 0 (fun _ => true) true Tryz.f5.params.toList args.toList ds p := hA0
 rw [Tryz.params5] at hA hval
 obtain ⟨v0, vs0, d0, ds0, p0, q0, hargs, rfl, rfl, h0, r0⟩ := trodAll_cons hA
 obtain ⟨v1, vs1, d1, ds1, p1, q1, rfl, rfl, rfl, h1, r1⟩ := trodAll_cons r0
 obtain ⟨rfl, rfl, rfl⟩ := trodAll_nil r1
 obtain rfl : args = #[v0, v1] := by cases args; simp_all
 obtain ⟨rfl, rfl⟩ := trodVars_none hV
 have lt0 : ∀ x ∈ p0, x.block < W.heap.size := by obtain ⟨m, hm⟩ := h0; exact DataW.trod_lt m _ _ _ hm
 obtain ⟨A0, c0, l0, rfl, ok0, ms0⟩ := Fr.open_mts (hval 0 22 v0 rfl rfl) h0
 have lt1 : ∀ x ∈ p1, x.block < W.heap.size := by obtain ⟨m, hm⟩ := h1; exact DataW.trod_lt m _ _ _ hm
 obtain ⟨A1, c1, l1, rfl, ok1, ms1⟩ := Fr.open_mts (hval 1 22 v1 rfl rfl) h1
 clear hA0 hval0
 refine (Mx.simplify_walk l0 ok0 A0 c0 l1 ok1 A1 c1 W (Fr.ops3 hL) ms0 ms1).mono fun e W' ⟨he, hg⟩ => ?_
 subst he
 exact ⟨_, rfl, _, _, _, [], _, [], hW', trodAll_mk1 (shut_bool Tryz.underlying4 _), (trodAll_cons_mk (Below.trod Fr.laidOut (by kernel_rfl) (of_decide_eq_true (by kernel_rfl)) h0 hg.out lt0) (trodAll_cons_mk (Below.trod Fr.laidOut (by kernel_rfl) (of_decide_eq_true (by kernel_rfl)) h1 hg.out lt1) trodAll_mk0)), rfl, hg.out.frame _, fun h => by cases h⟩

theorem row_holds : Rows.MatcherSimplifySaid :=
 OpenClaim.holds_of_wide 5 Tryz.f5 rfl rfl rfl rfl rfl rfl rfl ⟨rfl, rfl, rfl, rfl, rfl⟩ rfl rfl rfl rfl rfl (by kernel_rfl) Tryz.func5 (by kernel_rfl)
  (of_decide_eq_true (by kernel_rfl)) (by unfold Func.isWrapper; first | (rw [if_pos (by decide +kernel)]; kernel_rfl) | (rw [if_neg (by decide +kernel)]; exact ⟨rfl, rfl⟩))
  (fun os started H enc _ => lifted os started H enc)
end Go.Proofs.YtdeppcddknakjaaGreatDoor.matcherSimplify

namespace Go.Proofs.YtdeppcddknakjaaGreatDoor
open Go
/-- The statement. -/
theorem matcherSimplify_holds : Rows.MatcherSimplifyCardSaid :=
 Claim7.holds_tied_plain_at .later [] [.data, .data, .pinned] true (true, "126e80e8a37fb66c813ddb1f4b050526e7878a6494eb724fb5d42db2ec55942f") false
  matcherSimplify.row_holds (fun _ h => by cases h) (by kernel_rfl) (fun _ h => by cases h) matcherSimplify_row_tie rfl ⟨rfl, rfl⟩ (by kernel_rfl) rfl
  (fun f fn hf hfn => by
   obtain rfl : f = 5 := Option.some.inj ((show Tryz.prog.funcNamed "lookout/lookoutlaw07.MatcherSimplify" = some 5 by kernel_rfl).symm.trans hf) |>.symm
   obtain rfl : fn = Tryz.f5 := (Option.some.inj (Tryz.func5.symm.trans hfn)).symm
   exact ⟨by kernel_rfl, fun j t ht => by
    rw [Tryz.params5] at ht
    have hm : t ∈ [22, 22] := by simpa using Array.mem_of_getElem? ht
    have hall : ([22, 22].all fun u => !Tryz.prog.wantsStandIn u) = true := by kernel_rfl
    exact (show Tryz.prog.wantsStandIn t = false by simpa using List.all_eq_true.1 hall t hm)⟩)
  (by kernel_rfl)
end Go.Proofs.YtdeppcddknakjaaGreatDoor
#print axioms Go.Proofs.YtdeppcddknakjaaGreatDoor.matcherSimplify_holds
