/- For every list of matchers, every list of labels and every matcher, the law MatcherMatches returns true: Check, Matches and Negate return the reference results; conditions: the listed variables hold what the program's text lays (tied). The frame is the guide's; the walk is ours. -/
import Derived.Test.YtdeppcddknakjaaGreatDoorCY
import Derived.Test.YtdeppcddknakjaaGreatDoorCLb
import Derived.Test.YtdeppcddknakjaaGreatDoorCZ
import Derived.Test.YtdeppcddknakjaaGreatDoorCards
import Derived.Test.YtdeppcddknakjaaGreatDoorTie
import Derived.Test.YtdeppcddknakjaaGreatDoorCFR
import Derived.SevenTiedAt
import Derived.ChangeOld
import Derived.Below
set_option maxRecDepth 100000
set_option linter.unusedVariables false
set_option linter.unusedSimpArgs false
namespace Go.Proofs.YtdeppcddknakjaaGreatDoor.Mx
open Go.RowKit
open Go.Proofs.YtdeppcddknakjaaGreatDoor.Rx (EmpP SameP pfxS ChkP check)
open Go.Proofs.YtdeppcddknakjaaGreatDoor.Lab (nameB getL Lb LS StrPost)
/-- One list that lies in a new block. -/
theorem one_SS {w V : World} {g : Nat} {A : Option Addr} {c : Nat} {l : List Mt} (hm : MS w w.heap.size A l) (hl : Sz' l) (hb : Below w.heap.size w V) (hc : V.cell? ⟨g, 0, none⟩ = some (.slice A l.length c)) : SSl V g [⟨A, c, l⟩] := fun j hj => by
  obtain rfl : j = 0 := by simp at hj; omega
  exact ⟨hc, hm.up hb, hl⟩
/-- What a text parses to. -/
theorem name_word {s : ByteArray} (h : nameB s = true) : s.data.toList ≠ [] ∧ ∀ c ∈ s.data.toList, Lab.letterB c.toNat = true := by
  unfold nameB at h
  simp only [Bool.and_eq_true, decide_eq_true_eq, List.all_eq_true] at h
  refine ⟨fun e => ?_, h.1.2⟩
  have h2 := congrArg List.length e
  rw [Array.length_toList, List.length_nil] at h2
  have h3 : s.data.size = s.size := rfl
  omega
theorem good_of {l : List Mt} (h : chkA l = 0) : ∀ m ∈ l, GoodM m := fun m hm => by
  have h1 := (chkA_each h).2 m hm
  exact ⟨chk1_kind h1, name_word (chk1_name h1)⟩
theorem par_txt {l : List Mt} (h : chkA l = 0) : parO (txtM l) = (l, 0) := by
  unfold parO
  rw [rdA_txt (good_of h), if_pos rfl, if_pos h]
theorem par_ok {s : List UInt8} {m : List Mt} (h : parO s = (m, 0)) : chkA m = 0 ∧ txtM m = s := by
  unfold parO at h
  split at h
  · rename_i h1
    split at h
    · rename_i h2
      injection h with h _
      subst h
      exact ⟨h2, h1⟩
    · rename_i h2
      injection h with _ h
      exact absurd h h2
  · injection h with _ h
    cases h
theorem par_bad {s : List UInt8} {m : List Mt} {e : Int} (h : parO s = (m, e)) (he : e ≠ 0) : m = [] := by
  unfold parO at h
  split at h
  · split at h
    · injection h with _ h
      exact absurd h.symm he
    · injection h with h _
      exact h.symm
  · injection h with h _
    exact h.symm
theorem par_sg {s : List UInt8} (hs : s.length ≤ 200) {m : List Mt} {e : Int} (h : parO s = (m, e)) : Sg m := by
  obtain ⟨h1, h2⟩ := rdA_size s
  have hr : Sg (rdA s) := ⟨by omega, fun x hx => by have := (h2 x hx).1; omega, fun x hx => by have := (h2 x hx).2; omega⟩
  unfold parO at h
  split at h
  · split at h
    · injection h with h _
      subst h
      exact hr
    · injection h with h _
      subst h
      exact Sg.nil
  · injection h with h _
    subst h
    exact Sg.nil
theorem great_txt {l : List Mt} (h : greatM l = false) : (txtM l).length ≤ 10000 := by
  unfold greatM at h
  rw [Bool.or_eq_false_iff] at h
  have h1 := of_decide_eq_false h.2
  have h2 : ∀ m ∈ l, (mat1 m).length ≤ 467 := fun m hm => by
    have h3 := List.any_eq_false.1 h.1 m hm
    rw [Bool.not_eq_true] at h3
    unfold bigM at h3
    rw [Bool.or_eq_false_iff, Bool.or_eq_false_iff] at h3
    have h4 := of_decide_eq_false h3.1
    have h5 := of_decide_eq_false h3.2.2
    have h6 := mat1_len m
    omega
  have h3 := txtM_bd l 467 h2
  have h4 : l.length * (467 + 1) ≤ 17 * 468 := Nat.mul_le_mul (by omega) (Nat.le_refl _)
  omega
end Go.Proofs.YtdeppcddknakjaaGreatDoor.Mx
namespace Go.Proofs.YtdeppcddknakjaaGreatDoor.Mx
open Go.RowKit
open Go.Proofs.YtdeppcddknakjaaGreatDoor.Rx (EmpP SameP pfxS ChkP check)
open Go.Proofs.YtdeppcddknakjaaGreatDoor.Lab (nameB getL Lb LS StrPost greatL refGreat_any Sm great_sm)
theorem sm_lz {ls : List Lb} (h : Sm ls) : Lz ls := ⟨by have := h.len; omega, fun x hx => by have := (h.sz x hx).2; omega⟩
theorem val_of {l : List Mt} (h : chkA l = 0) : Val l := (chkA_each h).2
theorem chk_sim {l s : List Mt} (h : chkA l = 0) (hs : simA l = some s) : chkA s = 0 := chkA_zero.2 ⟨Nat.le_trans (simA_some hs).2.2.2 (chkA_each h).1, simA_val (val_of h) hs⟩
theorem mat_chk {l : List Mt} (h : chkA l = 0) (ls : List Lb) : matA l ls = satG l (getL ls) := by unfold matA; rw [decide_eq_true h, Bool.true_and]
end Go.Proofs.YtdeppcddknakjaaGreatDoor.Mx
namespace Go.Proofs.YtdeppcddknakjaaGreatDoor.Mx
open Go.RowKit
open Go.Sort (grow)
open Go.Proofs.YtdeppcddknakjaaGreatDoor.Rx (EmpP SameP pfxS ChkP check)
open Go.Proofs.YtdeppcddknakjaaGreatDoor.Lab (nameB getL Lb LS StrPost greatL refGreat_any Sm great_sm)
theorem below_chk {P : Program} {f : FuncId} {args : Array Value} {w : World} {q : Int} (h : Calls P f args w (ChkP q w)) : Calls P f args w fun e w' => e = .returned (.int .i64 q) ∧ Below w.heap.size w w' := h.mono fun _ _ ⟨he, hb⟩ => ⟨he, hb.out⟩
theorem below_mt {P : Program} {f : FuncId} {args : Array Value} {w : World} {m : Mt} (h : Calls P f args w (MtP m w)) : Calls P f args w fun e w' => e = .returned (.agg #[.int .i64 m.k, .string m.n, .string m.v]) ∧ Below w.heap.size w w' := h.mono fun _ _ ⟨he, hb⟩ => ⟨he, hb.out⟩
set_option maxHeartbeats 16000000 in
theorem matches_walk (l : List Mt) (hl : Sz' l) (A : Option Addr) (c : Nat) (ls : List Lb) (hn : ls.length ≤ maxLen) (hz : ∀ x ∈ ls, x.n.size ≤ maxLen ∧ x.v.size ≤ maxLen) (C : Option Addr) (d : Nat) (x : Mt) (hxn : x.n.size ≤ maxLen) (hxv : x.v.size ≤ maxLen) (w : World) (hO : OpsW w) (hA : MS w w.heap.size A l) (hC : LS w w.heap.size C ls) :
    Calls Tryz.prog 3 #[.slice A l.length c, .slice C ls.length d, .agg #[.int .i64 x.k, .string x.n, .string x.v]] w (EmpP true w) := by
  obtain ⟨V, hV⟩ : ∃ V, V = w.alloc (.cells #[.int .i64 x.k, .string x.n, .string x.v] 25) := ⟨_, rfl⟩
  have BV : Hid (Below w.heap.size w V) := by rw [hV]; exact (Below.refl _ _).alloc (Nat.le_refl _) _
  obtain ⟨W, hW⟩ : ∃ W, W = V.alloc (.cells #[.slice A l.length c] 22) := ⟨_, rfl⟩
  have B0 : Hid (Below w.heap.size w W) := by rw [hW]; exact BV.out.alloc BV.out.size _
  have hsv : V.heap.size = w.heap.size + 1 := by rw [hV]; simp
  have hbox : W.heap[w.heap.size]? = some (.cells #[.int .i64 x.k, .string x.n, .string x.v] 25 (0, 0)) := by
    rw [hW, Below.heap_alloc V _ _ (by omega), hV]
    exact heap_alloc_new w _
  obtain ⟨x0, x1, x2⟩ := cell3 hbox
  have KG := Lib.hid (great_any [⟨A, c, l⟩] (show 1 ≤ 100 by omega) V.heap.size 1 W (one_SS hA hl B0.out (by rw [hW, cell_of_row _ _ _ _ _ _ (heap_alloc_new V _)]; rfl)))
  have hany : ([(⟨A, c, l⟩ : Ls)].any fun x => greatM x.l) = greatM l := by simp
  rw [hany] at KG
  have KA := Lib.hid (fun w1 (hb : Below w.heap.size w w1) => awake_any w1 (hO.up hb))
  have KL := Lib.hid (refGreat_any ls hn hz C d _ _ (LS_up hC B0.out))
  clear hany hbox
  rw [hsv] at KG
  cases hg : greatM l with
  | true =>
    rw [hg] at KG
    subst hW hV
    have KA1 := Lib.hid (KA.out _ B0.out)
    clear hg KL KA hA hC x0 x1 x2
    go_enter Tryz.func3, Tryz.ntmps3
    go_wp2_with fail
    refine KG.out.mono ?_
    rintro e w0 ⟨rfl, rfl⟩
    go_wp2_with fail
    refine KA1.out.mono ?_
    rintro e w9 ⟨rfl, b9⟩
    have B9 : Hid (Below w.heap.size w w9) := B0.out.trans (b9.out.mono B0.out.size)
    clear KA1 b9
    go_wp2
    go_ret
    exact ⟨rfl, B9⟩
  | false =>
    rw [hg] at KG
    cases hgl : greatL ls with
    | true =>
      rw [hgl] at KL
      subst hW hV
      have KA1 := Lib.hid (KA.out _ B0.out)
      clear hg hgl KA hA hC x0 x1 x2
      go_enter Tryz.func3, Tryz.ntmps3
      go_wp2_with fail
      refine KG.out.mono ?_
      rintro e w0 ⟨rfl, rfl⟩
      go_wp2_with fail
      refine KL.out.mono ?_
      rintro e w0 ⟨rfl, rfl⟩
      go_wp2_with fail
      refine KA1.out.mono ?_
      rintro e w9 ⟨rfl, b9⟩
      have B9 : Hid (Below w.heap.size w w9) := B0.out.trans (b9.out.mono B0.out.size)
      clear KA1 b9
      go_wp2
      go_ret
      exact ⟨rfl, B9⟩
    | false =>
      rw [hgl] at KL
      have hlz := sm_lz (great_sm hgl)
      have hok := (great_sg hg).2.ok
      have UB := fun dd os => B0.out.trans ((below_regrown W dd os).mono B0.out.size)
      have hq0 : ∀ dd os, (grow (redrawn W dd) os).cell? ⟨w.heap.size, 0, none⟩ = some (.int .i64 x.k) := fun dd os => cell_regrown x0 dd os
      have hq1 : ∀ dd os, (grow (redrawn W dd) os).cell? ⟨w.heap.size, 1, none⟩ = some (.string x.n) := fun dd os => cell_regrown x1 dd os
      have hq2 : ∀ dd os, (grow (redrawn W dd) os).cell? ⟨w.heap.size, 2, none⟩ = some (.string x.v) := fun dd os => cell_regrown x2 dd os
      have G1 : Hid (∀ dd os, Calls Tryz.prog 15 #[.slice A l.length c] (grow (redrawn W dd) os) fun e w' => e = .returned (.int .i64 (chkA l)) ∧ Below (grow (redrawn W dd) os).heap.size (grow (redrawn W dd) os) w') := fun dd os => below_chk (checkO_any l hok A c _ (hA.up (UB dd os)))
      have G2 : Hid (∀ dd os, Calls Tryz.prog 16 #[.slice A l.length c] (grow (redrawn W dd) os) fun e w' => e = .returned (.int .i64 (chkA l)) ∧ Below (grow (redrawn W dd) os).heap.size (grow (redrawn W dd) os) w') := fun dd os => below_chk (refCheck_any l hl A c _ (hA.up (UB dd os)))
      have G3 : Hid (∀ dd os, Calls Tryz.prog 17 #[.slice A l.length c, .slice C ls.length d] (grow (redrawn W dd) os) fun e w' => e = .returned (.bool (matA l ls)) ∧ Below (grow (redrawn W dd) os).heap.size (grow (redrawn W dd) os) w') := fun dd os => below_of (matches17 l hl ls hlz A C c d _ (hA.up (UB dd os)) (LS_up hC (UB dd os)))
      have G4 : Hid (∀ dd os, Calls Tryz.prog 18 #[.slice A l.length c, .slice C ls.length d] (grow (redrawn W dd) os) fun e w' => e = .returned (.bool (matA l ls)) ∧ Below (grow (redrawn W dd) os).heap.size (grow (redrawn W dd) os) w') := fun dd os => below_of (refMatches_any l hl ls hlz A C c d _ (hA.up (UB dd os)) (LS_up hC (UB dd os)))
      have G5 : Hid (∀ dd os, Calls Tryz.prog 19 #[.agg #[.int .i64 x.k, .string x.n, .string x.v]] (grow (redrawn W dd) os) fun e w' => e = .returned (.agg #[.int .i64 (neg x).k, .string (neg x).n, .string (neg x).v]) ∧ Below (grow (redrawn W dd) os).heap.size (grow (redrawn W dd) os) w') := fun dd os => below_mt (neg_any x _)
      have G6 : Hid (∀ dd os, Calls Tryz.prog 20 #[.agg #[.int .i64 x.k, .string x.n, .string x.v]] (grow (redrawn W dd) os) fun e w' => e = .returned (.agg #[.int .i64 (neg x).k, .string (neg x).n, .string (neg x).v]) ∧ Below (grow (redrawn W dd) os).heap.size (grow (redrawn W dd) os) w') := fun dd os => below_mt (refNeg_any x _)
      have G7 : Hid (∀ dd os, Calls Tryz.prog 14 #[] (grow (redrawn W dd) os) fun e w' => e = .returned (.bool true) ∧ Below (grow (redrawn W dd) os).heap.size (grow (redrawn W dd) os) w') := fun dd os => below_of (KA.out _ (UB dd os))
      have hne := fun w => eql_mt (neg x) (neg x) w
      simp only [decide_eq_true (rfl : neg x = neg x)] at hne
      have mixed : Tryz.prog.follows .mixedOrders = true := by kernel_rfl
      clear hg hgl UB hlz hok hA hC hO x0 x1 x2 KA hl hn hz hxn hxv
      generalize chkA l = q at *
      generalize matA l ls = r at *
      generalize neg x = y at *
      have hqq : (q == q) = true := beq_self_eq_true q
      have hrr : (r == r) = true := beq_self_eq_true r
      have HW := Lib.hid hW
      have HV := Lib.hid hV
      rw [hW, hV] at KG KL
      clear hW hV hsv
      go_enter Tryz.func3, Tryz.ntmps3
      go_wp2_with fail
      refine KG.out.mono ?_
      rintro e w0 ⟨rfl, rfl⟩
      go_wp2_with fail
      refine KL.out.mono ?_
      rintro e w0 ⟨rfl, rfl⟩
      go_wp2_with fail
      rw [← HV.out, ← HW.out]
      refine wp_region_quiet_below (by assumption) (by kernel_rfl) ?_
      iterate 25 quiet_step (first | exact Calls.regrown_of (G1.out _ _) | exact Calls.regrown_of (G2.out _ _) | exact Calls.regrown_of (G3.out _ _) | exact Calls.regrown_of (G4.out _ _) | exact Calls.regrown_of (G5.out _ _) | exact Calls.regrown_of (G6.out _ _) | exact Calls.regrown_of (G7.out _ _))
      refine wpQuiet_nil ?_
      intro _ hw'
      obtain ⟨⟨dq, osq⟩, hw''⟩ := hw'
      subst hw''
      have HR : Hid (Below w.heap.size w (grow (redrawn W dq) osq)) := B0.out.trans ((below_regrown W dq osq).mono B0.out.size)
      generalize grow (redrawn W dq) osq = WZ at *
      go_wp2
      go_ret
      exact ⟨rfl, HR⟩
end Go.Proofs.YtdeppcddknakjaaGreatDoor.Mx
namespace Go.Proofs.YtdeppcddknakjaaGreatDoor.matcherMatches
open Go.ChangeShapes Go.WideShapes Go.ChangeAt Go.RowKit
open Go.ChangeMaps (open_string shut_string)
set_option linter.unusedVariables false

set_option maxRecDepth 100000 in
theorem lifted (os : Os) (started : os.Started) (H : Type) (enc : TypeId × Value → H) :
    ReturnsInHanded {} Tryz.checked os 3 .any (fun w args => (Rows.matcherMatchesSpec.pre enc Tryz.prog Tryz.f3 [] false w args ∧ laidMetH Tryz.prog Fr.laid3 w) ∧ sizedMet enc Tryz.prog Tryz.f3 (OpenSpec.ofChange Rows.matcherMatchesSpec) false w args)
      (Rows.matcherMatchesSpec.post enc Tryz.prog Tryz.f3 false true false false) := by
  refine Fr.handed (C := Tryz.checked) (X := fun w _ => laidMetH Tryz.prog Fr.laid3 w) (fun _ _ _ hh h => h.of_heap hh) Fr.own started (by kernel_rfl) Tryz.func3
    (ChangeSpec.witness_shaped (enc := enc) (C := Tryz.checked) (os := os) (X := fun w _ => laidMetH Tryz.prog Fr.laid3 w) false (World.laidAll Tryz.prog os Fr.laid3) #[.slice none 0 0, .slice none 0 0, .agg #[.int .i64 0, .string ByteArray.empty, .string ByteArray.empty]] 8 (World.laidAll_os _ _ _)
      (World.shaped_of_ZipB (by kernel_rfl) (by kernel_rfl)) (by kernel_rfl) (by kernel_rfl) (by kernel_rfl)
      (by rw [MakeChecks.laidMetH_plain _ _ _ (by kernel_rfl)]; exact laidMet_laidAll _ (by kernel_rfl) (by kernel_rfl))) ?_
  intro W base args ds gs before hval0 hW hL _
  have hval : ∀ (j : Nat) t v, Tryz.f3.params[j]? = some t → args[j]? = some v → Value.okWide Tryz.prog W .any base t v := hval0
  have hW' := hW
  obtain ⟨p, q, hA0, hV, rfl, hfz, hnd⟩ := hW
  have hA : DataW.TrodAll enc Tryz.prog W 0 (fun _ => true) true Tryz.f3.params.toList args.toList ds p := hA0
  rw [Tryz.params3] at hA hval
  obtain ⟨v0, vs0, d0, ds0, p0, q0, hargs, rfl, rfl, h0, r0⟩ := trodAll_cons hA
  obtain ⟨v1, vs1, d1, ds1, p1, q1, rfl, rfl, rfl, h1, r1⟩ := trodAll_cons r0
  obtain ⟨v2, vs2, d2, ds2, p2, q2, rfl, rfl, rfl, h2, r2⟩ := trodAll_cons r1
  obtain ⟨rfl, rfl, rfl⟩ := trodAll_nil r2
  obtain rfl : args = #[v0, v1, v2] := by cases args; simp_all
  obtain ⟨rfl, rfl⟩ := trodVars_none hV
  have lt0 : ∀ x ∈ p0, x.block < W.heap.size := by obtain ⟨m, hm⟩ := h0; exact DataW.trod_lt m _ _ _ hm
  obtain ⟨A0, c0, l0, rfl, ok0, ms0⟩ := Fr.open_mts (hval 0 22 v0 rfl rfl) h0
  have lt1 : ∀ x ∈ p1, x.block < W.heap.size := by obtain ⟨m, hm⟩ := h1; exact DataW.trod_lt m _ _ _ hm
  obtain ⟨A1, c1, l1, rfl, n1, z1, ms1⟩ := Fr.open_lbs (hval 1 23 v1 rfl rfl) h1
  have lt2 : ∀ x ∈ p2, x.block < W.heap.size := by obtain ⟨m, hm⟩ := h2; exact DataW.trod_lt m _ _ _ hm
  obtain ⟨x2, rfl, n2, z2⟩ := Fr.open_mt (hval 2 25 v2 rfl rfl) h2
  clear hA0 hval0
  refine (Mx.matches_walk l0 ok0 A0 c0 l1 n1 z1 A1 c1 x2 n2 z2 W (Fr.ops3 hL) ms0 ms1).mono fun e W' ⟨he, hg⟩ => ?_
  subst he
  exact ⟨_, rfl, _, _, _, [], _, [], hW', trodAll_mk1 (shut_bool Tryz.underlying4 _), (trodAll_cons_mk (Below.trod Fr.laidOut (by kernel_rfl) (of_decide_eq_true (by kernel_rfl)) h0 hg.out lt0) (trodAll_cons_mk (Below.trod Fr.laidOut (by kernel_rfl) (of_decide_eq_true (by kernel_rfl)) h1 hg.out lt1) (trodAll_cons_mk (Below.trod Fr.laidOut (by kernel_rfl) (of_decide_eq_true (by kernel_rfl)) h2 hg.out lt2) trodAll_mk0))), rfl, hg.out.frame _, fun h => by cases h⟩

theorem row_holds : Rows.MatcherMatchesSaid :=
  OpenClaim.holds_of_wide 3 Tryz.f3 rfl rfl rfl rfl rfl rfl rfl ⟨rfl, rfl, rfl, rfl, rfl⟩ rfl rfl rfl rfl rfl (by kernel_rfl) Tryz.func3 (by kernel_rfl)
    (of_decide_eq_true (by kernel_rfl)) (by unfold Func.isWrapper; first | (rw [if_pos (by decide +kernel)]; kernel_rfl) | (rw [if_neg (by decide +kernel)]; exact ⟨rfl, rfl⟩))
    (fun os started H enc _ => lifted os started H enc)
end Go.Proofs.YtdeppcddknakjaaGreatDoor.matcherMatches

namespace Go.Proofs.YtdeppcddknakjaaGreatDoor
open Go
/-- The statement. -/
theorem matcherMatches_holds : Rows.MatcherMatchesCardSaid :=
  Claim7.holds_tied_plain_at .later [] [.data, .data, .pinned] true (true, "126e80e8a37fb66c813ddb1f4b050526e7878a6494eb724fb5d42db2ec55942f") false
    matcherMatches.row_holds (fun _ h => by cases h) (by kernel_rfl) (fun _ h => by cases h) matcherMatches_row_tie rfl ⟨rfl, rfl⟩ (by kernel_rfl) rfl
    (fun f fn hf hfn => by
      obtain rfl : f = 3 := Option.some.inj ((show Tryz.prog.funcNamed "lookout/lookoutlaw07.MatcherMatches" = some 3 by kernel_rfl).symm.trans hf) |>.symm
      obtain rfl : fn = Tryz.f3 := (Option.some.inj (Tryz.func3.symm.trans hfn)).symm
      exact ⟨by kernel_rfl, fun j t ht => by
        rw [Tryz.params3] at ht
        have hm : t ∈ [22, 23, 25] := by simpa using Array.mem_of_getElem? ht
        have hall : ([22, 23, 25].all fun u => !Tryz.prog.wantsStandIn u) = true := by kernel_rfl
        exact (show Tryz.prog.wantsStandIn t = false by simpa using List.all_eq_true.1 hall t hm)⟩)
    (by kernel_rfl)
end Go.Proofs.YtdeppcddknakjaaGreatDoor
#print axioms Go.Proofs.YtdeppcddknakjaaGreatDoor.matcherMatches_holds
