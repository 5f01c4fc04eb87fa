/- For every matcher and every list of labels, the law MatcherNegate returns true: of a valid matcher and its negation exactly one matches, and the negation of the negation is the matcher; conditions: the listed variables hold what the program's text lays (tied). The frame is the guide's; the walk is ours. -/
import Derived.Test.YtdeppcddknakjaaGreatDoorCY
import Derived.Test.YtdeppcddknakjaaGreatDoorCLb
import Derived.Test.YtdeppcddknakjaaGreatDoorCards
import Derived.Test.YtdeppcddknakjaaGreatDoorTie
import Derived.Test.YtdeppcddknakjaaGreatDoorCFR
import Derived.SevenTiedAt
import Derived.ChangeOld
import Derived.Below
set_option maxRecDepth 100000
set_option linter.unusedVariables false
set_option linter.unusedSimpArgs false
namespace Go.Proofs.YtdeppcddknakjaaGreatDoor.Mx
open Go.RowKit
open Go.Proofs.YtdeppcddknakjaaGreatDoor.Rx (EmpP SameP pfxS ChkP check)
open Go.Proofs.YtdeppcddknakjaaGreatDoor.Lab (nameB getL Lb LS StrPost)
/-- One list that lies in a new block. -/
theorem one_SS {w V : World} {g : Nat} {A : Option Addr} {c : Nat} {l : List Mt} (hm : MS w w.heap.size A l) (hl : Sz' l) (hb : Below w.heap.size w V) (hc : V.cell? ⟨g, 0, none⟩ = some (.slice A l.length c)) : SSl V g [⟨A, c, l⟩] := fun j hj => by
  obtain rfl : j = 0 := by simp at hj; omega
  exact ⟨hc, hm.up hb, hl⟩
/-- What a text parses to. -/
theorem name_word {s : ByteArray} (h : nameB s = true) : s.data.toList ≠ [] ∧ ∀ c ∈ s.data.toList, Lab.letterB c.toNat = true := by
  unfold nameB at h
  simp only [Bool.and_eq_true, decide_eq_true_eq, List.all_eq_true] at h
  refine ⟨fun e => ?_, h.1.2⟩
  have h2 := congrArg List.length e
  rw [Array.length_toList, List.length_nil] at h2
  have h3 : s.data.size = s.size := rfl
  omega
theorem good_of {l : List Mt} (h : chkA l = 0) : ∀ m ∈ l, GoodM m := fun m hm => by
  have h1 := (chkA_each h).2 m hm
  exact ⟨chk1_kind h1, name_word (chk1_name h1)⟩
theorem par_txt {l : List Mt} (h : chkA l = 0) : parO (txtM l) = (l, 0) := by
  unfold parO
  rw [rdA_txt (good_of h), if_pos rfl, if_pos h]
theorem par_ok {s : List UInt8} {m : List Mt} (h : parO s = (m, 0)) : chkA m = 0 ∧ txtM m = s := by
  unfold parO at h
  split at h
  · rename_i h1
    split at h
    · rename_i h2
      injection h with h _
      subst h
      exact ⟨h2, h1⟩
    · rename_i h2
      injection h with _ h
      exact absurd h h2
  · injection h with _ h
    cases h
theorem par_bad {s : List UInt8} {m : List Mt} {e : Int} (h : parO s = (m, e)) (he : e ≠ 0) : m = [] := by
  unfold parO at h
  split at h
  · split at h
    · injection h with _ h
      exact absurd h.symm he
    · injection h with h _
      exact h.symm
  · injection h with h _
    exact h.symm
theorem par_sg {s : List UInt8} (hs : s.length ≤ 200) {m : List Mt} {e : Int} (h : parO s = (m, e)) : Sg m := by
  obtain ⟨h1, h2⟩ := rdA_size s
  have hr : Sg (rdA s) := ⟨by omega, fun x hx => by have := (h2 x hx).1; omega, fun x hx => by have := (h2 x hx).2; omega⟩
  unfold parO at h
  split at h
  · split at h
    · injection h with h _
      subst h
      exact hr
    · injection h with h _
      subst h
      exact Sg.nil
  · injection h with h _
    subst h
    exact Sg.nil
theorem great_txt {l : List Mt} (h : greatM l = false) : (txtM l).length ≤ 10000 := by
  unfold greatM at h
  rw [Bool.or_eq_false_iff] at h
  have h1 := of_decide_eq_false h.2
  have h2 : ∀ m ∈ l, (mat1 m).length ≤ 467 := fun m hm => by
    have h3 := List.any_eq_false.1 h.1 m hm
    rw [Bool.not_eq_true] at h3
    unfold bigM at h3
    rw [Bool.or_eq_false_iff, Bool.or_eq_false_iff] at h3
    have h4 := of_decide_eq_false h3.1
    have h5 := of_decide_eq_false h3.2.2
    have h6 := mat1_len m
    omega
  have h3 := txtM_bd l 467 h2
  have h4 : l.length * (467 + 1) ≤ 17 * 468 := Nat.mul_le_mul (by omega) (Nat.le_refl _)
  omega
end Go.Proofs.YtdeppcddknakjaaGreatDoor.Mx
namespace Go.Proofs.YtdeppcddknakjaaGreatDoor.Mx
open Go.RowKit
open Go.Proofs.YtdeppcddknakjaaGreatDoor.Rx (EmpP SameP pfxS ChkP check)
open Go.Proofs.YtdeppcddknakjaaGreatDoor.Lab (nameB getL Lb LS StrPost greatL refGreat_any Sm great_sm)
theorem sm_lz {ls : List Lb} (h : Sm ls) : Lz ls := ⟨by have := h.len; omega, fun x hx => by have := (h.sz x hx).2; omega⟩
theorem val_of {l : List Mt} (h : chkA l = 0) : Val l := (chkA_each h).2
theorem chk_sim {l s : List Mt} (h : chkA l = 0) (hs : simA l = some s) : chkA s = 0 := chkA_zero.2 ⟨Nat.le_trans (simA_some hs).2.2.2 (chkA_each h).1, simA_val (val_of h) hs⟩
theorem mat_chk {l : List Mt} (h : chkA l = 0) (ls : List Lb) : matA l ls = satG l (getL ls) := by unfold matA; rw [decide_eq_true h, Bool.true_and]
end Go.Proofs.YtdeppcddknakjaaGreatDoor.Mx
namespace Go.Proofs.YtdeppcddknakjaaGreatDoor.Mx
open Go.RowKit
open Go.Sort (grow)
open Go.Proofs.YtdeppcddknakjaaGreatDoor.Rx (EmpP SameP pfxS ChkP check)
open Go.Proofs.YtdeppcddknakjaaGreatDoor.Lab (nameB getL Lb LS StrPost greatL refGreat_any Sm great_sm)
theorem chk1_neg {m : Mt} (h : chk1 m = 0) : chk1 (neg m) = 0 ∧ neg (neg m) = m := by
  obtain ⟨k, n, v⟩ := m
  obtain ⟨h1, h2⟩ := chk1_kind h
  have hn := chk1_name h
  have hr := chk1_rx h
  have hz := chk1_sz h
  dsimp only at h1 h2 hn hr hz
  have hk : k = 1 ∨ k = 2 ∨ k = 3 ∨ k = 4 := by omega
  rcases hk with rfl | rfl | rfl | rfl
  · exact ⟨chk1_mk (show (1 : Int) ≤ 2 by omega) (show (2 : Int) ≤ 4 by omega) hn (fun h => absurd h (show ¬ (2 : Int) < 2 by omega)) (fun _ => hz (by omega)), rfl⟩
  · exact ⟨chk1_mk (show (1 : Int) ≤ 1 by omega) (show (1 : Int) ≤ 4 by omega) hn (fun h => absurd h (show ¬ (2 : Int) < 1 by omega)) (fun _ => hz (by omega)), rfl⟩
  · exact ⟨chk1_mk (show (1 : Int) ≤ 4 by omega) (show (4 : Int) ≤ 4 by omega) hn (fun _ => hr (by omega)) (fun h => absurd h (show ¬ (4 : Int) ≤ 2 by omega)), rfl⟩
  · exact ⟨chk1_mk (show (1 : Int) ≤ 3 by omega) (show (3 : Int) ≤ 4 by omega) hn (fun _ => hr (by omega)) (fun h => absurd h (show ¬ (3 : Int) ≤ 2 by omega)), rfl⟩
theorem chk_single {m : Mt} : chkA [m] = chk1 m := by
  unfold chkA
  rw [if_neg (by simp)]
  unfold chkM
  split
  · rename_i h; rw [h]; rfl
  · rfl
theorem one_MS (w : World) (m : Mt) : MS (w.alloc (.cells #[.int .i64 m.k, .string m.n, .string m.v] 25)) (w.heap.size + 1) (some ⟨w.heap.size, 0, none⟩) [m] := fun _ => by
  have h := heap_alloc_new w (.cells #[.int .i64 m.k, .string m.n, .string m.v] 25)
  refine ⟨w.heap.size, 0, rfl, Nat.lt_succ_self _, fun j hj => ?_⟩
  obtain rfl : j = 0 := by simp at hj; omega
  exact cell3 h
set_option maxHeartbeats 16000000 in
theorem negate_walk (x : Mt) (hxn : x.n.size ≤ maxLen) (hxv : x.v.size ≤ maxLen) (ls : List Lb) (hn : ls.length ≤ maxLen) (hz : ∀ y ∈ ls, y.n.size ≤ maxLen ∧ y.v.size ≤ maxLen) (C : Option Addr) (d : Nat) (w : World) (hO : OpsW w) (hC : LS w w.heap.size C ls) :
    Calls Tryz.prog 6 #[.agg #[.int .i64 x.k, .string x.n, .string x.v], .slice C ls.length d] w (EmpP true w) := by
  have hsz1 : Sz' [x] := ⟨by unfold maxLen; simp, fun m hm => by rw [List.mem_singleton] at hm; subst hm; exact ⟨hxn, hxv⟩⟩
  obtain ⟨V, hV⟩ : ∃ V, V = (w.alloc (.cells #[.int .i64 x.k, .string x.n, .string x.v] 25)).alloc (.cells #[.int .i64 x.k, .string x.n, .string x.v] 25) := ⟨_, rfl⟩
  have BV : Hid (Below w.heap.size w V) := by rw [hV]; exact two_alloc _ _ _ _ _
  have hsv : V.heap.size = w.heap.size + 1 + 1 := by rw [hV]; simp
  have MV : Hid (MS V V.heap.size (some ⟨w.heap.size + 1, 0, none⟩) [x]) := by
    have h := one_MS (w.alloc (.cells #[.int .i64 x.k, .string x.n, .string x.v] 25)) x
    rw [World.size_alloc] at h
    rw [hsv, hV]
    exact h
  obtain ⟨U, hU⟩ : ∃ U, U = V.alloc (.cells #[.slice (some ⟨w.heap.size + 1, 0, none⟩) 1 1] 22) := ⟨_, rfl⟩
  have BU : Hid (Below V.heap.size V U) := by rw [hU]; exact (Below.refl _ _).alloc (Nat.le_refl _) _
  have B0 : Hid (Below w.heap.size w U) := BV.out.trans (BU.out.mono BV.out.size)
  have hbox : V.heap[w.heap.size]? = some (.cells #[.int .i64 x.k, .string x.n, .string x.v] 25 (0, 0)) := by
    rw [hV, Below.heap_alloc _ _ _ (by simp)]
    exact heap_alloc_new w _
  have hboxU : U.heap[w.heap.size]? = some (.cells #[.int .i64 x.k, .string x.n, .string x.v] 25 (0, 0)) := by
    rw [BU.out.block _ (by omega)]
    exact hbox
  have KG := Lib.hid (great_any [⟨some ⟨w.heap.size + 1, 0, none⟩, 1, [x]⟩] (show 1 ≤ 100 by omega) V.heap.size 1 U (one_SS MV.out hsz1 BU.out (by rw [hU, cell_of_row _ _ _ _ _ _ (heap_alloc_new V _)]; rfl)))
  have hany : ([(⟨some ⟨w.heap.size + 1, 0, none⟩, 1, [x]⟩ : Ls)].any fun y => greatM y.l) = greatM [x] := by simp
  rw [hany, hsv] at KG
  have KA := Lib.hid (fun w1 (hb : Below w.heap.size w w1) => awake_any w1 (hO.up hb))
  have KL := Lib.hid (refGreat_any ls hn hz C d _ _ (LS_up hC B0.out))
  have KC := Lib.hid (refCheck_any [x] hsz1 (some ⟨w.heap.size + 1, 0, none⟩) 1 _ (MV.out.up BU.out))
  rw [chk_single] at KC
  clear hany hbox
  cases hg : greatM [x] with
  | true =>
    rw [hg] at KG
    subst hU hV
    have KA1 := Lib.hid (KA.out _ B0.out)
    clear hg KL KC KA hC hboxU MV BU BV hsv
    go_enter Tryz.func6, Tryz.ntmps6
    go_wp2_with fail
    refine KG.out.mono ?_
    rintro e w0 ⟨rfl, rfl⟩
    go_wp2_with fail
    refine KA1.out.mono ?_
    rintro e w9 ⟨rfl, b9⟩
    have B9 : Hid (Below w.heap.size w w9) := B0.out.trans (b9.out.mono B0.out.size)
    clear b9
    go_wp2
    go_ret
    exact ⟨rfl, B9⟩
  | false =>
    rw [hg] at KG
    cases hgl : greatL ls with
    | true =>
      rw [hgl] at KL
      subst hU hV
      have KA1 := Lib.hid (KA.out _ B0.out)
      clear hg hgl KC KA hC hboxU MV BU BV hsv
      go_enter Tryz.func6, Tryz.ntmps6
      go_wp2_with fail
      refine KG.out.mono ?_
      rintro e w0 ⟨rfl, rfl⟩
      go_wp2_with fail
      refine KL.out.mono ?_
      rintro e w0 ⟨rfl, rfl⟩
      go_wp2_with fail
      refine KA1.out.mono ?_
      rintro e w9 ⟨rfl, b9⟩
      have B9 : Hid (Below w.heap.size w w9) := B0.out.trans (b9.out.mono B0.out.size)
      clear b9
      go_wp2
      go_ret
      exact ⟨rfl, B9⟩
    | false =>
      rw [hgl] at KL
      by_cases hc : chk1 x = 0
      · rw [hc] at KC
        have hlz := sm_lz (great_sm hgl)
        obtain ⟨hc2, hnn⟩ := chk1_neg hc
        have hsz2 : Sz' [neg x] := ⟨by unfold maxLen; simp, fun m hm => by
          rw [List.mem_singleton] at hm; subst hm
          have h1 := (great_sg hg).2.n x (by simp)
          have h2 := (great_sg hg).2.v x (by simp)
          have e1 : (neg x).n = x.n ∧ (neg x).v = x.v := by
            have hk := chk1_kind hc
            unfold neg
            split
            · exact ⟨rfl, rfl⟩
            · split
              · exact ⟨rfl, rfl⟩
              · split
                · exact ⟨rfl, rfl⟩
                · split
                  · exact ⟨rfl, rfl⟩
                  · omega
          rw [e1.1, e1.2]
          unfold maxLen
          omega⟩
        have KX : Hid (∀ Wk, Below V.heap.size V Wk → Calls Tryz.prog 17 #[.slice (some ⟨w.heap.size + 1, 0, none⟩) 1 1, .slice C ls.length d] Wk (EmpP (matA [x] ls) Wk)) := (fun Wk (hb : Below V.heap.size V Wk) => matches17 [x] hsz1 ls hlz (some ⟨w.heap.size + 1, 0, none⟩) C 1 d Wk (MV.out.up hb) (LS_up hC (BV.out.trans (hb.mono BV.out.size))))
        have KY : Hid (∀ Wk V', Below V.heap.size V Wk → Below (Wk.alloc (.cells #[.int .i64 (neg x).k, .string (neg x).n, .string (neg x).v] 25)).heap.size (Wk.alloc (.cells #[.int .i64 (neg x).k, .string (neg x).n, .string (neg x).v] 25)) V' → Calls Tryz.prog 17 #[.slice (some ⟨Wk.heap.size, 0, none⟩) 1 1, .slice C ls.length d] V' (EmpP (matA [neg x] ls) V')) := fun Wk V' hb hb2 => by
          have hm : MS (Wk.alloc (.cells #[.int .i64 (neg x).k, .string (neg x).n, .string (neg x).v] 25)) (Wk.alloc (.cells #[.int .i64 (neg x).k, .string (neg x).n, .string (neg x).v] 25)).heap.size (some ⟨Wk.heap.size, 0, none⟩) [neg x] := by
            rw [World.size_alloc]
            exact one_MS Wk (neg x)
          have hw : Below w.heap.size w V' := (BV.out.trans (hb.mono BV.out.size)).trans ((((Below.refl _ _).alloc (Nat.le_refl _) _).trans (hb2.mono (by simp))).mono (Nat.le_trans BV.out.size hb.size))
          exact matches17 [neg x] hsz2 ls hlz _ C 1 d V' (hm.up hb2) (LS_up hC hw)
        have hcl : chkA [x] = 0 := by rw [chk_single]; exact hc
        have hcl2 : chkA [neg x] = 0 := by rw [chk_single]; exact hc2
        have hneg : matA [neg x] ls = !matA [x] ls := by
          rw [mat_chk hcl, mat_chk hcl2]
          unfold satG
          have hk := chk1_kind hc
          have e1 : (neg x).n = x.n := by
            unfold neg
            split
            · rfl
            · split
              · rfl
              · split
                · rfl
                · split
                  · rfl
                  · omega
          rw [List.all_cons, List.all_nil, List.all_cons, List.all_nil, Bool.and_true, Bool.and_true, e1, fits_neg hk.1 hk.2]
        have KN := Lib.hid (fun w => neg_any x w)
        have KN2 := Lib.hid (fun w => neg_any (neg x) w)
        rw [hnn] at KN2
        have hne := fun w => eql_mt x x w
        simp only [decide_eq_true (rfl : x = x)] at hne
        rw [hneg] at KY
        have KA2 := Lib.hid (fun Wk (hb : Below V.heap.size V Wk) => KA.out Wk (BV.out.trans (hb.mono BV.out.size)))
        have mixed : Tryz.prog.follows .mixedOrders = true := by kernel_rfl
        clear hneg hcl hcl2 hsz1 hsz2 hlz hc hc2 hnn hg hgl KA hC hO MV hn hz hxn hxv
        generalize matA [x] ls = r at *
        have hrr : (r != !r) = true := by cases r <;> rfl
        obtain ⟨x0, x1, x2⟩ := cell3 hboxU
        have hlt : w.heap.size < U.heap.size := (Array.getElem?_eq_some_iff.1 hboxU).1
        generalize neg x = y at *
        have HU := Lib.hid hU
        have HV := Lib.hid hV
        rw [hU, hV] at KG KL KC
        clear hU hV hsv hboxU
        go_enter Tryz.func6, Tryz.ntmps6
        go_wp2_with fail
        refine KG.out.mono ?_
        rintro e w0 ⟨rfl, rfl⟩
        go_wp2_with fail
        refine KL.out.mono ?_
        rintro e w0 ⟨rfl, rfl⟩
        go_wp2_with fail
        refine KC.out.mono ?_
        rintro e w1 ⟨rfl, b1⟩
        rw [← HV.out, ← HU.out] at b1
        have B1 : Hid (Below V.heap.size V w1) := BU.out.trans (b1.out.mono BU.out.size)
        have y0 := (b1.out.cell (p := ⟨w.heap.size, 0, none⟩) hlt).trans x0
        have y1 := (b1.out.cell (p := ⟨w.heap.size, 1, none⟩) hlt).trans x1
        have y2 := (b1.out.cell (p := ⟨w.heap.size, 2, none⟩) hlt).trans x2
        have hlt1 : w.heap.size < w1.heap.size := Nat.lt_of_lt_of_le hlt b1.out.size
        clear KG KL KC b1 x0 x1 x2
        go_wp2_with fail
        refine (KN.out _).mono ?_
        rintro e w2 ⟨rfl, b2⟩
        have z0 := (b2.out.cell (p := ⟨w.heap.size, 0, none⟩) hlt1).trans y0
        have z1 := (b2.out.cell (p := ⟨w.heap.size, 1, none⟩) hlt1).trans y1
        have z2 := (b2.out.cell (p := ⟨w.heap.size, 2, none⟩) hlt1).trans y2
        have B2 : Hid (Below V.heap.size V w2) := B1.out.trans (b2.out.mono B1.out.size)
        have hlt2 : w.heap.size < w2.heap.size := Nat.lt_of_lt_of_le hlt1 b2.out.size
        clear y0 y1 y2 b2 KN B1
        go_wp2_with fail
        obtain ⟨W, hW⟩ : ∃ W, W = w2.alloc (.cells #[.int .i64 y.k, .string y.n, .string y.v] 25) := ⟨_, rfl⟩
        have BW : Hid (Below V.heap.size V W) := by rw [hW]; exact B2.out.alloc B2.out.size _
        have bW : Below w2.heap.size w2 W := by rw [hW]; exact (Below.refl _ _).alloc (Nat.le_refl _) _
        have v0 := (bW.cell (p := ⟨w.heap.size, 0, none⟩) hlt2).trans z0
        have v1 := (bW.cell (p := ⟨w.heap.size, 1, none⟩) hlt2).trans z1
        have v2 := (bW.cell (p := ⟨w.heap.size, 2, none⟩) hlt2).trans z2
        have hwW : w.heap.size < W.heap.size := Nat.lt_of_lt_of_le hlt2 bW.size
        have hyb : W.heap[w2.heap.size]? = some (.cells #[.int .i64 y.k, .string y.n, .string y.v] 25 (0, 0)) := by rw [hW]; exact heap_alloc_new _ _
        obtain ⟨u0, u1, u2⟩ := cell3 hyb
        have hyW : w2.heap.size < W.heap.size := (Array.getElem?_eq_some_iff.1 hyb).1
        have hvw := BV.out.size
        rw [← hW]
        clear hW bW z0 z1 z2 hyb hlt2 B2
        have BVw := BV
        clear BV
        generalize w2.heap.size = gy at *
        go_region_with (first
          | (go_at_call 19; (with_reducible refine (KN2.out _).mono ?_); rintro e wa ⟨rfl, ba⟩; have Ba : Hid (Below W.heap.size W wa) := (by first | exact ba.out | exact (((Below.refl _ _).drew).trans ba.out)); obtain ⟨hc, hf⟩ := bcell Ba.out; have BV1 : Hid (Below V.heap.size V wa) := BW.out.trans (Ba.out.mono BW.out.size); have hle := Ba.out.size; clear ba)
          | (go_at_call 17; (with_reducible refine (KX.out _ (by first | exact BV3.out | exact BV1.out | exact (BV1.out.alloc BV1.out.size _))).mono ?_); rintro e wb ⟨rfl, bb⟩; have BV2 : Hid (Below V.heap.size V wb) := (by first | exact BV3.out.trans (bb.out.mono BV3.out.size) | exact BV1.out.trans (bb.out.mono BV1.out.size) | exact (BV1.out.alloc BV1.out.size _).trans (bb.out.mono (BV1.out.alloc BV1.out.size _).size)); have BC2 : Hid (Below W.heap.size W wb) := (by first | exact BC3.out.trans (bb.out.mono BC3.out.size) | exact Ba.out.trans (bb.out.mono Ba.out.size) | exact (Ba.out.alloc Ba.out.size _).trans (bb.out.mono (Ba.out.alloc Ba.out.size _).size)); obtain ⟨hc2, hf2⟩ := bcell BC2.out; have hle2 := BC2.out.size)
          | (go_at_call 17; (with_reducible refine (KY.out _ _ BV2.out (Below.refl _ _)).mono ?_); rintro e wc ⟨rfl, bc⟩; have BV3 : Hid (Below V.heap.size V wc) := (BV2.out.alloc BV2.out.size _).trans (bc.out.mono (BV2.out.alloc BV2.out.size _).size); have BC3 : Hid (Below W.heap.size W wc) := (BC2.out.alloc BC2.out.size _).trans (bc.out.mono (BC2.out.alloc BC2.out.size _).size))
          | (go_at_call 17; (with_reducible refine (KY.out _ _ BV1.out bb.out).mono ?_); rintro e wc ⟨rfl, bc⟩; have BV3 : Hid (Below V.heap.size V wc) := BV2.out.trans (bc.out.mono BV2.out.size); have BC3 : Hid (Below W.heap.size W wc) := BC2.out.trans (bc.out.mono BC2.out.size))
          | (go_at_call 17; (with_reducible refine (KY.out _ _ BV1.out (Below.refl _ _)).mono ?_); rintro e wc ⟨rfl, bc⟩; have BV3 : Hid (Below V.heap.size V wc) := (BV1.out.alloc BV1.out.size _).trans (bc.out.mono (BV1.out.alloc BV1.out.size _).size); have BC3 : Hid (Below W.heap.size W wc) := (Ba.out.alloc Ba.out.size _).trans (bc.out.mono (Ba.out.alloc Ba.out.size _).size))
          | (go_at_call 14; (with_reducible refine (KA2.out _ (by first | exact BV3.out | exact BV2.out)).mono ?_); rintro e wd ⟨rfl, bd⟩; have BV4 : Hid (Below V.heap.size V wd) := (by first | exact BV3.out.trans (bd.out.mono BV3.out.size) | exact BV2.out.trans (bd.out.mono BV2.out.size))))
        all_goals
          go_wp2
          go_ret
          exact ⟨rfl, BVw.out.trans (BV4.out.mono BVw.out.size)⟩
      · have e0 := bneF hc
        have e0' : (chk1 x != 0) = true := by rw [bne, e0]; rfl
        subst hU hV
        clear hg hgl hC hc hboxU MV BU BV hsv
        generalize chk1 x = q at *
        go_enter Tryz.func6, Tryz.ntmps6
        go_wp2_with fail
        refine KG.out.mono ?_
        rintro e w0 ⟨rfl, rfl⟩
        go_wp2_with fail
        refine KL.out.mono ?_
        rintro e w0 ⟨rfl, rfl⟩
        go_wp2_with fail
        refine KC.out.mono ?_
        rintro e w1 ⟨rfl, b1⟩
        have B1 : Hid (Below w.heap.size w w1) := B0.out.trans (b1.out.mono B0.out.size)
        have KA1 := Lib.hid (KA.out w1 B1.out)
        clear b1 B0 KG KL KC KA
        go_wp2_with fail
        refine KA1.out.mono ?_
        rintro e w9 ⟨rfl, b9⟩
        have B9 : Hid (Below w.heap.size w w9) := B1.out.trans (b9.out.mono B1.out.size)
        clear b9
        go_wp2
        go_ret
        exact ⟨rfl, B9⟩
end Go.Proofs.YtdeppcddknakjaaGreatDoor.Mx
namespace Go.Proofs.YtdeppcddknakjaaGreatDoor.matcherNegate
open Go.ChangeShapes Go.WideShapes Go.ChangeAt Go.RowKit
open Go.ChangeMaps (open_string shut_string)
set_option linter.unusedVariables false

set_option maxRecDepth 100000 in
theorem lifted (os : Os) (started : os.Started) (H : Type) (enc : TypeId × Value → H) :
    ReturnsInHanded {} Tryz.checked os 6 .any (fun w args => (Rows.matcherNegateSpec.pre enc Tryz.prog Tryz.f6 [] false w args ∧ laidMetH Tryz.prog Fr.laid3 w) ∧ sizedMet enc Tryz.prog Tryz.f6 (OpenSpec.ofChange Rows.matcherNegateSpec) false w args)
      (Rows.matcherNegateSpec.post enc Tryz.prog Tryz.f6 false true false false) := by
  refine Fr.handed (C := Tryz.checked) (X := fun w _ => laidMetH Tryz.prog Fr.laid3 w) (fun _ _ _ hh h => h.of_heap hh) Fr.own started (by kernel_rfl) Tryz.func6
    (ChangeSpec.witness_shaped (enc := enc) (C := Tryz.checked) (os := os) (X := fun w _ => laidMetH Tryz.prog Fr.laid3 w) false (World.laidAll Tryz.prog os Fr.laid3) #[.agg #[.int .i64 0, .string ByteArray.empty, .string ByteArray.empty], .slice none 0 0] 8 (World.laidAll_os _ _ _)
      (World.shaped_of_ZipB (by kernel_rfl) (by kernel_rfl)) (by kernel_rfl) (by kernel_rfl) (by kernel_rfl)
      (by rw [MakeChecks.laidMetH_plain _ _ _ (by kernel_rfl)]; exact laidMet_laidAll _ (by kernel_rfl) (by kernel_rfl))) ?_
  intro W base args ds gs before hval0 hW hL _
  have hval : ∀ (j : Nat) t v, Tryz.f6.params[j]? = some t → args[j]? = some v → Value.okWide Tryz.prog W .any base t v := hval0
  have hW' := hW
  obtain ⟨p, q, hA0, hV, rfl, hfz, hnd⟩ := hW
  have hA : DataW.TrodAll enc Tryz.prog W 0 (fun _ => true) true Tryz.f6.params.toList args.toList ds p := hA0
  rw [Tryz.params6] at hA hval
  obtain ⟨v0, vs0, d0, ds0, p0, q0, hargs, rfl, rfl, h0, r0⟩ := trodAll_cons hA
  obtain ⟨v1, vs1, d1, ds1, p1, q1, rfl, rfl, rfl, h1, r1⟩ := trodAll_cons r0
  obtain ⟨rfl, rfl, rfl⟩ := trodAll_nil r1
  obtain rfl : args = #[v0, v1] := by cases args; simp_all
  obtain ⟨rfl, rfl⟩ := trodVars_none hV
  have lt0 : ∀ x ∈ p0, x.block < W.heap.size := by obtain ⟨m, hm⟩ := h0; exact DataW.trod_lt m _ _ _ hm
  obtain ⟨x0, rfl, n0, z0⟩ := Fr.open_mt (hval 0 25 v0 rfl rfl) h0
  have lt1 : ∀ x ∈ p1, x.block < W.heap.size := by obtain ⟨m, hm⟩ := h1; exact DataW.trod_lt m _ _ _ hm
  obtain ⟨A1, c1, l1, rfl, n1, z1, ms1⟩ := Fr.open_lbs (hval 1 23 v1 rfl rfl) h1
  clear hA0 hval0
  refine (Mx.negate_walk x0 n0 z0 l1 n1 z1 A1 c1 W (Fr.ops3 hL) ms1).mono fun e W' ⟨he, hg⟩ => ?_
  subst he
  exact ⟨_, rfl, _, _, _, [], _, [], hW', trodAll_mk1 (shut_bool Tryz.underlying4 _), (trodAll_cons_mk (Below.trod Fr.laidOut (by kernel_rfl) (of_decide_eq_true (by kernel_rfl)) h0 hg.out lt0) (trodAll_cons_mk (Below.trod Fr.laidOut (by kernel_rfl) (of_decide_eq_true (by kernel_rfl)) h1 hg.out lt1) trodAll_mk0)), rfl, hg.out.frame _, fun h => by cases h⟩

theorem row_holds : Rows.MatcherNegateSaid :=
  OpenClaim.holds_of_wide 6 Tryz.f6 rfl rfl rfl rfl rfl rfl rfl ⟨rfl, rfl, rfl, rfl, rfl⟩ rfl rfl rfl rfl rfl (by kernel_rfl) Tryz.func6 (by kernel_rfl)
    (of_decide_eq_true (by kernel_rfl)) (by unfold Func.isWrapper; first | (rw [if_pos (by decide +kernel)]; kernel_rfl) | (rw [if_neg (by decide +kernel)]; exact ⟨rfl, rfl⟩))
    (fun os started H enc _ => lifted os started H enc)
end Go.Proofs.YtdeppcddknakjaaGreatDoor.matcherNegate

namespace Go.Proofs.YtdeppcddknakjaaGreatDoor
open Go
/-- The statement. -/
theorem matcherNegate_holds : Rows.MatcherNegateCardSaid :=
  Claim7.holds_tied_plain_at .later [] [.data, .data, .pinned] true (true, "126e80e8a37fb66c813ddb1f4b050526e7878a6494eb724fb5d42db2ec55942f") false
    matcherNegate.row_holds (fun _ h => by cases h) (by kernel_rfl) (fun _ h => by cases h) matcherNegate_row_tie rfl ⟨rfl, rfl⟩ (by kernel_rfl) rfl
    (fun f fn hf hfn => by
      obtain rfl : f = 6 := Option.some.inj ((show Tryz.prog.funcNamed "lookout/lookoutlaw07.MatcherNegate" = some 6 by kernel_rfl).symm.trans hf) |>.symm
      obtain rfl : fn = Tryz.f6 := (Option.some.inj (Tryz.func6.symm.trans hfn)).symm
      exact ⟨by kernel_rfl, fun j t ht => by
        rw [Tryz.params6] at ht
        have hm : t ∈ [25, 23] := by simpa using Array.mem_of_getElem? ht
        have hall : ([25, 23].all fun u => !Tryz.prog.wantsStandIn u) = true := by kernel_rfl
        exact (show Tryz.prog.wantsStandIn t = false by simpa using List.all_eq_true.1 hall t hm)⟩)
    (by kernel_rfl)
end Go.Proofs.YtdeppcddknakjaaGreatDoor
#print axioms Go.Proofs.YtdeppcddknakjaaGreatDoor.matcherNegate_holds
