/- For every two lists of matchers, the law MatcherDecides returns true: without regular expressions, a list that is not contradictory matches the labels of the witness, and one implies another exactly if it contradicts the negation of each matcher of that; conditions: the listed variables hold what the program's text lays (tied). The frame is the guide's; the walk is ours. -/
import Derived.Test.YtdeppcddknakjaaGreatDoorCY
import Derived.Deep.RegionLaw
import Derived.Test.YtdeppcddknakjaaGreatDoorCZ
import Derived.Test.YtdeppcddknakjaaGreatDoorCWg
import Derived.Test.YtdeppcddknakjaaGreatDoorCards
import Derived.Test.YtdeppcddknakjaaGreatDoorTie
import Derived.Test.YtdeppcddknakjaaGreatDoorCFR
import Derived.SevenTiedAt
import Derived.ChangeOld
import Derived.Below
set_option maxRecDepth 100000
set_option linter.unusedVariables false
set_option linter.unusedSimpArgs false
namespace Go.Proofs.YtdeppcddknakjaaGreatDoor.Mx
open Go.RowKit
open Go.Proofs.YtdeppcddknakjaaGreatDoor.Rx (EmpP SameP pfxS ChkP check)
open Go.Proofs.YtdeppcddknakjaaGreatDoor.Lab (nameB getL Lb LS StrPost)
/-- One list that lies in a new block. -/
theorem one_SS {w V : World} {g : Nat} {A : Option Addr} {c : Nat} {l : List Mt} (hm : MS w w.heap.size A l) (hl : Sz' l) (hb : Below w.heap.size w V) (hc : V.cell? ⟨g, 0, none⟩ = some (.slice A l.length c)) : SSl V g [⟨A, c, l⟩] := fun j hj => by
  obtain rfl : j = 0 := by simp at hj; omega
  exact ⟨hc, hm.up hb, hl⟩
/-- What a text parses to. -/
theorem name_word {s : ByteArray} (h : nameB s = true) : s.data.toList ≠ [] ∧ ∀ c ∈ s.data.toList, Lab.letterB c.toNat = true := by
  unfold nameB at h
  simp only [Bool.and_eq_true, decide_eq_true_eq, List.all_eq_true] at h
  refine ⟨fun e => ?_, h.1.2⟩
  have h2 := congrArg List.length e
  rw [Array.length_toList, List.length_nil] at h2
  have h3 : s.data.size = s.size := rfl
  omega
theorem good_of {l : List Mt} (h : chkA l = 0) : ∀ m ∈ l, GoodM m := fun m hm => by
  have h1 := (chkA_each h).2 m hm
  exact ⟨chk1_kind h1, name_word (chk1_name h1)⟩
theorem par_txt {l : List Mt} (h : chkA l = 0) : parO (txtM l) = (l, 0) := by
  unfold parO
  rw [rdA_txt (good_of h), if_pos rfl, if_pos h]
theorem par_ok {s : List UInt8} {m : List Mt} (h : parO s = (m, 0)) : chkA m = 0 ∧ txtM m = s := by
  unfold parO at h
  split at h
  · rename_i h1
    split at h
    · rename_i h2
      injection h with h _
      subst h
      exact ⟨h2, h1⟩
    · rename_i h2
      injection h with _ h
      exact absurd h h2
  · injection h with _ h
    cases h
theorem par_bad {s : List UInt8} {m : List Mt} {e : Int} (h : parO s = (m, e)) (he : e ≠ 0) : m = [] := by
  unfold parO at h
  split at h
  · split at h
    · injection h with _ h
      exact absurd h.symm he
    · injection h with h _
      exact h.symm
  · injection h with h _
    exact h.symm
theorem par_sg {s : List UInt8} (hs : s.length ≤ 200) {m : List Mt} {e : Int} (h : parO s = (m, e)) : Sg m := by
  obtain ⟨h1, h2⟩ := rdA_size s
  have hr : Sg (rdA s) := ⟨by omega, fun x hx => by have := (h2 x hx).1; omega, fun x hx => by have := (h2 x hx).2; omega⟩
  unfold parO at h
  split at h
  · split at h
    · injection h with h _
      subst h
      exact hr
    · injection h with h _
      subst h
      exact Sg.nil
  · injection h with h _
    subst h
    exact Sg.nil
theorem great_txt {l : List Mt} (h : greatM l = false) : (txtM l).length ≤ 10000 := by
  unfold greatM at h
  rw [Bool.or_eq_false_iff] at h
  have h1 := of_decide_eq_false h.2
  have h2 : ∀ m ∈ l, (mat1 m).length ≤ 467 := fun m hm => by
    have h3 := List.any_eq_false.1 h.1 m hm
    rw [Bool.not_eq_true] at h3
    unfold bigM at h3
    rw [Bool.or_eq_false_iff, Bool.or_eq_false_iff] at h3
    have h4 := of_decide_eq_false h3.1
    have h5 := of_decide_eq_false h3.2.2
    have h6 := mat1_len m
    omega
  have h3 := txtM_bd l 467 h2
  have h4 : l.length * (467 + 1) ≤ 17 * 468 := Nat.mul_le_mul (by omega) (Nat.le_refl _)
  omega
end Go.Proofs.YtdeppcddknakjaaGreatDoor.Mx
namespace Go
open Go.RowKit
/-- A slice of the call's own is appended to, at a step of a region that draws. -/
theorem step_append_own_ {P : Program} {w : World} {ops : Array Oper} {o : Oper} {a : Act} {K : Act → World → Prop} {Q : Exit → Act → World → Prop} {E : Prop} (hgd : o.guard = none) (s x : Operand) (t : TypeId)
    (ho : o.op = .call { callee := .builtin .append, args := #[s, x], argTypes := #[t, t] })
    (base : Nat) (e : TypeId) (i : TypeInfo) (z : Value) (size bytes : Nat) (ht : P.underlying t = some (.slice e)) (hi : P.info? e = some i) (hz : i.zero = some z)
    (hsize : i.size = size) (hby : i.bytes = bytes) (hzs : z.cells.size = size) (hsz : 0 < size)
    (v : Value) (n : Nat) (xs : List Value) (hs : a.eval s = v) (hown : w.ownsRow base e size v n xs)
    (ad : Addr) (m c : Nat) (news : List Value) (hx : a.eval x = .slice (some ad) m c) (hl : news.length = m * size) (hnews : ∀ j u, news[j]? = some u → w.cell? (ad.add j) = some u) (h1 : ∀ u ∈ news, u.oneCell' = true)
    (h63 : n + m ≤ maxLen) (hbytes : (n + m) * bytes ≤ 140737488355328) (hbase : base ≤ w.heap.size)
    (h : ∀ v' w', w'.ownsRow base e size v' (n + m) (xs ++ news) → w.grownBy w' v.ownBlock → (v' = .slice none 0 0 ↔ v = .slice none 0 0 ∧ m = 0) → K (a.put o.dst v') w') :
    if Region.wanted o (yielded ops a.tmps) = true then Oper.wp P o a w K Q else E := by
  have hw : Region.wanted o (yielded ops a.tmps) = true := by simp [Region.wanted, hgd]
  rw [if_pos hw]
  exact wp_append_own w s x t ho base e i z size bytes ht hi hz hsize hby hzs hsz v n xs hs hown ad m c news hx hl hnews h1 h63 hbytes hbase h
end Go
namespace Go.Proofs.YtdeppcddknakjaaGreatDoor.Mx
open Go.RowKit
open Go.Proofs.YtdeppcddknakjaaGreatDoor.Rx (EmpP SameP pfxS ChkP check)
open Go.Proofs.YtdeppcddknakjaaGreatDoor.Lab (nameB getL Lb LS StrPost)
theorem own_below_ {w w' : World} {B n : Nat} {v : Value} {xs : List Value} (h : w.ownsRow B 25 3 v n xs) (hb : Below w.heap.size w w') : w'.ownsRow B 25 3 v n xs := by
  refine ⟨h.1, ?_⟩
  rcases h.2 with h0 | ⟨g, cap, cur, e, h1, h2, h3⟩
  · exact .inl h0
  · exact .inr ⟨g, cap, cur, e, h1, (hb.block g (by have := (World.ownsRow.lt h g (by rw [e]; rfl)).2; omega)).trans h2, h3⟩
theorem vals {l : List Mt} (h : chkA l = 0) : Val l := (chkA_each h).2
theorem lz_of {w : World} {v : Value} {ls : List Lb} {N : Nat} (h : LsAt w v ls N) (hN : N ≤ 1000) : Lz ls := ⟨by have := h.2.1; omega, h.2.2⟩
theorem mat_of {l : List Mt} (h : chkA l = 0) (ls : List Lb) : matA l ls = satG l (getL ls) := by unfold matA; rw [decide_eq_true h, Bool.true_and]
theorem chk_of_sim {l s : List Mt} (h : chkA l = 0) (hs : simA l = some s) : chkA s = 0 := chkA_zero.2 ⟨Nat.le_trans (simA_some hs).2.2.2 (chkA_each h).1, simA_val (vals h) hs⟩
theorem Sg.snoc {a : List Mt} (h : Sg a) (hl : a.length < 16) {m : Mt} (hm : chk1 m = 0) (hn : m.n.size ≤ 300) (hv : m.v.size ≤ 300) : Sg (a ++ [neg m]) := by
  have hk := chk1_kind hm
  refine ⟨by rw [List.length_append, List.length_singleton]; omega, fun x hx => ?_, fun x hx => ?_⟩
  · rcases List.mem_append.1 hx with hx | hx
    · exact h.n x hx
    · rw [List.mem_singleton.1 hx, neg_n hk.1 hk.2]; exact hn
  · rcases List.mem_append.1 hx with hx | hx
    · exact h.v x hx
    · rw [List.mem_singleton.1 hx, neg_v hk.1 hk.2]; exact hv
set_option maxHeartbeats 32000000 in
theorem decides_walk (a : List Mt) (ha : Sz' a) (A : Option Addr) (c : Nat) (b : List Mt) (hb' : Sz' b) (D : Option Addr) (d : Nat) (w : World) (hO : OpsW w) (hA : MS w w.heap.size A a) (hD : MS w w.heap.size D b) :
    Calls Tryz.prog 10 #[.slice A a.length c, .slice D b.length d] w (EmpP true w) := by
  obtain ⟨i0, hi, hz0, hz1, hz2⟩ := info_parts row25
  have KA := Lib.hid (fun w1 (hb : Below w.heap.size w w1) => awake_any w1 (hO.up hb))
  have KPA := Lib.hid (plain_any a ha A c w hA)
  have KPB := Lib.hid (fun w1 (hb : Below w.heap.size w w1) => plain_any b hb' D d w1 (hD.up hb))
  cases hpa : plainB a with
  | false =>
    rw [hpa] at KPA
    clear hpa KPB hA hD
    go_enter Tryz.func10, Tryz.ntmps10
    go_wp2_with fail
    refine KPA.out.mono ?_
    rintro e w1 ⟨rfl, b1⟩
    have KA1 := Lib.hid (KA.out _ b1.out)
    go_wp2_with fail
    refine KA1.out.mono ?_
    rintro e w9 ⟨rfl, b9⟩
    have B9 : Hid (Below w.heap.size w w9) := b1.out.trans (b9.out.mono b1.out.size)
    clear KA1 b9
    go_wp2
    go_ret
    exact ⟨rfl, B9⟩
  | true =>
    rw [hpa] at KPA
    cases hpb : plainB b with
    | false =>
      rw [hpb] at KPB
      clear hpa hpb hA hD
      go_enter Tryz.func10, Tryz.ntmps10
      go_wp2_with fail
      refine KPA.out.mono ?_
      rintro e w1 ⟨rfl, b1⟩
      have KPB1 := Lib.hid (KPB.out w1 b1.out)
      go_wp2_with fail
      refine KPB1.out.mono ?_
      rintro e w2 ⟨rfl, b2⟩
      have B2 : Hid (Below w.heap.size w w2) := b1.out.trans (b2.out.mono b1.out.size)
      have KA1 := Lib.hid (KA.out _ B2.out)
      go_wp2_with fail
      refine KA1.out.mono ?_
      rintro e w9 ⟨rfl, b9⟩
      have B9 : Hid (Below w.heap.size w w9) := B2.out.trans (b9.out.mono B2.out.size)
      clear KA1 b9
      go_wp2
      go_ret
      exact ⟨rfl, B9⟩
    | true =>
      rw [hpb] at KPB
      obtain ⟨ga, ca, pa⟩ := plainB_iff hpa
      obtain ⟨gb, cb, pb⟩ := plainB_iff hpb
      by_cases h16 : 16 ≤ a.length
      · have h16i : (16 : Int) ≤ (a.length : Int) := by omega
        clear hpa hpb hA hD ga gb ca cb pa pb
        go_enter Tryz.func10, Tryz.ntmps10
        go_wp2_with fail
        refine KPA.out.mono ?_
        rintro e w1 ⟨rfl, b1⟩
        have KPB1 := Lib.hid (KPB.out w1 b1.out)
        go_wp2_with fail
        refine KPB1.out.mono ?_
        rintro e w2 ⟨rfl, b2⟩
        have B2 : Hid (Below w.heap.size w w2) := b1.out.trans (b2.out.mono b1.out.size)
        have KA1 := Lib.hid (KA.out _ B2.out)
        go_wp2_with fail
        refine KA1.out.mono ?_
        rintro e w9 ⟨rfl, b9⟩
        have B9 : Hid (Below w.heap.size w w9) := B2.out.trans (b9.out.mono B2.out.size)
        clear KA1 b9
        go_wp2
        go_ret
        exact ⟨rfl, B9⟩
      · have h16i : ¬ (16 : Int) ≤ (a.length : Int) := by omega
        have hsa := (great_sg ga).2
        have hsb := (great_sg gb).2
        have hal : a.length ≤ 1000000 := by omega
        have hbl : b.length ≤ 300 := hsb.len
        have so : simO a = simA a := if_pos ca
        have KS := Lib.hid (fun w1 (hb : Below w.heap.size w w1) => simplify_any a hsa.ok A c w1 (hA.up hb))
        rw [so] at KS
        have KI := Lib.hid (fun w1 (hb : Below w.heap.size w w1) => implies_any a b hsa.ok hsb.ok A c D d w1 (hA.up hb) (hD.up hb))
        have i1 : impO a b = impA a b := by unfold impO; rw [decide_eq_true ca, decide_eq_true cb, Bool.true_and, Bool.true_and]
        rw [i1] at KI
        have KW := Lib.hid (fun w1 (hb : Below w.heap.size w w1) => witness_any a (by omega) (vals ca) A c w1 (hA.up hb))
        have KM := Lib.hid (fun ls (hz : Lz ls) C d w1 (hb : Below w.heap.size w w1) (hc : LS w1 w1.heap.size C ls) => matches17 a ha ls hz A C c d w1 (hA.up hb) hc)
        obtain ⟨f, hf⟩ : ∃ f : Mt → Bool, f = fun m => (simA (a ++ [neg m])).isNone := ⟨_, rfl⟩
        have HAL : Hid (b.all f = impA a b) := by
          show _ = _
          rw [hf, dec_eq (vals ca) (vals cb) pa pb]
        have HF : Hid (∀ m ∈ b, Ok (a ++ [neg m]) ∧ f m = !(simO (a ++ [neg m])).isSome) := fun m hm => by
          have hm1 := vals cb m hm
          refine ⟨(hsa.snoc (by omega) hm1 (hsb.n m hm) (hsb.v m hm)).ok, ?_⟩
          have hcc : chkA (a ++ [neg m]) = 0 := chkA_zero.2 ⟨by rw [List.length_append, List.length_singleton]; omega, (vals ca).snoc hm1⟩
          rw [hf, show simO (a ++ [neg m]) = simA (a ++ [neg m]) from if_pos hcc]
          show (simA (a ++ [neg m])).isNone = _
          cases simA (a ++ [neg m]) <;> rfl
        have HA := Lib.hid hA
        have HD := Lib.hid hD
        cases hs : simA a with
        | none =>
          rw [hs] at KS
          clear hs hpa hpb hA hD ga gb ca cb pa pb hsa hsb so i1 KW KM hf ha hb' h16
          go_enter Tryz.func10, Tryz.ntmps10
          go_wp2_with fail
          refine KPA.out.mono ?_
          rintro e w1 ⟨rfl, b1⟩
          have KPB1 := Lib.hid (KPB.out w1 b1.out)
          go_wp2_with fail
          refine KPB1.out.mono ?_
          rintro e w2 ⟨rfl, b2⟩
          have B2 : Hid (Below w.heap.size w w2) := b1.out.trans (b2.out.mono b1.out.size)
          have KS1 := Lib.hid (KS.out w2 B2.out)
          clear KPA KPB KPB1 b1 b2 KS
          go_wp2_with fail
          refine KS1.out.mono ?_
          rintro e w3 ⟨v3, rfl, o3, b3⟩
          have BL : Hid (Below w.heap.size w w3) := B2.out.trans (b3.out.mono B2.out.size)
          clear KS1 o3 b3 B2
          go_wp2_with fail
          go_loopw [7, 48] (fun vp vk wr => ∃ k : Nat, k ≤ b.length ∧ vk = .int .i64 k ∧ vp = .bool ((b.take k).all f) ∧ Hid (Below w.heap.size w wr)) (fun _ vk _ => b.length - (intOf vk).toNat)
          case atStart => exact ⟨0, by omega, rfl, by simp, BL⟩
          case round =>
            clear BL
            obtain ⟨k, hk, rfl, rfl, HB⟩ := hrel
            by_cases hlt : k < b.length
            · obtain ⟨bb, off, rfl, hbb, h1', h2', h3'⟩ := HD.out.at_ hlt
              have h1 := (HB.out.cell (p := ⟨bb, off + k * 3, none⟩) hbb).trans h1'
              have h2 := (HB.out.cell (p := ⟨bb, off + k * 3 + 1, none⟩) hbb).trans h2'
              have h3 := (HB.out.cell (p := ⟨bb, off + k * 3 + 2, none⟩) hbb).trans h3'
              clear h1' h2' h3'
              have HNX : Hid ((b.take (k + 1)).all f = ((b.take k).all f && f b[k])) := by
                show _ = _
                rw [List.take_succ_eq_append_getElem hlt, List.all_append]
                simp
              have HFX := Lib.hid (HF.out b[k] (List.getElem_mem hlt))
              generalize (b.take k).all f = p at *
              generalize b[k] = x at *
              obtain ⟨W, hW⟩ : ∃ W, W = wr.alloc (.cells #[.int .i64 x.k, .string x.n, .string x.v] 25) := ⟨_, rfl⟩
              have BX : Hid (Below w.heap.size w W) := by rw [hW]; exact HB.out.alloc HB.out.size _
              have HBK : Hid (W.heap[wr.heap.size]? = some (.cells #[.int .i64 x.k, .string x.n, .string x.v] 25 (0, 0))) := by rw [hW]; exact heap_alloc_new wr _
              have hlt0 : wr.heap.size < W.heap.size := by rw [hW]; simp
              obtain ⟨d0, d1, d2⟩ := cell3 HBK.out
              have HWQ := Lib.hid hW
              have KN := Lib.hid (fun V => neg_any x V)
              have KCl := Lib.hid (fun V (hb : Below W.heap.size W V) => clone_any a hal A c V (HA.out.up (BX.out.trans (hb.mono BX.out.size))))
              have BD : Hid (Below W.heap.size W W.drew) := (Below.refl _ _).drew
              obtain ⟨y, hy⟩ : ∃ y, y = a ++ [neg x] := ⟨_, rfl⟩
              obtain ⟨hyo, hyf⟩ := HFX.out
              rw [← hy] at hyo hyf
              have KS2 := Lib.hid (fun V A c (hm : MS V V.heap.size A y) => simplify_any y hyo A c V hm)
              have HYC : Hid (∀ v5 (w5 : World), w5.ownsRow W.heap.size 25 3 v5 (a.length + 1) (cel a ++ [.int .i64 (neg x).k, .string (neg x).n, .string (neg x).v]) → OwnT w5 W.heap.size v5 y) := fun v5 w5 h => by
                rw [hy]
                exact OwnT.snoc h
              have HYF := Lib.hid hyf
              clear hW HB hy hyf hyo HFX
              generalize neg x = z at *
              generalize simO y = ry at *
              unfold SimP at KS2
              obtain ⟨rs, hrs⟩ : ∃ rs, ry.isSome = rs := ⟨_, rfl⟩
              rw [hrs] at KS2 HYF
              clear hrs
              go_wp2_with fail
              rw [← HWQ.out]
              go_region_law (first
                | (refine step_append_own_ (by rfl) (.tmp 54) (.tmp 57) 22 (by rfl) W.heap.size 25 i0 _ 3 40 Tryz.underlying22 hi hz0 hz1 hz2 rfl (by omega) vc a.length (cel a) (by rfl) (own_below_ On2.out ((Below.refl _ _).alloc (Nat.le_refl _) _)) ⟨wn.heap.size, 0, none⟩ 1 1 [.int .i64 z.k, .string z.n, .string z.v] (by rfl) (by rfl) (three_new wn _ _ _ _ _ rfl) (by simp [Value.oneCell']) (by unfold maxLen; omega) (by omega) ((Bn2.out.alloc Bn2.out.size _).size) ?_; intro v5 w5 o5 g5 n5; have B5 : Hid (Below W.heap.size W w5) := (Bn2.out.alloc Bn2.out.size _).grown g5 ((Bn2.out.alloc Bn2.out.size _).size) (fun q e => (World.ownsRow.lt (On2.out) q e).1); have O5 : Hid (OwnT w5 W.heap.size v5 y) := HYC.out v5 w5 o5; obtain ⟨A5, c5, rfl, m5⟩ := O5.out.form; have M5 := Lib.hid m5; clear m5)
                | (refine step_append_own_ (by rfl) (.tmp 54) (.tmp 57) 22 (by rfl) W.heap.size 25 i0 _ 3 40 Tryz.underlying22 hi hz0 hz1 hz2 rfl (by omega) vc a.length (cel a) (by rfl) (own_below_ Oc3.out ((Below.refl _ _).alloc (Nat.le_refl _) _)) ⟨wc.heap.size, 0, none⟩ 1 1 [.int .i64 z.k, .string z.n, .string z.v] (by rfl) (by rfl) (three_new wc _ _ _ _ _ rfl) (by simp [Value.oneCell']) (by unfold maxLen; omega) (by omega) ((Bc3.out.alloc Bc3.out.size _).size) ?_; intro v5 w5 o5 g5 n5; have B5 : Hid (Below W.heap.size W w5) := (Bc3.out.alloc Bc3.out.size _).grown g5 ((Bc3.out.alloc Bc3.out.size _).size) (fun q e => (World.ownsRow.lt (Oc3.out) q e).1); have O5 : Hid (OwnT w5 W.heap.size v5 y) := HYC.out v5 w5 o5; obtain ⟨A5, c5, rfl, m5⟩ := O5.out.form; have M5 := Lib.hid m5; clear m5)
                | (refine step_append_own_ (by rfl) (.tmp 54) (.tmp 57) 22 (by rfl) W.heap.size 25 i0 _ 3 40 Tryz.underlying22 hi hz0 hz1 hz2 rfl (by omega) vc a.length (cel a) (by rfl) (Oc4.out) ⟨wn.heap.size, 0, none⟩ 1 1 [.int .i64 z.k, .string z.n, .string z.v] (by rfl) (by rfl) (World.news_of_block X4.out) (by simp [Value.oneCell']) (by unfold maxLen; omega) (by omega) ((Bc4.out).size) ?_; intro v5 w5 o5 g5 n5; have B5 : Hid (Below W.heap.size W w5) := (Bc4.out).grown g5 ((Bc4.out).size) (fun q e => (World.ownsRow.lt (Oc4.out) q e).1); have O5 : Hid (OwnT w5 W.heap.size v5 y) := HYC.out v5 w5 o5; obtain ⟨A5, c5, rfl, m5⟩ := O5.out.form; have M5 := Lib.hid m5; clear m5)
                | (go_simp; go_wp2_with (first
                  | (go_at_call 30; (with_reducible refine (KCl.out _ (BD.out)).mono ?_); rintro e wc ⟨vc, rfl, oc, bc⟩; have Bc1 : Hid (Below W.heap.size W wc) := (BD.out).trans (bc.out.mono (BD.out).size); have Oc1 : Hid (wc.ownsRow W.heap.size 25 3 vc a.length (cel a)) := oc.out.more (BD.out).size; obtain ⟨cc0, cc1, cc2⟩ := cell3 ((Bc1.out.block _ hlt0).trans HBK.out))
                  | (go_at_call 19; (with_reducible refine (KN.out _).mono ?_); rintro e wn ⟨rfl, bn⟩; have Bn2 : Hid (Below W.heap.size W wn) := (Bc1.out).trans (bn.out.mono (Bc1.out).size); have On2 : Hid (wn.ownsRow W.heap.size 25 3 vc a.length (cel a)) := own_below_ Oc1.out bn.out)
                  | (go_at_call 19; (with_reducible refine (KN.out _).mono ?_); rintro e wn ⟨rfl, bn⟩; have Bn1 : Hid (Below W.heap.size W wn) := (BD.out).trans (bn.out.mono (BD.out).size))
                  | (go_at_call 30; (with_reducible refine (KCl.out _ (Bn1.out)).mono ?_); rintro e wc ⟨vc, rfl, oc, bc⟩; have Bc3 : Hid (Below W.heap.size W wc) := (Bn1.out).trans (bc.out.mono (Bn1.out).size); have Oc3 : Hid (wc.ownsRow W.heap.size 25 3 vc a.length (cel a)) := oc.out.more (Bn1.out).size; obtain ⟨cc0, cc1, cc2⟩ := cell3 ((Bc3.out.block _ hlt0).trans HBK.out))
                  | (go_at_call 30; (with_reducible refine (KCl.out _ (Bn1.out.alloc Bn1.out.size _)).mono ?_); rintro e wc ⟨vc, rfl, oc, bc⟩; have Bc4 : Hid (Below W.heap.size W wc) := (Bn1.out.alloc Bn1.out.size _).trans (bc.out.mono (Bn1.out.alloc Bn1.out.size _).size); have Oc4 : Hid (wc.ownsRow W.heap.size 25 3 vc a.length (cel a)) := oc.out.more (Bn1.out.alloc Bn1.out.size _).size; obtain ⟨cc0, cc1, cc2⟩ := cell3 ((Bc4.out.block _ hlt0).trans HBK.out); have X4 : Hid (wc.heap[wn.heap.size]? = some (.cells #[.int .i64 z.k, .string z.n, .string z.v] 25 (0, 0))) := (bc.out.block _ (by simp)).trans (heap_alloc_new wn _))
                  | (go_at_call 26; (with_reducible refine (KS2.out _ _ _ M5.out).mono ?_); rintro e w6 ⟨v6, rfl, o6, b6⟩; have B6 : Hid (Below W.heap.size W w6) := B5.out.trans (b6.out.mono B5.out.size)))))
              all_goals
                have B7 : Hid (Below w.heap.size w w6) := BX.out.trans (B6.out.mono BX.out.size)
                have HNZ := Lib.hid (HNX.out.trans (by rw [HYF.out]))
                clear HWQ KN KCl BD KS2 HYC d0 d1 d2 BX HBK
                try go_simp
                cases p
                · go_wp2_with fail
                  go_roundw
                  case rel => exact ⟨k + 1, by omega, by go_num, by rw [HNZ.out]; rfl, B7⟩
                  case measure => simp [intOf]; omega
                · go_wp2_with fail
                  go_roundw
                  case rel => exact ⟨k + 1, by omega, by go_num, by rw [HNZ.out]; rfl, B7⟩
                  case measure => simp [intOf]; omega
            · obtain rfl : k = b.length := by omega
              rw [List.take_length]
              have HQ : Hid (b.all f = impA a b) := HAL.out
              rw [HQ.out]
              have KI1 := Lib.hid (KI.out _ HB.out)
              clear HQ HAL
              generalize impA a b = im at *
              have hii : (im == im) = true := beq_self_eq_true im
              go_wp2_with fail
              refine KI1.out.mono ?_
              rintro e w7 ⟨rfl, b7⟩
              have B7 : Hid (Below w.heap.size w w7) := HB.out.trans (b7.out.mono HB.out.size)
              clear KI1 b7 HB
              have KA1 := Lib.hid (KA.out _ B7.out)
              go_wp2_with fail
              refine KA1.out.mono ?_
              rintro e w9 ⟨rfl, b9⟩
              have B9 : Hid (Below w.heap.size w w9) := B7.out.trans (b9.out.mono B7.out.size)
              clear KA1 b9
              go_wp2
              go_ret
              exact ⟨rfl, B9⟩
        | some s =>
          rw [hs] at KS
          have hss := hsa.sim hs
          have KM2 := Lib.hid (fun ls (hz : Lz ls) C d A c w1 (h1 : MS w1 w1.heap.size A s) (hc : LS w1 w1.heap.size C ls) => matches17 s hss.sz ls hz A C c d w1 h1 hc)
          have HM1 : Hid (∀ ls, Wb a a.length ls → matA a ls = true) := fun ls h => by
            rw [mat_of ca]
            exact h.wit.sat (vals ca).kinds pa (none_contra pa hs)
          have HM2 : Hid (∀ ls, Wb a a.length ls → matA s ls = true) := fun ls h => by
            rw [mat_of (chk_of_sim ca hs), simA_sat (vals ca) hs]
            exact h.wit.sat (vals ca).kinds pa (none_contra pa hs)
          have hal2 : a.length + a.length ≤ 1000 := by omega
          clear hs hpa hpb hA hD ga gb ca cb pa pb hsa hsb so i1 hf ha hb' h16 hss
          go_enter Tryz.func10, Tryz.ntmps10
          go_wp2_with fail
          refine KPA.out.mono ?_
          rintro e w1 ⟨rfl, b1⟩
          have KPB1 := Lib.hid (KPB.out w1 b1.out)
          go_wp2_with fail
          refine KPB1.out.mono ?_
          rintro e w2 ⟨rfl, b2⟩
          have B2 : Hid (Below w.heap.size w w2) := b1.out.trans (b2.out.mono b1.out.size)
          have KS1 := Lib.hid (KS.out w2 B2.out)
          clear KPA KPB KPB1 b1 b2 KS
          go_wp2_with fail
          refine KS1.out.mono ?_
          rintro e w3 ⟨v3, rfl, o3, b3⟩
          have B3 : Hid (Below w.heap.size w w3) := B2.out.trans (b3.out.mono B2.out.size)
          obtain ⟨A3, c3, rfl, m3⟩ := o3.out.form
          have M3 := Lib.hid m3
          have KW1 := Lib.hid (KW.out w3 B3.out)
          clear KS1 o3 b3 B2 m3
          go_wp2_with fail
          refine KW1.out.mono ?_
          rintro e w4 ⟨v4, ls4, rfl, l4, wb4, b4⟩
          have B4 : Hid (Below w.heap.size w w4) := B3.out.trans (b4.out.mono B3.out.size)
          have hz4 := lz_of l4.out hal2
          obtain ⟨C4, d4, rfl, hC4⟩ := l4.out.1
          have KM4 := Lib.hid (KM.out ls4 hz4 C4 d4 w4 B4.out hC4)
          rw [HM1.out ls4 wb4.out] at KM4
          have M4 := Lib.hid (M3.out.up b4.out)
          clear KW1 l4 wb4 b4 B3 M3 hz4 hC4
          go_wp2_with fail
          refine KM4.out.mono ?_
          rintro e w5 ⟨rfl, b5⟩
          have B5 : Hid (Below w.heap.size w w5) := B4.out.trans (b5.out.mono B4.out.size)
          have M5 := Lib.hid (M4.out.up b5.out)
          have KW2 := Lib.hid (KW.out w5 B5.out)
          clear KM4 b5 B4 M4 KW KM
          go_wp2_with fail
          refine KW2.out.mono ?_
          rintro e w6 ⟨v6, ls6, rfl, l6, wb6, b6⟩
          have B6 : Hid (Below w.heap.size w w6) := B5.out.trans (b6.out.mono B5.out.size)
          have hz6 := lz_of l6.out hal2
          obtain ⟨C6, d6, rfl, hC6⟩ := l6.out.1
          have KM6 := Lib.hid (KM2.out ls6 hz6 C6 d6 A3 c3 w6 (M5.out.up b6.out) hC6)
          rw [HM2.out ls6 wb6.out] at KM6
          clear KW2 l6 wb6 b6 B5 M5 hz6 hC6 KM2 HM1 HM2
          go_wp2_with fail
          refine KM6.out.mono ?_
          rintro e w8 ⟨rfl, b8⟩
          have BL : Hid (Below w.heap.size w w8) := B6.out.trans (b8.out.mono B6.out.size)
          clear KM6 b8 B6
          go_wp2_with fail
          go_loopw [7, 48] (fun vp vk wr => ∃ k : Nat, k ≤ b.length ∧ vk = .int .i64 k ∧ vp = .bool ((b.take k).all f) ∧ Hid (Below w.heap.size w wr)) (fun _ vk _ => b.length - (intOf vk).toNat)
          case atStart => exact ⟨0, by omega, rfl, by simp, BL⟩
          case round =>
            clear BL
            obtain ⟨k, hk, rfl, rfl, HB⟩ := hrel
            by_cases hlt : k < b.length
            · obtain ⟨bb, off, rfl, hbb, h1', h2', h3'⟩ := HD.out.at_ hlt
              have h1 := (HB.out.cell (p := ⟨bb, off + k * 3, none⟩) hbb).trans h1'
              have h2 := (HB.out.cell (p := ⟨bb, off + k * 3 + 1, none⟩) hbb).trans h2'
              have h3 := (HB.out.cell (p := ⟨bb, off + k * 3 + 2, none⟩) hbb).trans h3'
              clear h1' h2' h3'
              have HNX : Hid ((b.take (k + 1)).all f = ((b.take k).all f && f b[k])) := by
                show _ = _
                rw [List.take_succ_eq_append_getElem hlt, List.all_append]
                simp
              have HFX := Lib.hid (HF.out b[k] (List.getElem_mem hlt))
              generalize (b.take k).all f = p at *
              generalize b[k] = x at *
              obtain ⟨W, hW⟩ : ∃ W, W = wr.alloc (.cells #[.int .i64 x.k, .string x.n, .string x.v] 25) := ⟨_, rfl⟩
              have BX : Hid (Below w.heap.size w W) := by rw [hW]; exact HB.out.alloc HB.out.size _
              have HBK : Hid (W.heap[wr.heap.size]? = some (.cells #[.int .i64 x.k, .string x.n, .string x.v] 25 (0, 0))) := by rw [hW]; exact heap_alloc_new wr _
              have hlt0 : wr.heap.size < W.heap.size := by rw [hW]; simp
              obtain ⟨d0, d1, d2⟩ := cell3 HBK.out
              have HWQ := Lib.hid hW
              have KN := Lib.hid (fun V => neg_any x V)
              have KCl := Lib.hid (fun V (hb : Below W.heap.size W V) => clone_any a hal A c V (HA.out.up (BX.out.trans (hb.mono BX.out.size))))
              have BD : Hid (Below W.heap.size W W.drew) := (Below.refl _ _).drew
              obtain ⟨y, hy⟩ : ∃ y, y = a ++ [neg x] := ⟨_, rfl⟩
              obtain ⟨hyo, hyf⟩ := HFX.out
              rw [← hy] at hyo hyf
              have KS2 := Lib.hid (fun V A c (hm : MS V V.heap.size A y) => simplify_any y hyo A c V hm)
              have HYC : Hid (∀ v5 (w5 : World), w5.ownsRow W.heap.size 25 3 v5 (a.length + 1) (cel a ++ [.int .i64 (neg x).k, .string (neg x).n, .string (neg x).v]) → OwnT w5 W.heap.size v5 y) := fun v5 w5 h => by
                rw [hy]
                exact OwnT.snoc h
              have HYF := Lib.hid hyf
              clear hW HB hy hyf hyo HFX
              generalize neg x = z at *
              generalize simO y = ry at *
              unfold SimP at KS2
              obtain ⟨rs, hrs⟩ : ∃ rs, ry.isSome = rs := ⟨_, rfl⟩
              rw [hrs] at KS2 HYF
              clear hrs
              go_wp2_with fail
              rw [← HWQ.out]
              go_region_law (first
                | (refine step_append_own_ (by rfl) (.tmp 54) (.tmp 57) 22 (by rfl) W.heap.size 25 i0 _ 3 40 Tryz.underlying22 hi hz0 hz1 hz2 rfl (by omega) vc a.length (cel a) (by rfl) (own_below_ On2.out ((Below.refl _ _).alloc (Nat.le_refl _) _)) ⟨wn.heap.size, 0, none⟩ 1 1 [.int .i64 z.k, .string z.n, .string z.v] (by rfl) (by rfl) (three_new wn _ _ _ _ _ rfl) (by simp [Value.oneCell']) (by unfold maxLen; omega) (by omega) ((Bn2.out.alloc Bn2.out.size _).size) ?_; intro v5 w5 o5 g5 n5; have B5 : Hid (Below W.heap.size W w5) := (Bn2.out.alloc Bn2.out.size _).grown g5 ((Bn2.out.alloc Bn2.out.size _).size) (fun q e => (World.ownsRow.lt (On2.out) q e).1); have O5 : Hid (OwnT w5 W.heap.size v5 y) := HYC.out v5 w5 o5; obtain ⟨A5, c5, rfl, m5⟩ := O5.out.form; have M5 := Lib.hid m5; clear m5)
                | (refine step_append_own_ (by rfl) (.tmp 54) (.tmp 57) 22 (by rfl) W.heap.size 25 i0 _ 3 40 Tryz.underlying22 hi hz0 hz1 hz2 rfl (by omega) vc a.length (cel a) (by rfl) (own_below_ Oc3.out ((Below.refl _ _).alloc (Nat.le_refl _) _)) ⟨wc.heap.size, 0, none⟩ 1 1 [.int .i64 z.k, .string z.n, .string z.v] (by rfl) (by rfl) (three_new wc _ _ _ _ _ rfl) (by simp [Value.oneCell']) (by unfold maxLen; omega) (by omega) ((Bc3.out.alloc Bc3.out.size _).size) ?_; intro v5 w5 o5 g5 n5; have B5 : Hid (Below W.heap.size W w5) := (Bc3.out.alloc Bc3.out.size _).grown g5 ((Bc3.out.alloc Bc3.out.size _).size) (fun q e => (World.ownsRow.lt (Oc3.out) q e).1); have O5 : Hid (OwnT w5 W.heap.size v5 y) := HYC.out v5 w5 o5; obtain ⟨A5, c5, rfl, m5⟩ := O5.out.form; have M5 := Lib.hid m5; clear m5)
                | (refine step_append_own_ (by rfl) (.tmp 54) (.tmp 57) 22 (by rfl) W.heap.size 25 i0 _ 3 40 Tryz.underlying22 hi hz0 hz1 hz2 rfl (by omega) vc a.length (cel a) (by rfl) (Oc4.out) ⟨wn.heap.size, 0, none⟩ 1 1 [.int .i64 z.k, .string z.n, .string z.v] (by rfl) (by rfl) (World.news_of_block X4.out) (by simp [Value.oneCell']) (by unfold maxLen; omega) (by omega) ((Bc4.out).size) ?_; intro v5 w5 o5 g5 n5; have B5 : Hid (Below W.heap.size W w5) := (Bc4.out).grown g5 ((Bc4.out).size) (fun q e => (World.ownsRow.lt (Oc4.out) q e).1); have O5 : Hid (OwnT w5 W.heap.size v5 y) := HYC.out v5 w5 o5; obtain ⟨A5, c5, rfl, m5⟩ := O5.out.form; have M5 := Lib.hid m5; clear m5)
                | (go_simp; go_wp2_with (first
                  | (go_at_call 30; (with_reducible refine (KCl.out _ (BD.out)).mono ?_); rintro e wc ⟨vc, rfl, oc, bc⟩; have Bc1 : Hid (Below W.heap.size W wc) := (BD.out).trans (bc.out.mono (BD.out).size); have Oc1 : Hid (wc.ownsRow W.heap.size 25 3 vc a.length (cel a)) := oc.out.more (BD.out).size; obtain ⟨cc0, cc1, cc2⟩ := cell3 ((Bc1.out.block _ hlt0).trans HBK.out))
                  | (go_at_call 19; (with_reducible refine (KN.out _).mono ?_); rintro e wn ⟨rfl, bn⟩; have Bn2 : Hid (Below W.heap.size W wn) := (Bc1.out).trans (bn.out.mono (Bc1.out).size); have On2 : Hid (wn.ownsRow W.heap.size 25 3 vc a.length (cel a)) := own_below_ Oc1.out bn.out)
                  | (go_at_call 19; (with_reducible refine (KN.out _).mono ?_); rintro e wn ⟨rfl, bn⟩; have Bn1 : Hid (Below W.heap.size W wn) := (BD.out).trans (bn.out.mono (BD.out).size))
                  | (go_at_call 30; (with_reducible refine (KCl.out _ (Bn1.out)).mono ?_); rintro e wc ⟨vc, rfl, oc, bc⟩; have Bc3 : Hid (Below W.heap.size W wc) := (Bn1.out).trans (bc.out.mono (Bn1.out).size); have Oc3 : Hid (wc.ownsRow W.heap.size 25 3 vc a.length (cel a)) := oc.out.more (Bn1.out).size; obtain ⟨cc0, cc1, cc2⟩ := cell3 ((Bc3.out.block _ hlt0).trans HBK.out))
                  | (go_at_call 30; (with_reducible refine (KCl.out _ (Bn1.out.alloc Bn1.out.size _)).mono ?_); rintro e wc ⟨vc, rfl, oc, bc⟩; have Bc4 : Hid (Below W.heap.size W wc) := (Bn1.out.alloc Bn1.out.size _).trans (bc.out.mono (Bn1.out.alloc Bn1.out.size _).size); have Oc4 : Hid (wc.ownsRow W.heap.size 25 3 vc a.length (cel a)) := oc.out.more (Bn1.out.alloc Bn1.out.size _).size; obtain ⟨cc0, cc1, cc2⟩ := cell3 ((Bc4.out.block _ hlt0).trans HBK.out); have X4 : Hid (wc.heap[wn.heap.size]? = some (.cells #[.int .i64 z.k, .string z.n, .string z.v] 25 (0, 0))) := (bc.out.block _ (by simp)).trans (heap_alloc_new wn _))
                  | (go_at_call 26; (with_reducible refine (KS2.out _ _ _ M5.out).mono ?_); rintro e w6 ⟨v6, rfl, o6, b6⟩; have B6 : Hid (Below W.heap.size W w6) := B5.out.trans (b6.out.mono B5.out.size)))))
              all_goals
                have B7 : Hid (Below w.heap.size w w6) := BX.out.trans (B6.out.mono BX.out.size)
                have HNZ := Lib.hid (HNX.out.trans (by rw [HYF.out]))
                clear HWQ KN KCl BD KS2 HYC d0 d1 d2 BX HBK
                try go_simp
                cases p
                · go_wp2_with fail
                  go_roundw
                  case rel => exact ⟨k + 1, by omega, by go_num, by rw [HNZ.out]; rfl, B7⟩
                  case measure => simp [intOf]; omega
                · go_wp2_with fail
                  go_roundw
                  case rel => exact ⟨k + 1, by omega, by go_num, by rw [HNZ.out]; rfl, B7⟩
                  case measure => simp [intOf]; omega
            · obtain rfl : k = b.length := by omega
              rw [List.take_length]
              have HQ : Hid (b.all f = impA a b) := HAL.out
              rw [HQ.out]
              have KI1 := Lib.hid (KI.out _ HB.out)
              clear HQ HAL
              generalize impA a b = im at *
              have hii : (im == im) = true := beq_self_eq_true im
              go_wp2_with fail
              refine KI1.out.mono ?_
              rintro e w7 ⟨rfl, b7⟩
              have B7 : Hid (Below w.heap.size w w7) := HB.out.trans (b7.out.mono HB.out.size)
              clear KI1 b7 HB
              have KA1 := Lib.hid (KA.out _ B7.out)
              go_wp2_with fail
              refine KA1.out.mono ?_
              rintro e w9 ⟨rfl, b9⟩
              have B9 : Hid (Below w.heap.size w w9) := B7.out.trans (b9.out.mono B7.out.size)
              clear KA1 b9
              go_wp2
              go_ret
              exact ⟨rfl, B9⟩
end Go.Proofs.YtdeppcddknakjaaGreatDoor.Mx
namespace Go.Proofs.YtdeppcddknakjaaGreatDoor.matcherDecides
open Go.ChangeShapes Go.WideShapes Go.ChangeAt Go.RowKit
open Go.ChangeMaps (open_string shut_string)
set_option linter.unusedVariables false

set_option maxRecDepth 100000 in
theorem lifted (os : Os) (started : os.Started) (H : Type) (enc : TypeId × Value → H) :
    ReturnsInHanded {} Tryz.checked os 10 .any (fun w args => (Rows.matcherDecidesSpec.pre enc Tryz.prog Tryz.f10 [] false w args ∧ laidMetH Tryz.prog Fr.laid3 w) ∧ sizedMet enc Tryz.prog Tryz.f10 (OpenSpec.ofChange Rows.matcherDecidesSpec) false w args)
      (Rows.matcherDecidesSpec.post enc Tryz.prog Tryz.f10 false true false false) := by
  refine Fr.handed (C := Tryz.checked) (X := fun w _ => laidMetH Tryz.prog Fr.laid3 w) (fun _ _ _ hh h => h.of_heap hh) Fr.own started (by kernel_rfl) Tryz.func10
    (ChangeSpec.witness_shaped (enc := enc) (C := Tryz.checked) (os := os) (X := fun w _ => laidMetH Tryz.prog Fr.laid3 w) false (World.laidAll Tryz.prog os Fr.laid3) #[.slice none 0 0, .slice none 0 0] 8 (World.laidAll_os _ _ _)
      (World.shaped_of_ZipB (by kernel_rfl) (by kernel_rfl)) (by kernel_rfl) (by kernel_rfl) (by kernel_rfl)
      (by rw [MakeChecks.laidMetH_plain _ _ _ (by kernel_rfl)]; exact laidMet_laidAll _ (by kernel_rfl) (by kernel_rfl))) ?_
  intro W base args ds gs before hval0 hW hL _
  have hval : ∀ (j : Nat) t v, Tryz.f10.params[j]? = some t → args[j]? = some v → Value.okWide Tryz.prog W .any base t v := hval0
  have hW' := hW
  obtain ⟨p, q, hA0, hV, rfl, hfz, hnd⟩ := hW
  have hA : DataW.TrodAll enc Tryz.prog W 0 (fun _ => true) true Tryz.f10.params.toList args.toList ds p := hA0
  rw [Tryz.params10] at hA hval
  obtain ⟨v0, vs0, d0, ds0, p0, q0, hargs, rfl, rfl, h0, r0⟩ := trodAll_cons hA
  obtain ⟨v1, vs1, d1, ds1, p1, q1, rfl, rfl, rfl, h1, r1⟩ := trodAll_cons r0
  obtain ⟨rfl, rfl, rfl⟩ := trodAll_nil r1
  obtain rfl : args = #[v0, v1] := by cases args; simp_all
  obtain ⟨rfl, rfl⟩ := trodVars_none hV
  have lt0 : ∀ x ∈ p0, x.block < W.heap.size := by obtain ⟨m, hm⟩ := h0; exact DataW.trod_lt m _ _ _ hm
  obtain ⟨A0, c0, l0, rfl, ok0, ms0⟩ := Fr.open_mts (hval 0 22 v0 rfl rfl) h0
  have lt1 : ∀ x ∈ p1, x.block < W.heap.size := by obtain ⟨m, hm⟩ := h1; exact DataW.trod_lt m _ _ _ hm
  obtain ⟨A1, c1, l1, rfl, ok1, ms1⟩ := Fr.open_mts (hval 1 22 v1 rfl rfl) h1
  clear hA0 hval0
  refine (Mx.decides_walk l0 ok0 A0 c0 l1 ok1 A1 c1 W (Fr.ops3 hL) ms0 ms1).mono fun e W' ⟨he, hg⟩ => ?_
  subst he
  exact ⟨_, rfl, _, _, _, [], _, [], hW', trodAll_mk1 (shut_bool Tryz.underlying4 _), (trodAll_cons_mk (Below.trod Fr.laidOut (by kernel_rfl) (of_decide_eq_true (by kernel_rfl)) h0 hg.out lt0) (trodAll_cons_mk (Below.trod Fr.laidOut (by kernel_rfl) (of_decide_eq_true (by kernel_rfl)) h1 hg.out lt1) trodAll_mk0)), rfl, hg.out.frame _, fun h => by cases h⟩

theorem row_holds : Rows.MatcherDecidesSaid :=
  OpenClaim.holds_of_wide 10 Tryz.f10 rfl rfl rfl rfl rfl rfl rfl ⟨rfl, rfl, rfl, rfl, rfl⟩ rfl rfl rfl rfl rfl (by kernel_rfl) Tryz.func10 (by kernel_rfl)
    (of_decide_eq_true (by kernel_rfl)) (by unfold Func.isWrapper; first | (rw [if_pos (by decide +kernel)]; kernel_rfl) | (rw [if_neg (by decide +kernel)]; exact ⟨rfl, rfl⟩))
    (fun os started H enc _ => lifted os started H enc)
end Go.Proofs.YtdeppcddknakjaaGreatDoor.matcherDecides

namespace Go.Proofs.YtdeppcddknakjaaGreatDoor
open Go
/-- The statement. -/
theorem matcherDecides_holds : Rows.MatcherDecidesCardSaid :=
  Claim7.holds_tied_plain_at .later [] [.data, .data, .pinned] true (true, "126e80e8a37fb66c813ddb1f4b050526e7878a6494eb724fb5d42db2ec55942f") false
    matcherDecides.row_holds (fun _ h => by cases h) (by kernel_rfl) (fun _ h => by cases h) matcherDecides_row_tie rfl ⟨rfl, rfl⟩ (by kernel_rfl) rfl
    (fun f fn hf hfn => by
      obtain rfl : f = 10 := Option.some.inj ((show Tryz.prog.funcNamed "lookout/lookoutlaw07.MatcherDecides" = some 10 by kernel_rfl).symm.trans hf) |>.symm
      obtain rfl : fn = Tryz.f10 := (Option.some.inj (Tryz.func10.symm.trans hfn)).symm
      exact ⟨by kernel_rfl, fun j t ht => by
        rw [Tryz.params10] at ht
        have hm : t ∈ [22, 22] := by simpa using Array.mem_of_getElem? ht
        have hall : ([22, 22].all fun u => !Tryz.prog.wantsStandIn u) = true := by kernel_rfl
        exact (show Tryz.prog.wantsStandIn t = false by simpa using List.all_eq_true.1 hall t hm)⟩)
    (by kernel_rfl)
end Go.Proofs.YtdeppcddknakjaaGreatDoor
#print axioms Go.Proofs.YtdeppcddknakjaaGreatDoor.matcherDecides_holds
