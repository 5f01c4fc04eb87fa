/- Layer 7: plain and witness of the laws. -/
import Derived.Test.YtdeppcddknakjaaGreatDoorCY
import Derived.Test.YtdeppcddknakjaaGreatDoorCZ
set_option maxRecDepth 100000
set_option linter.unusedVariables false
set_option linter.unusedSimpArgs false
namespace Go.Proofs.YtdeppcddknakjaaGreatDoor.Mx
open Go.RowKit
open Go.Sort (grow)
open Go.Proofs.YtdeppcddknakjaaGreatDoor.Rx (EmpP SameP pfxS ChkP)
open Go.Proofs.YtdeppcddknakjaaGreatDoor.Lab (nameB getL Lb LS withL keepL insL withL_nil withL_ins keepL_len refWith_any OwnPost Own5)
theorem one_list {w V : World} {g : Nat} {A : Option Addr} {c : Nat} {l : List Mt} (hm : MS w w.heap.size A l) (hl : Sz' l) (hb : Below w.heap.size w V) (hc : V.cell? ⟨g, 0, none⟩ = some (.slice A l.length c)) : SSl V g [⟨A, c, l⟩] := fun j hj => by
  obtain rfl : j = 0 := by simp at hj; omega
  exact ⟨hc, hm.up hb, hl⟩
/-- Whether a list is small, valid and without regular expressions. -/
def plainB (l : List Mt) : Bool := !greatM l && (decide (chkA l = 0) && !(l.any fun x => decide (2 < x.k)))
theorem plainB_iff {l : List Mt} (h : plainB l = true) : greatM l = false ∧ chkA l = 0 ∧ Plain l := by
  unfold plainB at h
  rw [Bool.and_eq_true, Bool.and_eq_true, decide_eq_true_iff, Bool.not_eq_true', Bool.not_eq_true'] at h
  refine ⟨h.1, h.2.1, fun m hm => ?_⟩
  have h2 := List.any_eq_false.1 h.2.2 m hm
  rw [decide_eq_true_iff] at h2
  omega
set_option maxHeartbeats 1000000 in
theorem pl61 (x : Mt) (w : World) : Calls Tryz.prog 61 #[.agg #[.int .i64 x.k, .string x.n, .string x.v]] w (EmpP (decide (2 < x.k)) w) := by
  have HB : Hid (Below w.heap.size w (w.alloc (.cells #[.int .i64 x.k, .string x.n, .string x.v] 25))) := (Below.refl _ _).alloc (Nat.le_refl _) _
  go_enter Tryz.func61, Tryz.ntmps61
  go_wp2
  go_ret
  exact ⟨rfl, HB⟩
set_option maxHeartbeats 1000000 in
theorem wi63 (x : Mt) (n : ByteArray) (bx : Nat) (w : World) (h : w.cell? ⟨bx, 1, none⟩ = some (.string n)) : Calls Tryz.prog 63 #[.agg #[.int .i64 x.k, .string x.n, .string x.v], .pointer (some ⟨bx, 0, none⟩)] w (EmpP (decide (x.k = 1 ∧ x.n = n)) w) := by
  have hlt : bx < w.heap.size := World.block_lt_of_cell? w _ h
  have HB : Hid (Below w.heap.size w (w.alloc (.cells #[.int .i64 x.k, .string x.n, .string x.v] 25))) := (Below.refl _ _).alloc (Nat.le_refl _) _
  have h1 := ((Below.refl w.heap.size w).alloc (Nat.le_refl _) (.cells #[.int .i64 x.k, .string x.n, .string x.v] 25)).cell (p := ⟨bx, 1, none⟩) hlt
  rw [h] at h1
  by_cases hk : x.k = 1
  · have e1 := bneT hk
    have HE : Hid (decide (x.k = 1 ∧ x.n = n) = (x.n.toList == n.toList)) := by
      show _ = _
      rw [str_dec, decide_eq_decide]
      exact ⟨fun h => h.2, fun h => ⟨hk, h⟩⟩
    rw [HE.out]
    clear HE hk
    go_enter Tryz.func63, Tryz.ntmps63
    go_wp2
    go_ret
    exact ⟨rfl, HB⟩
  · have e1 := bneF hk
    have HE : Hid (decide (x.k = 1 ∧ x.n = n) = false) := decide_eq_false fun h => hk h.1
    rw [HE.out]
    clear HE hk
    go_enter Tryz.func63, Tryz.ntmps63
    go_wp2
    go_ret
    exact ⟨rfl, HB⟩
set_option maxHeartbeats 1000000 in
theorem wi64 (x : Mt) (n v : ByteArray) (bx gx : Nat) (w : World) (h : w.cell? ⟨bx, 1, none⟩ = some (.string n)) (h2 : w.cell? ⟨gx, 0, none⟩ = some (.string v)) : Calls Tryz.prog 64 #[.agg #[.int .i64 x.k, .string x.n, .string x.v], .pointer (some ⟨bx, 0, none⟩), .pointer (some ⟨gx, 0, none⟩)] w (EmpP (decide (x.n = n ∧ x.v = v)) w) := by
  have hlt : bx < w.heap.size := World.block_lt_of_cell? w _ h
  have hlt2 : gx < w.heap.size := World.block_lt_of_cell? w _ h2
  have HB : Hid (Below w.heap.size w (w.alloc (.cells #[.int .i64 x.k, .string x.n, .string x.v] 25))) := (Below.refl _ _).alloc (Nat.le_refl _) _
  have h1 := ((Below.refl w.heap.size w).alloc (Nat.le_refl _) (.cells #[.int .i64 x.k, .string x.n, .string x.v] 25)).cell (p := ⟨bx, 1, none⟩) hlt
  rw [h] at h1
  have h3 := ((Below.refl w.heap.size w).alloc (Nat.le_refl _) (.cells #[.int .i64 x.k, .string x.n, .string x.v] 25)).cell (p := ⟨gx, 0, none⟩) hlt2
  rw [h2] at h3
  by_cases hk : x.n = n
  · have e1 : (x.n.toList == n.toList) = true := by rw [str_dec, decide_eq_true hk]
    have HE : Hid (decide (x.n = n ∧ x.v = v) = (x.v.toList == v.toList)) := by
      show _ = _
      rw [str_dec, decide_eq_decide]
      exact ⟨fun h => h.2, fun h => ⟨hk, h⟩⟩
    rw [HE.out]
    clear HE hk
    go_enter Tryz.func64, Tryz.ntmps64
    go_wp2
    go_ret
    exact ⟨rfl, HB⟩
  · have e1 : (x.n.toList == n.toList) = false := by rw [str_dec, decide_eq_false hk]
    have HE : Hid (decide (x.n = n ∧ x.v = v) = false) := decide_eq_false fun h => hk h.1
    rw [HE.out]
    clear HE hk
    go_enter Tryz.func64, Tryz.ntmps64
    go_wp2
    go_ret
    exact ⟨rfl, HB⟩
set_option maxHeartbeats 4000000 in
theorem plain_any (l : List Mt) (hl : Sz' l) (A : Option Addr) (c : Nat) (w : World) (hA : MS w w.heap.size A l) :
    Calls Tryz.prog 32 #[.slice A l.length c] w (EmpP (plainB l) w) := by
  have B0 : Hid (Below w.heap.size w (w.alloc (.cells #[.slice A l.length c] 22))) := (Below.refl _ _).alloc (Nat.le_refl _) _
  have KG := Lib.hid (great_any [⟨A, c, l⟩] (show 1 ≤ 100 by omega) w.heap.size 1 (w.alloc (.cells #[.slice A l.length c] 22)) (one_list hA hl B0.out (by simp)))
  have hany : ([(⟨A, c, l⟩ : Ls)].any fun x => greatM x.l) = greatM l := by simp
  rw [hany] at KG
  have KC := Lib.hid (refCheck_any l hl A c _ (hA.up B0.out))
  have eg : ∀ args w, (callFunc 61 args).run Tryz.prog w = .ok (.enter 61 args) w := enters_of Tryz.func61 (by kernel_rfl) rfl
  have KH := Lib.hid (fun w1 (hb : Below w.heap.size w w1) => hasC_any 61 #[] eg (fun x => decide (2 < x.k)) l hl.len A c w1 (hA.up hb) (fun W x hx hb => pl61 x W))
  have HE : Hid (plainB l = (!greatM l && (decide (chkA l = 0) && !(l.any fun x => decide (2 < x.k))))) := rfl
  rw [HE.out]
  generalize (l.any fun x => decide (2 < x.k)) = r at *
  clear hany hA eg HE
  cases hg : greatM l with
  | true =>
    rw [hg] at KG
    clear hg KC KH
    go_enter Tryz.func32, Tryz.ntmps32
    go_wp2_with fail
    refine KG.out.mono ?_
    rintro e w1 ⟨rfl, rfl⟩
    go_wp2
    go_ret
    exact ⟨rfl, B0⟩
  | false =>
    rw [hg] at KG
    clear hg
    by_cases hc : chkA l = 0
    · rw [hc] at KC
      rw [decide_eq_true hc]
      clear hc
      go_enter Tryz.func32, Tryz.ntmps32
      go_wp2_with fail
      refine KG.out.mono ?_
      rintro e w1 ⟨rfl, rfl⟩
      go_wp2_with fail
      refine KC.out.mono ?_
      rintro e w1 ⟨rfl, b1⟩
      have B1 : Hid (Below w.heap.size w w1) := B0.out.trans (b1.out.mono B0.out.size)
      have KH1 := Lib.hid (KH.out w1 B1.out)
      go_wp2_with (go_at_call 40; (with_reducible refine KH1.out.mono ?_); rintro e w2 ⟨rfl, b2⟩)
      go_ret
      exact ⟨rfl, B1.out.trans (b2.out.mono B1.out.size)⟩
    · have e0 := bneF hc
      rw [decide_eq_false hc]
      clear hc KH
      generalize chkA l = q at *
      go_enter Tryz.func32, Tryz.ntmps32
      go_wp2_with fail
      refine KG.out.mono ?_
      rintro e w1 ⟨rfl, rfl⟩
      go_wp2_with fail
      refine KC.out.mono ?_
      rintro e w1 ⟨rfl, b1⟩
      go_wp2
      go_ret
      exact ⟨rfl, B0.out.trans (b1.out.mono B0.out.size)⟩
/-- What is put in a label set stays small. -/
theorem with_small {ls : List Lb} {n v : ByteArray} {N : Nat} (h : ls.length ≤ N ∧ ∀ x ∈ ls, x.v.size ≤ 100000) (hv : v.size ≤ 100000) : (withL ls n v).length ≤ N + 1 ∧ ∀ x ∈ withL ls n v, x.v.size ≤ 100000 := by
  have hk := keepL_len false [n] ls
  have hm : ∀ x ∈ keepL false [n] ls, x.v.size ≤ 100000 := fun x hx => h.2 x (List.mem_filter.1 hx).1
  cases hv0 : v.toList.isEmpty with
  | true => rw [withL_nil hv0]; exact ⟨by omega, hm⟩
  | false =>
    rw [withL_ins hv0]
    unfold insL
    refine ⟨?_, fun x hx => ?_⟩
    · rw [List.length_append, List.length_cons, List.length_take, List.length_drop]
      omega
    · rcases List.mem_append.1 hx with hx | hx
      · exact hm x (List.mem_of_mem_take hx)
      · rcases List.mem_cons.1 hx with rfl | hx
        · exact hv
        · exact hm x (List.mem_of_mem_drop hx)
/-- The labels at a point of the witness. -/
def LsAt (w : World) (v : Value) (ls : List Lb) (N : Nat) : Prop := (∃ C d, v = .slice C ls.length d ∧ LS w w.heap.size C ls) ∧ ls.length ≤ N ∧ ∀ x ∈ ls, x.v.size ≤ 100000
theorem LsAt.up {w w' : World} {v : Value} {ls : List Lb} {N : Nat} (h : LsAt w v ls N) (hb : Below w.heap.size w w') : LsAt w' v ls N := by
  obtain ⟨⟨C, d, e, h1⟩, h2⟩ := h
  exact ⟨⟨C, d, e, LS_up h1 hb⟩, h2⟩
theorem LsAt.put {w w' : World} {v : Value} {ls : List Lb} {n x : ByteArray} {N : Nat} {v0 : Value} (h : LsAt w v0 ls N) (hx : x.size ≤ 100000) (ho : Own5 w' w.heap.size v (withL ls n x)) : LsAt w' v (withL ls n x) (N + 1) := by
  obtain ⟨C, d, e, h1⟩ := ho.form
  exact ⟨⟨C, d, e, h1⟩, with_small h.2 hx⟩
def WitP (l : List Mt) (w : World) (e : Ending) (w' : World) : Prop := ∃ v ls, e = .returned v ∧ Hid (LsAt w' v ls (l.length + l.length)) ∧ Hid (Wb l l.length ls) ∧ Hid (Below w.heap.size w w')
def strLen : Option Value → Nat
  | some (.string s) => s.size
  | _ => 0
set_option maxHeartbeats 16000000 in
theorem witness_any (l : List Mt) (hl : l.length ≤ 1000) (hv : Val l) (A : Option Addr) (c : Nat) (w : World) (hA : MS w w.heap.size A l) :
    Calls Tryz.prog 33 #[.slice A l.length c] w (WitP l w) := by
  have hlm : l.length ≤ maxLen := by unfold maxLen; omega
  have eg3 : ∀ args w, (callFunc 63 args).run Tryz.prog w = .ok (.enter 63 args) w := enters_of Tryz.func63 (by kernel_rfl) rfl
  have eg4 : ∀ args w, (callFunc 64 args).run Tryz.prog w = .ok (.enter 64 args) w := enters_of Tryz.func64 (by kernel_rfl) rfl
  have K3 := Lib.hid (fun (n : ByteArray) (bx : Nat) w1 (hm : MS w1 w1.heap.size A l) (h : w1.cell? ⟨bx, 1, none⟩ = some (.string n)) => hasC_any 63 #[.pointer (some ⟨bx, 0, none⟩)] eg3 (fun y => decide (y.k = 1 ∧ y.n = n)) l hlm A c w1 hm (fun W y hy hb => wi63 y n bx W ((hb.cell (p := ⟨bx, 1, none⟩) (World.block_lt_of_cell? w1 _ h)).trans h)))
  have K4 := Lib.hid (fun (n v : ByteArray) (bx gx : Nat) w1 (hm : MS w1 w1.heap.size A l) (h : w1.cell? ⟨bx, 1, none⟩ = some (.string n)) (h2 : w1.cell? ⟨gx, 0, none⟩ = some (.string v)) => hasC_any 64 #[.pointer (some ⟨bx, 0, none⟩), .pointer (some ⟨gx, 0, none⟩)] eg4 (fun y => decide (y.n = n ∧ y.v = v)) l hlm A c w1 hm (fun W y hy hb => wi64 y n v bx gx W ((hb.cell (p := ⟨bx, 1, none⟩) (World.block_lt_of_cell? w1 _ h)).trans h) ((hb.cell (p := ⟨gx, 0, none⟩) (World.block_lt_of_cell? w1 _ h2)).trans h2)))
  have HV := Lib.hid hv
  have HA := Lib.hid hA
  clear hv hA hlm eg3 eg4
  have S0 : Hid (LsAt w (.slice none 0 0) [] 0) := ⟨⟨none, 0, rfl, fun h => absurd rfl h⟩, Nat.le_refl _, fun x hx => by cases hx⟩
  go_enter Tryz.func33, Tryz.ntmps33
  go_wp2_with fail
  go_loopw [3, 11] (fun vo vi wr => ∃ (k : Nat) (ls : List Lb), k ≤ l.length ∧ vi = .int .i64 k ∧ Hid (LsAt wr vo ls k) ∧ Hid (Wa l k ls) ∧ Hid (Below w.heap.size w wr)) (fun _ vi _ => l.length - (intOf vi).toNat)
  case atStart => exact ⟨0, [], by omega, rfl, S0, Wa.zero l, Below.refl _ _⟩
  case round =>
    clear S0
    obtain ⟨k, ls, hk, rfl, HL, HW, HB⟩ := hrel
    by_cases hlt : k < l.length
    · obtain ⟨b, off, rfl, hb, h1', h2', h3'⟩ := HA.out.at_ hlt
      have h1 := (HB.out.cell (p := ⟨b, off + k * 3, none⟩) hb).trans h1'
      have h2 := (HB.out.cell (p := ⟨b, off + k * 3 + 1, none⟩) hb).trans h2'
      have h3 := (HB.out.cell (p := ⟨b, off + k * 3 + 2, none⟩) hb).trans h3'
      clear h1' h2' h3'
      have hvs := chk1_len (HV.out _ (List.getElem_mem hlt))
      have HWE := Lib.hid (fun h => HW.out.equal hlt h)
      have HWO := Lib.hid (fun h => HW.out.other hlt h)
      have hl1 := HL.out.2.1
      obtain ⟨C, d, rfl, hC⟩ := HL.out.1
      have HC := Lib.hid hC
      clear hC HW
      generalize l[k] = x at *
      have BX : Hid (Below wr.heap.size wr (wr.alloc (.cells #[.int .i64 x.k, .string x.n, .string x.v] 25))) := (Below.refl _ _).alloc (Nat.le_refl _) _
      by_cases hk1 : x.k = 1
      · have e1 := bneT hk1
        have HWN := Lib.hid (HWE.out hk1)
        have KW := Lib.hid (refWith_any ls (by omega) C d x.n x.v _ (LS_up HC.out BX.out))
        clear hk1 HWE HWO
        go_wp2_with fail
        refine KW.out.mono ?_
        rintro e w1 ⟨v1, rfl, o1, b1⟩
        have L1 : Hid (LsAt w1 v1 (withL ls x.n x.v) (k + 1)) := (HL.out.up BX.out).put (by omega) o1
        have B1 : Hid (Below w.heap.size w w1) := HB.out.trans ((BX.out.trans (b1.mono BX.out.size)).mono HB.out.size)
        clear KW o1 b1 HL HB
        go_wp2
        go_roundw
        case rel => exact ⟨k + 1, _, by omega, by go_num, L1, HWN, B1⟩
        case measure => simp [intOf]; omega
      · have e1 := bneF hk1
        have HWN := Lib.hid (HWO.out hk1)
        have L1 : Hid (LsAt (wr.alloc (.cells #[.int .i64 x.k, .string x.n, .string x.v] 25)) (.slice C ls.length d) ls (k + 1)) := ⟨(HL.out.up BX.out).1, by omega, HL.out.2.2⟩
        have B1 : Hid (Below w.heap.size w (wr.alloc (.cells #[.int .i64 x.k, .string x.n, .string x.v] 25))) := HB.out.trans (BX.out.mono HB.out.size)
        clear hk1 HWE HWO HL HB
        go_wp2
        go_roundw
        case rel => exact ⟨k + 1, _, by omega, by go_num, L1, HWN, B1⟩
        case measure => simp [intOf]; omega
    · obtain rfl : k = l.length := by omega
      have HWB := Lib.hid (Wb.zero HW.out)
      have HL0 : Hid (LsAt wr u3 ls (l.length + 0)) := HL.out
      clear HW HL
      go_wp2_with fail
      go_loopw [3, 27] (fun vo vi wq => ∃ (k : Nat) (ls : List Lb), k ≤ l.length ∧ vi = .int .i64 k ∧ Hid (LsAt wq vo ls (l.length + k)) ∧ Hid (Wb l k ls) ∧ Hid (Below w.heap.size w wq)) (fun _ vi _ => l.length - (intOf vi).toNat)
      case atStart => exact ⟨0, ls, by omega, rfl, HL0, HWB, HB⟩
      case round =>
        clear HL0 HWB HB
        obtain ⟨k, ls, hk, rfl, HL, HW, HB⟩ := hrel
        obtain ⟨wq, rfl⟩ : ∃ wq : World, wq = wr := ⟨_, rfl⟩
        by_cases hlt : k < l.length
        · obtain ⟨b, off, rfl, hb, h1', h2', h3'⟩ := HA.out.at_ hlt
          have h1 := (HB.out.cell (p := ⟨b, off + k * 3, none⟩) hb).trans h1'
          have h2 := (HB.out.cell (p := ⟨b, off + k * 3 + 1, none⟩) hb).trans h2'
          have h3 := (HB.out.cell (p := ⟨b, off + k * 3 + 2, none⟩) hb).trans h3'
          clear h1' h2' h3'
          have HSK := Lib.hid (fun h => HW.out.skip hlt h)
          have HPT := Lib.hid (fun h (v : ByteArray) h2 => HW.out.put hlt h (v := v) h2)
          have hl1 := HL.out.2.1
          obtain ⟨C, d, rfl, hC⟩ := HL.out.1
          clear hC HW
          generalize l[k] = x at *
          have BX : Hid (Below w.heap.size w (wq.alloc (.cells #[.int .i64 x.k, .string x.n, .string x.v] 25))) := HB.out.alloc HB.out.size _
          have LX : Hid (LsAt (wq.alloc (.cells #[.int .i64 x.k, .string x.n, .string x.v] 25)) (.slice C ls.length d) ls (l.length + k)) := HL.out.up ((Below.refl _ _).alloc (Nat.le_refl _) _)
          have HBK := Lib.hid (cell3 (heap_alloc_new wq (.cells #[.int .i64 x.k, .string x.n, .string x.v] 25)))
          have HSZ : Hid ((wq.alloc (.cells #[.int .i64 x.k, .string x.n, .string x.v] 25)).heap.size = wq.heap.size + 1) := World.size_alloc _ _
          have hlt2 : wq.heap.size < (wq.alloc (.cells #[.int .i64 x.k, .string x.n, .string x.v] 25)).heap.size := by rw [HSZ.out]; omega
          obtain ⟨W, hW⟩ : ∃ W, W = wq.alloc (.cells #[.int .i64 x.k, .string x.n, .string x.v] 25) := ⟨_, rfl⟩
          rw [← hW] at BX LX HBK hlt2
          have HWQ := Lib.hid hW
          clear hW HB HL HSZ
          have K31 := Lib.hid (K3.out x.n wq.heap.size W (HA.out.up BX.out) HBK.out.2.1)
          have hse : (l.any fun y => decide (y.k = 1 ∧ y.n = x.n)) = hasE l x.n := rfl
          rw [hse] at K31
          clear hse
          cases hhe : hasE l x.n with
          | true =>
            rw [hhe] at K31
            have HWN := Lib.hid (HSK.out hhe)
            clear hhe HSK HPT
            go_wp2_with fail
            rw [← HWQ.out]
            refine K31.out.mono ?_
            rintro e w1 ⟨rfl, b1⟩
            have L1 : Hid (LsAt w1 (.slice C ls.length d) ls (l.length + (k + 1))) := ⟨(LX.out.up b1.out).1, by omega, LX.out.2.2⟩
            have B1 : Hid (Below w.heap.size w w1) := BX.out.trans (b1.out.mono BX.out.size)
            clear b1 K31 HWQ LX
            go_wp2
            go_roundw
            case rel => exact ⟨k + 1, _, by omega, by go_num, L1, HWN, B1⟩
            case measure => simp [intOf]; omega
          | false =>
            rw [hhe] at K31
            have HP2 := Lib.hid (HPT.out hhe)
            clear hhe HSK HPT
            go_wp2_with fail
            rw [← HWQ.out]
            refine K31.out.mono ?_
            rintro e w1 ⟨rfl, b1⟩
            obtain ⟨V, hV⟩ : ∃ V, V = w1.alloc (.cells #[.string ⟨#[120]⟩] 9) := ⟨_, rfl⟩
            have B1 : Hid (Below w1.heap.size w1 V) := by rw [hV]; exact (Below.refl _ _).alloc (Nat.le_refl _) _
            have CV : Hid (V.heap[w1.heap.size]? = some (.cells #[.string (xs 0)] 9 (0, 0))) := by rw [hV]; exact heap_alloc_new w1 _
            have hsz1 : wq.heap.size < w1.heap.size := Nat.lt_of_lt_of_le hlt2 b1.out.size
            have hW1 : w.heap.size ≤ w1.heap.size := Nat.le_trans BX.out.size b1.out.size
            have BW1 : Hid (Below w.heap.size w w1) := BX.out.trans (b1.out.mono BX.out.size)
            have LW1 := Lib.hid (LX.out.up b1.out)
            have HBX : Hid (w1.cell? ⟨wq.heap.size, 1, none⟩ = some (.string x.n)) := (b1.out.cell (p := ⟨wq.heap.size, 1, none⟩) hlt2).trans HBK.out.2.1
            have HVQ := Lib.hid hV
            clear hV b1 K31 HWQ LX HBK BX
            go_wp2_with fail
            rw [← HVQ.out]
            clear HVQ
            go_loopw [36] (fun _ wp => ∃ j : Nat, j ≤ 200 ∧ Hid (wp.heap[w1.heap.size]? = some (.cells #[.string (xs j)] 9 (0, 0))) ∧ Hid (Below w1.heap.size w1 wp)) (fun _ wp => 201 - strLen (wp.cell? ⟨w1.heap.size, 0, none⟩))
            case atStart => exact ⟨0, by omega, CV, B1⟩
            case round =>
              clear CV B1
              obtain ⟨j, hj, HC, HB⟩ := hrel
              obtain ⟨wp, rfl⟩ : ∃ wp : World, wp = wr := ⟨_, rfl⟩
              have hle1 := HB.out.size
              have hlg : w1.heap.size < wp.heap.size := (Array.getElem?_eq_some_iff.1 HC.out).1
              have hcg : wp.cell? ⟨w1.heap.size, 0, none⟩ = some (.string (xs j)) := by simp [World.cell?, HC.out]
              have hfg : wp.frozen? ⟨w1.heap.size, 0, none⟩ = false := by simp [World.frozen?, HC.out]
              have hcx := (HB.out.cell (p := ⟨wq.heap.size, 1, none⟩) hsz1).trans HBX.out
              have K41 := Lib.hid (K4.out x.n (xs j) wq.heap.size w1.heap.size wp (HA.out.up (BW1.out.trans (HB.out.mono hW1))) hcx hcg)
              have hse : (l.any fun y => decide (y.n = x.n ∧ y.v = xs j)) = usedV l x.n (xs j) := rfl
              rw [hse] at K41
              clear hse
              cases hu : usedV l x.n (xs j) with
              | true =>
                rw [hu] at K41
                have hj2 := usedV_len HV.out hu
                have hxs := xs_size j
                have hb1 : ¬ 9223372036854775807 < (xs j).size + 1 := by omega
                have hms : 201 - strLen (wp.cell? ⟨w1.heap.size, 0, none⟩) = 200 - j := by rw [hcg]; show 201 - (xs j).size = _; omega
                clear hu
                go_wp2_with fail
                refine K41.out.mono ?_
                rintro e w2 ⟨rfl, b2⟩
                have hcg2 := (b2.out.cell (p := ⟨w1.heap.size, 0, none⟩) hlg).trans hcg
                have hfg2 := (b2.out.frozen (p := ⟨w1.heap.size, 0, none⟩) hlg).trans hfg
                have C2 : Hid (w2.heap[w1.heap.size]? = some (.cells #[.string (xs j)] 9 (0, 0))) := (b2.out.block _ hlg).trans HC.out
                have B2 : Hid (Below w1.heap.size w1 w2) := HB.out.trans (b2.out.mono HB.out.size)
                clear K41 b2 hcg hfg hcx
                go_wp2_with fail
                have C3 : (w2.setCell ⟨w1.heap.size, 0, none⟩ (.string (xs j ++ ⟨#[120]⟩))).heap[w1.heap.size]? = some (.cells #[.string (xs (j + 1))] 9 (0, 0)) := by
                  rw [← xs_succ]
                  simp [World.setCell, Array.getElem?_modify, C2.out]
                refine ⟨⟨j + 1, by omega, C3, B2.out.setCell (show w1.heap.size ≤ (⟨w1.heap.size, 0, none⟩ : Addr).block from Nat.le_refl _) _⟩, ?_⟩
                rw [hms, World.cell?, C3]
                show 201 - (xs (j + 1)).size < _
                rw [xs_size]
                omega
              | false =>
                rw [hu] at K41
                have HWN := Lib.hid (HP2.out (xs j) hu)
                clear hu
                go_wp2_with fail
                refine K41.out.mono ?_
                rintro e w2 ⟨rfl, b2⟩
                have hcg2 := (b2.out.cell (p := ⟨w1.heap.size, 0, none⟩) hlg).trans hcg
                have hcx2 := (b2.out.cell (p := ⟨wq.heap.size, 1, none⟩) (show wq.heap.size < wp.heap.size by omega)).trans hcx
                have B2 : Hid (Below w1.heap.size w1 w2) := HB.out.trans (b2.out.mono HB.out.size)
                have L2 := Lib.hid (LW1.out.up B2.out)
                have hxs := xs_size j
                obtain ⟨C2, d2, he2, hC2⟩ := L2.out.1
                obtain ⟨rfl, rfl⟩ : C = C2 ∧ d = d2 := by injection he2 with e1 _ e3; exact ⟨e1, e3⟩
                have KW := Lib.hid (refWith_any ls (by omega) C d x.n (xs j) w2 hC2)
                clear K41 b2 hcg hfg hcx he2 hC2 HP2
                go_wp2_with fail
                refine KW.out.mono ?_
                rintro e w3 ⟨v3, rfl, o3, b3⟩
                have L3 : Hid (LsAt w3 v3 (withL ls x.n (xs j)) (l.length + (k + 1))) := L2.out.put (by omega) o3
                have B3 : Hid (Below w.heap.size w w3) := BW1.out.trans ((B2.out.trans (b3.mono B2.out.size)).mono hW1)
                clear KW o3 b3
                go_wp2
                go_roundw
                case rel => exact ⟨k + 1, _, by omega, by go_num, L3, HWN, B3⟩
                case measure => simp [intOf]; omega
        · obtain rfl : k = l.length := by omega
          go_wp2
          go_ret
          exact ⟨_, ls, rfl, HL, HW, HB⟩
end Go.Proofs.YtdeppcddknakjaaGreatDoor.Mx
