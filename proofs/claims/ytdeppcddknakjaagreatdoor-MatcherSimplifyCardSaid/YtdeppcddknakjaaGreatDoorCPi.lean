
/- Layer 6: class of the program. Layer 6: what the program's reader makes: relations to the text. Layer 6: parentheses, atom and factor of the program. Layer 6: atom of the program. Layer 6: alternative and expression of the program. Layer 6: expression and parse of the program. Layer 6: bytes that a call makes; Prefix and Quote of the program. -/
import Derived.Test.YtdeppcddknakjaaGreatDoorCPa
import Derived.Laws.AppendOwnNone
import Derived.Maps.AppendAt
import Derived.OwnWalk
import Derived.Lib.AppendStr
import Derived.Lib.ConvBytes
import Derived.Laws.IdiomStrings
import Derived.Laws.BytesArg
set_option maxRecDepth 100000
set_option linter.unusedVariables false
set_option linter.unusedSimpArgs false
namespace Go.Proofs.YtdeppcddknakjaaGreatDoor.Rx
open Go.RowKit
/-- A class: behind the opening bracket. -/
structure ClsRel (l l' : List UInt8) (b : Bool) (f : UInt8 → Bool) : Prop where
 ok : b = false → cls l = some (.cls f, l')
 no : b = true → cls l = none ∧ l' = []
def ClsP (ra : Nat) (s : ByteArray) (w : World) (e : Ending) (w' : World) : Prop :=
 ∃ (f : UInt8 → Bool) (s' : ByteArray) (b' : Bool), e = .returned (.agg (clsC f).toArray) ∧ Hid (Rd w' ra s' b') ∧ Hid (But (· = ra) w w') ∧ s'.size ≤ s.size ∧ Hid (ClsRel s.data.toList s'.data.toList b' f)
/-- How a class is read: behind the ^. -/
def clsI (iv : Bool) (l : List UInt8) : Option (Re × List UInt8) := (bx none_ true l).map fun q => (.cls (fun x => q.1 x != iv), q.2)
theorem cls_inv {l r : List UInt8} (h : l = 94 :: r) : cls l = clsI true r := by
 subst h
 rw [cls_eq, if_pos rfl]
 unfold clsI
 congr 1
 funext q
 congr 2
 funext x
 cases q.1 x <;> rfl
theorem cls_not {l : List UInt8} (h : beg [94] l = false) : cls l = clsI false l := by
 cases l with
 | nil => rfl
 | cons c r =>
  rw [cls_eq, if_neg (beg_one_no h)]
  unfold clsI
  congr 1
  funext q
  congr 2
  funext x
  cases q.1 x <;> rfl
/-- What the loop over the items keeps. -/
def Bx (l0 : List UInt8) (more : Bool) (f : UInt8 → Bool) (l : List UInt8) (b : Bool) : Prop :=
 (more = true → b = false ∧ ∃ flag, bx none_ true l0 = bx f flag l ∧ (flag = true ∨ beg [93] l = false)) ∧
 (more = false → (b = false ∧ bx none_ true l0 = some (f, l)) ∨ (b = true ∧ l = [] ∧ bx none_ true l0 = none))
theorem bx_fail {f : UInt8 → Bool} {flag : Bool} {l : List UInt8} (h : NoItem l) (hf : flag = true ∨ beg [93] l = false) : bx f flag l = none := by
 cases l with
 | nil => exact bx_nil f flag
 | cons c r =>
  by_cases hc : c = 93
  ·subst hc
   rcases hf with rfl | hf
   ·rw [bx_end]; rfl
   ·exact absurd rfl (beg_one_no hf)
  ·rcases h with h | ⟨lo, q, h, h2 | ⟨hi, q', h2, h3⟩⟩
   ·exact bx_item hc h
   ·exact bx_range hc h h2
   ·exact bx_less hc h h2 h3
theorem Bx.bad {l0 l l' : List UInt8} {f g : UInt8 → Bool} {lo hi : UInt8} (h : Bx l0 true f l false) (k : ItemRel l l' true lo hi) : Bx l0 false g l' true := by
 obtain ⟨_, flag, h1, h2⟩ := h.1 rfl
 exact ⟨fun h => (by cases h), fun _ => .inr ⟨rfl, (k.no rfl).2, by rw [h1]; exact bx_fail (k.no rfl).1 h2⟩⟩
theorem item_ne {l r : List UInt8} {c : UInt8} (h : item l = some (c, r)) : ∃ d q, l = d :: q ∧ d ≠ 93 := by
 cases l with
 | nil => cases h
 | cons d q =>
  refine ⟨d, q, rfl, fun e => ?_⟩
  subst e
  rw [item, if_pos rfl] at h
  cases h
theorem Bx.step {l0 l l' : List UInt8} {f : UInt8 → Bool} {lo hi : UInt8} (h : Bx l0 true f l false) (k : ItemRel l l' false lo hi) : bx none_ true l0 = bx (addR f lo hi) false l' := by
 obtain ⟨_, flag, h1, h2⟩ := h.1 rfl
 obtain ⟨r, k1, k2, k3⟩ := k.ok rfl
 obtain ⟨d, q, rfl, hd⟩ := item_ne k1
 rw [h1, bx_step hd k1 k2 k3]
theorem Bx.go {l0 l l' : List UInt8} {f : UInt8 → Bool} {lo hi : UInt8} (h : Bx l0 true f l false) (k : ItemRel l l' false lo hi) (hb : beg [93] l' = false) : Bx l0 true (addR f lo hi) l' false :=
 ⟨fun _ => ⟨rfl, false, h.step k, .inr hb⟩, fun h => (by cases h)⟩
theorem Bx.stop {l0 l r : List UInt8} {f : UInt8 → Bool} {lo hi : UInt8} (h : Bx l0 true f l false) (k : ItemRel l (93 :: r) false lo hi) : Bx l0 false (addR f lo hi) r false := by
 refine ⟨fun h => (by cases h), fun _ => .inl ⟨rfl, ?_⟩⟩
 rw [h.step k, bx_end]
 rfl
theorem ItemRel.less {l l' : List UInt8} {lo hi : UInt8} (k : ItemRel l l' false lo hi) : l'.length < l.length := by
 obtain ⟨r, k1, k2, _⟩ := k.ok rfl
 have h1 := item_len k1
 have h2 := range_len k2
 omega
/-- The set with its first k places turned. -/
def flipTo (f : UInt8 → Bool) (iv : Bool) (k : Nat) (x : UInt8) : Bool := if x.toNat < k then f x != iv else f x
theorem flip_zero (f : UInt8 → Bool) (iv : Bool) (x : UInt8) : flipTo f iv 0 x = f x := by unfold flipTo; rw [if_neg (by omega)]
theorem flip_step (f : UInt8 → Bool) (iv : Bool) {k : Nat} (hk : k < 256) (x : UInt8) : (if x.toNat = k then (f (UInt8.ofNat k) != iv) else flipTo f iv k x) = flipTo f iv (k + 1) x := by
 unfold flipTo
 by_cases h : x.toNat = k
 ·rw [if_pos h, if_pos (by omega), ← h]
  simp
 ·rw [if_neg h]
  by_cases h2 : x.toNat < k
  ·rw [if_pos h2, if_pos (by omega)]
  ·rw [if_neg h2, if_neg (by omega)]
theorem flip_at (f : UInt8 → Bool) (iv : Bool) {k : Nat} (hk : k < 256) : flipTo f iv k (UInt8.ofNat k) = f (UInt8.ofNat k) := by
 unfold flipTo
 rw [if_neg]
 simp
 omega
theorem flip_end (f : UInt8 → Bool) (iv : Bool) (x : UInt8) : flipTo f iv 256 x = (f x != iv) := by unfold flipTo; rw [if_pos x.toNat_lt]
/-- How much is left to read. -/
def left (ra : Nat) (v : Value) (w : World) : Nat := match v, w.cell? ⟨ra, 0, none⟩ with
 | .bool true, some (.string s) => s.size + 1
 | _, _ => 0
theorem left_more {ra : Nat} {w : World} {s : ByteArray} {b : Bool} (h : Rd w ra s b) : left ra (.bool true) w = s.size + 1 := by unfold left; rw [h.cells.1]
theorem left_done (ra : Nat) (w : World) : left ra (.bool false) w = 0 := rfl
set_option maxHeartbeats 4000000 in
set_option maxRecDepth 100000 in
theorem class_any (ra : Nat) (s : ByteArray) (hs : s.size ≤ 1000) (w : World) (hr : Rd w ra s false) : Calls Tryz.prog 203 #[.pointer (some ⟨ra, 0, none⟩)] w (ClsP ra s w) := by
 have ZL : Hid ((clsC none_).length = 256) := clsC_len _
 have ZZ := Lib.hid zero45
 obtain ⟨Z, hZ⟩ : ∃ Z, Z = clsC none_ := ⟨_, rfl⟩
 rw [← hZ] at ZL ZZ
 have HZ := Lib.hid hZ
 clear hZ
 have KR := Lib.hid hr
 have RL := Lib.hid hr.lt
 clear hr
 go_enter Tryz.func203, Tryz.ntmps203
 go_wp2_with (first
  | ((with_reducible refine wpList_alloc_abs (o := ⟨some 2, .alloc 162, _, _, _, _⟩) rfl 162 rfl Z ZZ.out ?_); intro g0 w0 e0 k0 b0 s0))
 refine (skip_any ⟨#[94]⟩ ra s false hs _ (KR.out.below b0.out)).mono ?_
 intro e w1 hsk
 obtain ⟨iv, s1, he, hR1, hs1, hcl, hB1, hS1⟩ : ∃ (iv : Bool) (s1 : ByteArray), e = .returned (.bool iv) ∧ Hid (Rd w1 ra s1 false) ∧ s1.size ≤ s.size ∧ Hid (cls s.data.toList = clsI iv s1.data.toList) ∧ Hid (But (· = ra) w0 w1) ∧ Hid (w1.heap.size = w0.heap.size) := by
  obtain ⟨h1, h2, h3, h4⟩ := hsk
  cases hb : beg [94] s.data.toList with
  | true =>
   obtain ⟨h5, h6⟩ := h1 hb
   have h0 := beg_pos hb
   exact ⟨true, _, h5, h6, by rw [ByteArray.size_extract]; omega, cls_inv (by obtain ⟨r, hr⟩ := beg_one hb; rw [data_cons h0] at hr ⊢; injection hr with e1 e2; rw [e1]), h3, h4⟩
  | false =>
   obtain ⟨h5, h6⟩ := h2 hb
   exact ⟨false, s, h5, h6, Nat.le_refl _, cls_not hb, h3, h4⟩
 subst he
 clear hsk
 have G0 : Hid (ra < g0 ∧ w.heap.size = g0 ∧ g0 < w1.heap.size) := ⟨by have := e0.out; have := RL.out; omega, e0.out, by have := s0.out; have := hS1.out; omega⟩
 have k1 : Hid (Blk w1 g0 162 Z) := k0.out.but hB1.out (by have := G0.out.1; omega)
 have W1 : Hid (But (· = ra) w w1) := (But.of_below b0.out).trans hB1.out (fun _ _ h => h)
 clear KR e0 k0 b0 s0 hB1 hS1
 go_wp2_with (first
  | ((with_reducible refine wpList_alloc_abs (o := ⟨some 4, .alloc 162, _, _, _, _⟩) rfl 162 rfl Z ZZ.out ?_); intro g2 w2 e2 k2 b2 s2))
 have G2 : Hid (g2 = w1.heap.size) := e2.out.symm
 go_loopw [5] (fun v5 wr => ∃ (more : Bool) (f : UInt8 → Bool) (sk : ByteArray) (bk : Bool), v5 = .bool more ∧ sk.size ≤ s.size ∧ Hid (Rd wr ra sk bk) ∧ Hid (Bx s1.data.toList more f sk.data.toList bk) ∧ Hid (Blk wr g2 162 (clsC f ++ [])) ∧ Hid (Blk wr g0 162 Z) ∧ Hid (But (· = ra) w wr)) (fun v5 wr => left ra v5 wr)
 case atStart =>
  have k2' := k2.out
  rw [HZ.out] at k2'
  exact ⟨true, none_, s1, false, rfl, hs1, hR1.out.below b2.out, ⟨fun _ => ⟨rfl, true, rfl, .inl rfl⟩, fun h => (by cases h)⟩, by rw [List.append_nil]; exact k2', k1.out.below b2.out k1.out.lt, W1.out.add b2.out⟩
 case round =>
  clear k2 e2 b2 s2 k1 W1 hR1
  obtain ⟨more, f, sk, bk, rfl, hsk, HR, HX, HF, HG, HB⟩ := hrel
  cases more with
  | true =>
   obtain rfl : bk = false := (HX.out.1 rfl).1
   go_wp2_with fail
   refine (item_any ra sk (by omega) _ HR.out).mono ?_
   rintro e w3 ⟨lo, hi, s3, b3', rfl, R3, b3, hs3, H3⟩
   have hg2 : ¬ g2 = ra := by have := G0.out; have := G2.out; omega
   have hg0 : ¬ g0 = ra := by have := G0.out; omega
   have F3 : Hid (Blk w3 g2 162 (clsC f ++ [])) := HF.out.but b3.out hg2
   go_wp2_with fail
   refine (add_any g2 162 f [] lo hi _ F3.out).mono ?_
   rintro e w4 ⟨rfl, F4', b4', -⟩
   have F4 := Lib.hid F4'
   have b4 := Lib.hid b4'
   have R4 : Hid (Rd w4 ra s3 b3') := R3.out.but b4.out (by omega)
   have G4 : Hid (Blk w4 g0 162 Z) := (HG.out.but b3.out hg0).but b4.out (by have := G0.out; have := G2.out; omega)
   have B4 : Hid (But (· = ra) w w4) := (HB.out.trans b3.out (fun _ _ h => h)).row b4.out (fun h => by have := G0.out; have := G2.out; omega)
   have LM := Lib.hid (left_more HR.out)
   clear F4' b4' F3 R3 b3 HG HB HF hg2 hg0
   obtain ⟨h1, h2, -, -⟩ := R4.out.cells
   cases b3' with
   | true =>
    have HX' := Lib.hid (HX.out.bad (g := addR f lo hi) H3.out)
    go_wp2_with fail
    go_roundw
    case rel => exact ⟨false, _, s3, true, rfl, by omega, R4, HX', F4, G4, B4⟩
    case measure => rw [LM.out, left_done]; omega
   | false =>
    clear h1 h2
    have h2 := R4.out.cells.2.1
    have HL := Lib.hid H3.out.less
    go_wp2_with fail
    refine (skip_any ⟨#[93]⟩ ra s3 false (by omega) _ R4.out).mono ?_
    intro e w5 hsk5
    obtain ⟨h6, h7, h8, -⟩ := hsk5
    have B5 : Hid (But (· = ra) w w5) := B4.out.trans h8 (fun _ _ h => h)
    have F5 : Hid (Blk w5 g2 162 (clsC (addR f lo hi) ++ [])) := F4.out.but h8 (by have := G0.out; have := G2.out; omega)
    have G5 : Hid (Blk w5 g0 162 Z) := G4.out.but h8 (by have := G0.out; omega)
    cases hb : beg [93] s3.data.toList with
    | true =>
     obtain ⟨rfl, h9⟩ := h6 hb
     have R5 := Lib.hid h9
     have hz := beg_pos hb
     have HX' : Hid (Bx s1.data.toList false (addR f lo hi) (s3.extract 1 s3.size).data.toList false) := by
      obtain ⟨r, hr⟩ := beg_one hb
      have h := H3.out
      have hd := data_cons hz
      rw [hd] at hr
      injection hr with e1 e2
      rw [hd, e1] at h
      exact HX.out.stop h
     clear h6 h7 h8 h9 hb h2
     go_wp2_with fail
     go_roundw
     case rel => exact ⟨false, _, _, false, rfl, by rw [ByteArray.size_extract]; omega, R5, HX', F5, G5, B5⟩
     case measure => rw [LM.out, left_done]; omega
    | false =>
     obtain ⟨rfl, h9⟩ := h7 hb
     have R5 := Lib.hid h9
     have HX' := Lib.hid (HX.out.go H3.out hb)
     have LM5 := Lib.hid (left_more h9)
     clear h6 h7 h8 h9 hb h2
     go_wp2_with fail
     go_roundw
     case rel => exact ⟨true, _, _, false, rfl, by omega, R5, HX', F5, G5, B5⟩
     case measure =>
      rw [LM.out, LM5.out]
      have := HL.out
      rw [size_len, size_len] at this
      omega
  | false =>
   have FIN : Hid (sk.size ≤ s.size ∧ ClsRel s.data.toList sk.data.toList bk (fun x => f x != iv)) := ⟨hsk, by
    rcases HX.out.2 rfl with ⟨rfl, h1⟩ | ⟨rfl, h1, h2⟩
    ·exact ⟨fun _ => by rw [hcl.out]; unfold clsI; rw [h1]; rfl, fun h => (by cases h)⟩
    ·exact ⟨fun h => (by cases h), fun _ => ⟨by rw [hcl.out]; unfold clsI; rw [h2]; rfl, h1⟩⟩⟩
   have F0 : Hid (Blk wr g2 162 (clsC (flipTo f iv 0) ++ [])) := by rw [clsC_ext (flip_zero f iv)]; exact HF.out
   have I0 : Hid (wr.heap.size = wr.heap.size) := rfl
   have GB : Hid (g2 < wr.heap.size ∧ ra < wr.heap.size ∧ g2 ≠ g0 ∧ g2 ≠ ra ∧ g0 ≠ ra ∧ w.heap.size ≤ g0 ∧ w.heap.size ≤ g2) := ⟨HF.out.lt, HR.out.lt, by have := G0.out; have := G2.out; omega, by have := G0.out; have := G2.out; omega, by have := G0.out; omega, by have := G0.out; omega, by have := G0.out; have := G2.out; omega⟩
   clear HX hcl G0 G2
   obtain ⟨wo, rfl⟩ : ∃ wo : World, wo = wr := ⟨_, rfl⟩
   go_wp2_with fail
   go_loopw [25] (fun v wr => ∃ k : Nat, k ≤ 256 ∧ v = .int .i64 k ∧ Hid (Blk wr g2 162 (clsC (flipTo f iv k) ++ [])) ∧ Hid (But (· = g2) wo wr)) (fun v _ => 256 - (intOf v).toNat)
   case atStart => exact ⟨0, by omega, rfl, F0, But.refl _ _⟩
   case round =>
    clear F0 I0
    obtain ⟨k, hk, rfl, HK, HW⟩ := hrel
    by_cases hlt : k < 256
    ·have h1 : wr.cell? ⟨g2, k, none⟩ = some (.bool (f (UInt8.ofNat k))) := by
      rw [HK.out.cell, front_at hlt, flip_at f iv hlt]
     have h2 := HK.out.froz k
     have HN : Hid (Blk (wr.setCell ⟨g2, k, none⟩ (.bool (f (UInt8.ofNat k) != iv))) g2 162 (clsC (flipTo f iv (k + 1)) ++ [])) := by
      have h3 := HK.out.set k (.bool (f (UInt8.ofNat k) != iv))
      rw [set_front hlt, clsC_ext (flip_step f iv hlt)] at h3
      exact h3
     generalize f (UInt8.ofNat k) = fk at h1 HN
     have hbv : (fk != iv) = (!(fk == iv)) := rfl
     go_wp2_with fail
     go_roundw
     case rel =>
      refine ⟨k + 1, by omega, by go_num, ?_, HW.out.setCell (p := ⟨g2, k, none⟩) (fun _ => rfl) _⟩
      first
       | exact HN.out
       | (have h4 := HN.out; simp only [bne] at h4 ⊢; exact h4)
     case measure => simp [intOf]; omega
    ·obtain rfl : k = 256 := by omega
     obtain ⟨L, hL⟩ : ∃ L, L = clsC (fun x => f x != iv) := ⟨_, rfl⟩
     have K2 : Hid (Blk wr g2 162 L) := by
      have h := HK.out
      rw [List.append_nil, clsC_ext (flip_end f iv)] at h
      rw [hL]
      exact h
     have HL : Hid (L.length = 256) := by rw [hL]; exact clsC_len _
     have OL : Hid (∀ v ∈ L, v.oneCell' = true) := by rw [hL]; exact clsC_one _
     have HLL := Lib.hid hL
     have GQ : Hid (Blk wr g0 162 Z) := HG.out.but HW.out (by have := GB.out; omega)
     clear hL HK
     go_wp2_with (first
  | ((with_reducible refine wpList_load_abs (o := ⟨_, .load 162 (.tmp 4), _, _, _, _⟩) rfl 162 _ rfl g2 0 ?_ L K2.out.range _ Tryz.underlying162 rfl 256 size45 HL.out ?_); (· rfl))
  | ((with_reducible refine wpList_store_abs (o := ⟨_, .store 162 (.tmp 2) (.tmp 36), _, _, _, _⟩) rfl 162 _ _ rfl rfl g0 L ?_ ?_ 162 Z GQ.out 256 size45 HL.out ZL.out OL.out ?_); (· rfl); (· rfl); intro w7 k7 b7 s7))
     refine bodyPost_ret (results_cell_row rfl _ _ g0 162 L.toArray (0, 0) _ rfl k7.out Tryz.underlying162 rfl (by simpa [HL.out] using size45)) rfl ⟨fun x => f x != iv, sk, bk, by rw [← HLL.out], ?_, ?_, FIN.out.1, FIN.out.2⟩
     ·exact (HR.out.but HW.out (by have := GB.out; omega)).but b7.out (by have := GB.out; omega)
     ·exact (HB.out.row HW.out (fun h => by have := GB.out; omega)).row b7.out (fun h => by have := GB.out; omega)
end Go.Proofs.YtdeppcddknakjaaGreatDoor.Rx
namespace Go.Proofs.YtdeppcddknakjaaGreatDoor.Rx
open Go.RowKit
theorem info_parts {P : Program} {t : TypeId} {z : Value} {n b : Nat} (h : (P.info? t).map (fun i => (i.zero, i.size, i.bytes)) = some (some z, n, b)) : ∃ i, P.info? t = some i ∧ i.zero = some z ∧ i.size = n ∧ i.bytes = b := by
 cases hq : P.info? t with
 | none => rw [hq] at h; cases h
 | some i =>
  rw [hq] at h
  simp only [Option.map_some, Option.some.injEq, Prod.mk.injEq] at h
  exact ⟨i, rfl, h⟩
theorem info47 : (Tryz.prog.info? 164).map (fun i => (i.zero, i.size, i.bytes)) = some (some (.agg Z47.toArray), 260, 288) := by kernel_rfl
theorem info43 : (Tryz.prog.info? 161).map (fun i => (i.zero, i.size, i.bytes)) = some (some (.slice none 0 0), 1, 24) := by kernel_rfl
/-- A slice that reads as an expression. -/
def ExV (w : World) (T : Nat → Prop) (v : Value) (x : List (List Pe)) : Prop := (x ≠ [] ∧ x.length ≤ 1001) ∧ ∃ b cap, v = .slice (some ⟨b, 0, none⟩) x.length cap ∧ T b ∧ AltsV w T b 0 x
def AlV (w : World) (T : Nat → Prop) (v : Value) (a : List Pe) : Prop := ∃ A cap, v = .slice A a.length cap ∧ FsV w T A a
theorem ExV.keep {w w' : World} {T T' : Nat → Prop} {v : Value} {x : List (List Pe)} (h : ExV w T v x) (hT : ∀ k, T k → T' k) (hk : ∀ b j, T b → w'.cell? ⟨b, j, none⟩ = w.cell? ⟨b, j, none⟩) : ExV w' T' v x := by
 obtain ⟨h0, b, cap, h1, h2, h3⟩ := h
 exact ⟨h0, b, cap, h1, hT b h2, AltsV.keep hT hk (hk b · h2) h3⟩
theorem AlV.keep {w w' : World} {T T' : Nat → Prop} {v : Value} {a : List Pe} (h : AlV w T v a) (hT : ∀ k, T k → T' k) (hk : ∀ b j, T b → w'.cell? ⟨b, j, none⟩ = w.cell? ⟨b, j, none⟩) : AlV w' T' v a := by
 obtain ⟨A, cap, h1, h2⟩ := h
 exact ⟨A, cap, h1, h2.keep hT hk⟩
/-- What a part leaves as it was keeps what was made before. -/
theorem fresh_keep {S : Nat → Prop} {a b c : World} (h : But S b c) (hS : ∀ n, S n → n < a.heap.size ∨ b.heap.size ≤ n) : ∀ g j, Fresh a b g → c.cell? ⟨g, j, none⟩ = b.cell? ⟨g, j, none⟩ := fun g j hg =>
 h.cell hg.2 (fun hs => by rcases hS g hs with h1 | h1 <;> (have := hg.1; have := hg.2; omega))
theorem PeV.on {S : Nat → Prop} {a0 a b c : World} {C : List Value} {p : Pe} (hp : PeV b (Fresh a b) C p) (h : But S b c) (hS : ∀ n, S n → n < a.heap.size ∨ b.heap.size ≤ n) (ha : a0.heap.size ≤ a.heap.size) : PeV c (Fresh a0 c) C p :=
 PeV.keep (fun k hk => ⟨Nat.le_trans ha hk.1, Nat.lt_of_lt_of_le hk.2 h.size⟩) (fresh_keep h hS) hp
theorem ExV.on {S : Nat → Prop} {a0 a b c : World} {v : Value} {x : List (List Pe)} (hp : ExV b (Fresh a b) v x) (h : But S b c) (hS : ∀ n, S n → n < a.heap.size ∨ b.heap.size ≤ n) (ha : a0.heap.size ≤ a.heap.size) : ExV c (Fresh a0 c) v x :=
 hp.keep (fun k hk => ⟨Nat.le_trans ha hk.1, Nat.lt_of_lt_of_le hk.2 h.size⟩) (fresh_keep h hS)
theorem PeV.any {w : World} {T : Nat → Prop} {C : List Value} {p : Pe} (h : ∀ w, PeV w (fun _ => False) C p) : PeV w T C p := PeV.keep (w := w) (T := fun _ => False) (fun _ h => h.elim) (fun _ _ h => h.elim) (h w)
theorem PeV.none_ {w w' : World} {T : Nat → Prop} {C : List Value} {p : Pe} (h : PeV w (fun _ => False) C p) : PeV w' T C p := PeV.keep (T := fun _ => False) (fun _ h => h.elim) (fun _ _ h => h.elim) h
/-- An expression's text. -/
structure ExRel (l l' : List UInt8) (b : Bool) (x : List (List Pe)) : Prop where
 ok : b = false → ex [] [] l = some (.alt (reE x), l') ∧ (l' = [] ∨ ∃ r, l' = 41 :: r) ∧ wE x + l'.length ≤ l.length
 no : b = true → ex [] [] l = none ∧ l' = []
structure AltRel (l l' : List UInt8) (b : Bool) (a : List Pe) : Prop where
 ok : b = false → (∀ outs, ex outs [] l = ex outs (reA a) l') ∧ (l' = [] ∨ (∃ r, l' = 41 :: r) ∨ ∃ r, l' = 124 :: r) ∧ wA a + l'.length ≤ l.length
 no : b = true → (∀ outs, ex outs [] l = none) ∧ l' = []
structure AtomRel (l l' : List UInt8) (b : Bool) (p : Pe) : Prop where
 one : p.rp = .one
 ok : b = false → ax l = some (reF p, l') ∧ wF p + l'.length ≤ l.length
 no : b = true → ax l = none ∧ l' = []
structure FacRel (l l' : List UInt8) (b : Bool) (p : Pe) : Prop where
 ok : b = false → wF p + l'.length ≤ l.length ∧ ∃ n r, ax l = some (n, r) ∧ (post n r = some (reF p, l') ∨ (post n r = none ∧ ∃ d q, l' = d :: q ∧ rep d = true))
 no : b = true → ax l = none ∧ l' = []
structure ParRel (l l' : List UInt8) (b : Bool) (p : Pe) : Prop where
 one : p.rp = .one
 ok : b = false → closed (ex [] [] l) = some (reF p, l') ∧ wF p + l'.length ≤ l.length
 no : b = true → closed (ex [] [] l) = none ∧ l' = []
def ExP (ra : Nat) (s : ByteArray) (w : World) (e : Ending) (w' : World) : Prop :=
 ∃ (x : List (List Pe)) (v : Value) (s' : ByteArray) (b' : Bool), e = .returned v ∧ Hid (ExV w' (Fresh w w') v x) ∧ Hid (Rd w' ra s' b') ∧ Hid (But (· = ra) w w') ∧ s'.size ≤ s.size ∧ Hid (ExRel s.data.toList s'.data.toList b' x)
def AlP (ra : Nat) (s : ByteArray) (w : World) (e : Ending) (w' : World) : Prop :=
 ∃ (a : List Pe) (v : Value) (s' : ByteArray) (b' : Bool), e = .returned v ∧ Hid (AlV w' (Fresh w w') v a) ∧ Hid (Rd w' ra s' b') ∧ Hid (But (· = ra) w w') ∧ s'.size ≤ s.size ∧ Hid (AltRel s.data.toList s'.data.toList b' a)
def FaP (Rel : List UInt8 → List UInt8 → Bool → Pe → Prop) (ra : Nat) (s : ByteArray) (w : World) (e : Ending) (w' : World) : Prop :=
 ∃ (p : Pe) (C : List Value) (s' : ByteArray) (b' : Bool), e = .returned (.agg C.toArray) ∧ Hid (PeV w' (Fresh w w') C p) ∧ Hid (Rd w' ra s' b') ∧ Hid (But (· = ra) w w') ∧ s'.size ≤ s.size ∧ Hid (Rel s.data.toList s'.data.toList b' p)
/-! Parentheses. -/
theorem reF_sub (x : List (List Pe)) : reF (.sub x .one) = .alt (reE x) := by rw [reF, withRep]
theorem wF_sub (x : List (List Pe)) : wF (.sub x .one) = 1 + wE x := by rw [wF]; simp only [wR]; omega
theorem par_ok {l r : List UInt8} {x : List (List Pe)} (h : ExRel l (41 :: r) false x) : ParRel l r false (.sub x .one) := by
 refine ⟨rfl, fun _ => ⟨?_, ?_⟩, fun h => (by cases h)⟩
 ·rw [(h.ok rfl).1, reF_sub, closed, if_pos rfl]
 ·have := (h.ok rfl).2.2
  rw [List.length_cons] at this
  rw [wF_sub]
  omega
theorem par_no {l l' : List UInt8} {b : Bool} {x : List (List Pe)} (h : ExRel l l' b x) (hb : beg [41] l' = false) : ParRel l [] true (.sub x .one) := by
 refine ⟨rfl, fun h => (by cases h), fun _ => ⟨?_, rfl⟩⟩
 cases b with
 | true => rw [(h.no rfl).1]; rfl
 | false =>
  obtain ⟨h1, h2, _⟩ := h.ok rfl
  rw [h1]
  rcases h2 with rfl | ⟨r, rfl⟩
  ·rfl
  ·exact absurd rfl (beg_one_no hb)
/-! Atoms. -/
theorem special_mem (c : UInt8) : [46, 91, 93, 40, 41, 124, 42, 43, 63, 92].contains c = special c := by
 unfold special
 simp only [List.contains_cons, List.contains_nil, Bool.or_false, Bool.or_assoc]
theorem atom_par {l r l' : List UInt8} {b : Bool} {p : Pe} (h : l = 40 :: r) (k : ParRel r l' b p) : AtomRel l l' b p := by
 subst h
 refine ⟨k.one, fun hb => ⟨?_, ?_⟩, fun hb => ⟨?_, (k.no hb).2⟩⟩
 ·rw [ax_paren]; exact (k.ok hb).1
 ·have := (k.ok hb).2
  rw [List.length_cons]
  omega
 ·rw [ax_paren]; exact (k.no hb).1
theorem atom_cls {l r l' : List UInt8} {b : Bool} {f : UInt8 → Bool} (h : l = 91 :: r) (k : ClsRel r l' b f) : AtomRel l l' b (.cls f .one) := by
 subst h
 refine ⟨rfl, fun hb => ⟨?_, ?_⟩, fun hb => ⟨?_, (k.no hb).2⟩⟩
 ·rw [ax_cls, reF_cls]; exact k.ok hb
 ·have := cls_len (k.ok hb)
  rw [wF, List.length_cons]
  simp only [wR]
  omega
 ·rw [ax_cls]; exact (k.no hb).1
theorem atom_dot {l r : List UInt8} (h : l = 46 :: r) : AtomRel l r false (.cls (fun _ => true) .one) := by
 subst h
 refine ⟨rfl, fun _ => ⟨?_, ?_⟩, fun hb => (by cases hb)⟩
 ·rw [ax_dot, reF_cls]
 ·rw [wF, List.length_cons]
  simp only [wR]
  omega
theorem atom_esc {l r l' : List UInt8} {b : Bool} {p : Pe} (h : l = 92 :: r) (k : EscRel r l' b p) : AtomRel l l' b p := by
 subst h
 refine ⟨?_, fun hb => ⟨?_, ?_⟩, fun hb => ⟨?_, (k.no hb).2⟩⟩
 ·rcases k.form with ⟨c, rfl⟩ | ⟨f, rfl⟩ <;> rfl
 ·rw [ax_esc]; exact k.ok hb
 ·have h1 := escReAt_len (k.ok hb)
  rw [List.length_cons]
  rcases k.form with ⟨c, rfl⟩ | ⟨f, rfl⟩ <;> (rw [wF]; simp only [wR]; omega)
 ·rw [ax_esc]; exact (k.no hb).1
theorem atom_byte {l r : List UInt8} {c : UInt8} (h : l = c :: r) (hs : special c = false) : AtomRel l r false (.byte c .one) := by
 subst h
 refine ⟨rfl, fun _ => ⟨?_, ?_⟩, fun hb => (by cases hb)⟩
 ·rw [ax_byte r hs, reF_byte]
 ·rw [wF, List.length_cons]
  simp only [wR]
  omega
theorem atom_bad {l r : List UInt8} {c : UInt8} {p : Pe} (hp : p.rp = .one) (h : l = c :: r) (hs : special c = true) (h1 : c ≠ 46) (h2 : c ≠ 92) (h3 : c ≠ 91) (h4 : c ≠ 40) : AtomRel l [] true p := by
 subst h
 exact ⟨hp, fun hb => (by cases hb), fun _ => ⟨ax_bad r hs h1 h2 h3 h4, rfl⟩⟩
/-! Factors. -/
def rpOf (c : UInt8) : Rp := if c = 42 then .star else if c = 43 then .plus else .opt
theorem rpOf_b {c : UInt8} (h : rep c = true) : (rpOf c).b = c := by
 unfold rep at h
 simp only [Bool.or_eq_true, beq_iff_eq] at h
 unfold rpOf
 rcases h with (rfl | rfl) | rfl <;> rfl
theorem withRep_of {n : Re} {c : UInt8} (h : rep c = true) : withRep n (rpOf c) = repRe n c := by
 unfold rep at h
 simp only [Bool.or_eq_true, beq_iff_eq] at h
 unfold rpOf repRe
 rcases h with (rfl | rfl) | rfl <;> rfl
theorem rep_mem (c : UInt8) : [42, 43, 63].contains c = rep c := by
 unfold rep
 simp only [List.contains_cons, List.contains_nil, Bool.or_false, Bool.or_assoc]
theorem wF_with {p : Pe} (h : p.rp = .one) (r : Rp) : wF (p.with r) ≤ wF p + 1 := by
 cases p <;> simp only [Pe.rp] at h <;> subst h <;> simp only [Pe.with, wF, wR] <;> cases r <;> simp only [] <;> omega
theorem fac_plain {l l' : List UInt8} {b : Bool} {p : Pe} (h : AtomRel l l' b p) (hb : beg [42, 43, 63] l' = false) : FacRel l l' b p := by
 refine ⟨fun h0 => ⟨(h.ok h0).2, _, _, (h.ok h0).1, .inl (post_plain fun c r e => ?_)⟩, h.no⟩
 rw [e] at hb
 rw [← rep_mem]
 exact hb
theorem fac_rep {l q : List UInt8} {b : Bool} {p : Pe} {c : UInt8} (h : AtomRel l (c :: q) b p) (hc : rep c = true) : FacRel l q b (p.with (rpOf c)) := by
 refine ⟨fun h0 => ?_, fun h0 => by cases (h.no h0).2⟩
 obtain ⟨h1, h2⟩ := h.ok h0
 rw [List.length_cons] at h2
 have h3 := wF_with h.one (rpOf c)
 refine ⟨by omega, _, _, h1, ?_⟩
 rw [reF_with _ h.one, withRep_of hc]
 match q with
 | [] => left; rw [post, if_pos hc]
 | d :: q =>
  cases hd : rep d with
  | true => right; exact ⟨by rw [post, if_pos hc, if_pos hd], d, q, rfl, hd⟩
  | false => left; rw [post, if_pos hc, if_neg (by rw [hd]; decide)]
theorem PeV.rep {w : World} {T : Nat → Prop} {C : List Value} {p : Pe} (h : PeV w T C p) (hp : p.rp = .one) (r : Rp) : PeV w T (C.set 259 (.int .u8 (r.b.toNat : Int))) (p.with r) := by
 cases p with
 | byte c q => rw [PeV] at h; rw [h]; show PeV w T _ (.byte c r); rw [PeV, facL_rep]
 | cls f q => rw [PeV] at h; rw [h]; show PeV w T _ (.cls f r); rw [PeV, facL_rep]
 | sub e q =>
  rw [PeV] at h
  obtain ⟨h0, b, cap, h1, h2, h3⟩ := h
  show PeV w T _ (.sub e r)
  rw [PeV, h1, facL_rep]
  exact ⟨h0, b, cap, rfl, h2, h3⟩
/-! Alternatives: the loop. -/
inductive AltSt (l : List UInt8) (now : List Pe) (l' : List UInt8) : Bool → Prop
 | go (h : ∀ outs, ex outs [] l = ex outs (reA now) l') (hw : wA now + l'.length ≤ l.length) : AltSt l now l' false
 | bad (h : ∀ outs, ex outs [] l = none) (d : UInt8) (q : List UInt8) (hl : l' = d :: q) (hd : rep d = true) (hw : wA now + l'.length ≤ l.length) : AltSt l now l' false
 | failed (h : ∀ outs, ex outs [] l = none) (hl : l' = []) : AltSt l now l' true
theorem AltSt.step {l now l' l2 b2} {p : Pe} (h : AltSt l now l' false) {c : UInt8} {r : List UInt8} (hl : l' = c :: r) (h1 : c ≠ 41) (h2 : c ≠ 124) (k : FacRel l' l2 b2 p) : AltSt l (now ++ [p]) l2 b2 := by
 subst hl
 cases h with
 | bad h d q hd1 hd hw =>
  injection hd1 with e1 e2
  subst e1 e2
  cases b2 with
  | true => exact .failed h (k.no rfl).2
  | false =>
   obtain ⟨_, n, r', h3, _⟩ := k.ok rfl
   have hs : special c = true := rep_special hd
   unfold rep at hd
   simp only [Bool.or_eq_true, beq_iff_eq] at hd
   rw [ax_bad _ hs (by rcases hd with (rfl | rfl) | rfl <;> decide) (by rcases hd with (rfl | rfl) | rfl <;> decide) (by rcases hd with (rfl | rfl) | rfl <;> decide) (by rcases hd with (rfl | rfl) | rfl <;> decide)] at h3
   cases h3
 | go h hw =>
  cases b2 with
  | true => exact .failed (fun outs => by rw [h]; exact ex_none h1 h2 (k.no rfl).1) (k.no rfl).2
  | false =>
   obtain ⟨hw2, n, r', h3, h4⟩ := k.ok rfl
   have hw3 : wA (now ++ [p]) + l2.length ≤ l.length := by rw [wA_append, wA_one]; omega
   rcases h4 with h4 | ⟨h4, d, q, h5, h6⟩
   ·refine .go (fun outs => ?_) hw3
    rw [h, ex_step h1 h2 h3 h4, reA_append, reA_one]
   ·exact .bad (fun outs => by rw [h]; exact ex_post h1 h2 h3 h4) d q h5 h6 hw3
theorem AltSt.end_ {l now l' b} (h : AltSt l now l' b) (hl : l' = [] ∨ (∃ r, l' = 41 :: r) ∨ ∃ r, l' = 124 :: r) : AltRel l l' b now := by
 cases h with
 | go h hw => exact ⟨fun _ => ⟨h, hl, hw⟩, fun h => (by cases h)⟩
 | bad h d q hd1 hd hw =>
  subst hd1
  exfalso
  rcases hl with e | ⟨r, e⟩ | ⟨r, e⟩
  ·cases e
  ·injection e with e1 e2; subst e1; revert hd; decide
  ·injection e with e1 e2; subst e1; revert hd; decide
 | failed h hl2 => exact ⟨fun h => (by cases h), fun _ => ⟨h, hl2⟩⟩
theorem AltSt.count {l now l'} (h : AltSt l now l' false) : now.length + l'.length ≤ l.length := by
 have hl := wA_len now
 cases h with
 | go h hw => omega
 | bad h d q hd1 hd hw => omega
/-! Expressions: the loop. -/
inductive ExSt (l : List UInt8) (x : List (List Pe)) (l' : List UInt8) : Bool → Prop
 | go (now : List Pe) (outs : List (List Pe)) (hx : x = outs ++ [now]) (h : ex [] [] l = ex (reE outs) (reA now) l') (he : l' = [] ∨ (∃ r, l' = 41 :: r) ∨ ∃ r, l' = 124 :: r) (hw : wE x + l'.length ≤ l.length) (hn : x.length + l'.length ≤ l.length + 1) : ExSt l x l' false
 | failed (h : ex [] [] l = none) (hl : l' = []) (hn : x.length ≤ l.length + 1) : ExSt l x l' true
theorem ExSt.start {l l' : List UInt8} {b : Bool} {a : List Pe} (h : AltRel l l' b a) : ExSt l [a] l' b := by
 cases b with
 | true => exact .failed ((h.no rfl).1 []) (h.no rfl).2 (by rw [List.length_singleton]; omega)
 | false =>
  obtain ⟨h1, h2, h3⟩ := h.ok rfl
  exact .go a [] rfl (h1 []) h2 (by rw [wE_one]; exact h3) (by rw [List.length_singleton]; omega)
theorem ExSt.step {l r l2 : List UInt8} {x : List (List Pe)} {b2 : Bool} {a : List Pe} (h : ExSt l x (124 :: r) false) (k : AltRel r l2 b2 a) : ExSt l (x ++ [a]) l2 b2 := by
 cases h with
 | go now outs hx h he hw hn =>
  have e : ex (reE outs) (reA now) (124 :: r) = ex (reE x) [] r := by rw [ex_bar, hx, reE_append, reE_one]
  rw [e] at h
  rw [List.length_cons] at hw hn
  cases b2 with
  | true => exact .failed (h.trans ((k.no rfl).1 _)) (k.no rfl).2 (by rw [List.length_append, List.length_singleton]; omega)
  | false =>
   obtain ⟨h1, h2, h3⟩ := k.ok rfl
   exact .go a x rfl (h.trans (h1 _)) h2 (by rw [wE_append, wE_one]; omega) (by rw [List.length_append, List.length_singleton]; omega)
theorem ExSt.end_ {l l' : List UInt8} {x : List (List Pe)} {b : Bool} (h : ExSt l x l' b) (hb : beg [124] l' = false) : ExRel l l' b x := by
 cases h with
 | failed h hl _ => exact ⟨fun h => (by cases h), fun _ => ⟨h, hl⟩⟩
 | go now outs hx h he hw hn =>
  refine ⟨fun _ => ?_, fun h => (by cases h)⟩
  rcases he with rfl | ⟨r, rfl⟩ | ⟨r, rfl⟩
  ·exact ⟨by rw [h, ex_nil, hx, reE_append, reE_one], .inl rfl, hw⟩
  ·exact ⟨by rw [h, ex_close, hx, reE_append, reE_one], .inr ⟨r, rfl⟩, hw⟩
  ·exact absurd rfl (beg_one_no hb)
theorem ExSt.few {l l' : List UInt8} {x : List (List Pe)} {b : Bool} (h : ExSt l x l' b) : x.length ≤ l.length + 1 := by
 cases h with
 | failed h hl hn => exact hn
 | go now outs hx h he hw hn => omega
theorem ExSt.count {l l' : List UInt8} {x : List (List Pe)} (h : ExSt l x l' false) : x.length + l'.length ≤ l.length + 1 := by cases h with | go now outs hx h he hw hn => exact hn
end Go.Proofs.YtdeppcddknakjaaGreatDoor.Rx
namespace Go.Proofs.YtdeppcddknakjaaGreatDoor.Rx
open Go.RowKit
theorem size5 : (Tryz.prog.info? 5).map (·.size) = some 1 := by kernel_rfl
set_option maxHeartbeats 4000000 in
set_option maxRecDepth 100000 in
theorem parens_any (ra : Nat) (s : ByteArray) (hs : s.size ≤ 1000) (IH : ∀ w, Rd w ra s false → Calls Tryz.prog 131 #[.pointer (some ⟨ra, 0, none⟩)] w (ExP ra s w)) (w : World) (hr : Rd w ra s false) : Calls Tryz.prog 202 #[.pointer (some ⟨ra, 0, none⟩)] w (FaP ParRel ra s w) := by
 have IH := Lib.hid IH
 have ZL := Lib.hid Z47_len
 have ZZ := Lib.hid zero47'
 generalize Z47 = Z at *
 have KR := Lib.hid hr
 have RL := Lib.hid hr.lt
 clear hr
 go_enter Tryz.func202, Tryz.ntmps202
 go_wp2_with (first
  | ((with_reducible refine wpList_alloc_abs (o := ⟨some 2, .alloc 164, _, _, _, _⟩) rfl 164 rfl Z ZZ.out ?_); intro g0 w0 e0 k0 b0 s0))
 refine (IH.out _ (KR.out.below b0.out)).mono ?_
 rintro e w1 ⟨x, v, s1, bb, rfl, V1, R1, b1, hs1, H1⟩
 have G0 : Hid (ra < g0 ∧ w.heap.size = g0 ∧ w0.heap.size = g0 + 1 ∧ w0.heap.size ≤ w1.heap.size) := ⟨by have := e0.out; have := RL.out; omega, e0.out, s0.out, b1.out.size⟩
 have k1 : Hid (Blk w1 g0 164 Z) := k0.out.but b1.out (by have := G0.out.1; omega)
 have W1 : Hid (But (· = ra) w w1) := (But.of_below b0.out).trans b1.out (fun _ _ h => h)
 obtain ⟨L, hL⟩ : ∃ L, L = facL none_ v false 0 0 := ⟨_, rfl⟩
 obtain ⟨hx0, bx, cap, hv, hbx, hal⟩ := V1.out
 have VC : Hid (v.cells = #[v] ∧ v.oneCell' = true) := by rw [hv]; exact ⟨rfl, rfl⟩
 have BL : Hid (Tryz.prog.built 164 [(1, v)] = some L.toArray) := by rw [hL]; exact built_sub v VC.out.1
 have HL : Hid (L.length = 260) := by rw [hL]; exact facL_len _ _ _ _ _
 have OL : Hid (∀ u ∈ L, u.oneCell' = true) := by rw [hL]; exact facL_one _ VC.out.2 _ _ _
 have PL : Hid (∀ (w2 : World) (T : Nat → Prop), ExV w2 T v x → PeV w2 T L (.sub x .one)) := fun w2 T h => by
  obtain ⟨h0, b, c, h1, h2, h3⟩ := h
  rw [PeV, hL, h1]
  exact ⟨h0, b, c, rfl, h2, h3⟩
 have X1 : Hid (ExV w1 (Fresh w0 w1) v x) := V1
 clear e0 k0 b0 s0 KR hL hx0 hv hbx hal V1
 have FIN : Hid (∀ (w2 w3 : World) (s' : ByteArray) (b' : Bool), But (· = ra) w1 w2 → Rd w2 ra s' b' → But (· = g0) w2 w3 → s'.size ≤ s.size → ParRel s.data.toList s'.data.toList b' (.sub x .one) → FaP ParRel ra s w (.returned (.agg L.toArray)) w3) := fun w2 w3 s' b' h1 h2 h3 h4 h5 => by
  have h6 := G0.out
  have B : But (fun n => n = ra ∨ n = g0) w1 w3 := (h1.mono (S' := fun n => n = ra ∨ n = g0) (fun _ _ h => .inl h)).trans h3 (fun _ _ h => .inr h)
  refine ⟨_, L, s', b', rfl, PL.out _ _ (X1.out.on B (fun n hn => by rcases hn with rfl | rfl <;> omega) (by omega)), h2.but h3 (by omega), ?_, h4, h5⟩
  exact (W1.out.trans h1 (fun _ _ h => h)).row h3 (fun h => by omega)
 clear X1 PL W1
 go_wp2_with fail
 refine (skip_any ⟨#[41]⟩ ra s1 bb (by omega) _ R1.out).mono ?_
 intro e w2 hsk
 obtain ⟨h1, h2, h3, -⟩ := hsk
 have B2 := Lib.hid h3
 have k2 : Hid (Blk w2 g0 164 Z) := k1.out.but h3 (by have := G0.out.1; omega)
 cases hb : beg [41] s1.data.toList with
 | true =>
  obtain ⟨rfl, h4⟩ := h1 hb
  have R2 := Lib.hid h4
  have hz := beg_pos hb
  have HR : Hid ((s1.extract 1 s1.size).size ≤ s.size ∧ ParRel s.data.toList (s1.extract 1 s1.size).data.toList false (.sub x .one) ∧ bb = false) := by
   have hbb : bb = false := by
    cases bb with
    | false => rfl
    | true => have := empty_size (H1.out.no rfl).2; omega
   refine ⟨by rw [ByteArray.size_extract]; omega, ?_, hbb⟩
   obtain ⟨r, hr⟩ := beg_one hb
   have hd := data_cons hz
   rw [hd] at hr
   injection hr with e1 e2
   have h := H1.out
   rw [hbb, hd, e1] at h
   exact par_ok h
  obtain rfl := HR.out.2.2
  clear h1 h2 h3 h4 hb H1
  go_wp2_with (first
  | ((with_reducible refine wpList_build_abs (o := ⟨_, .build 164 _, _, _, _, _⟩) rfl 164 _ rfl [(1, v)] ?_ L BL.out ?_); (· first | (simp; done) | (simp; rfl) | (simp; exact ⟨rfl, rfl⟩)))
  | ((with_reducible refine wpList_store_abs (o := ⟨_, .store 164 (.tmp 2) (.tmp 12), _, _, _, _⟩) rfl 164 _ _ rfl rfl g0 L ?_ ?_ 164 Z k2.out 260 size47 HL.out ZL.out OL.out ?_); (· rfl); (· rfl); intro w3 k3 b3 s3))
  refine bodyPost_ret (results_cell_row rfl _ _ g0 164 L.toArray (0, 0) _ rfl k3.out Tryz.underlying164 rfl (by simpa [HL.out] using size47)) rfl ?_
  exact FIN.out w2 w3 _ false B2.out R2.out b3.out HR.out.1 HR.out.2.1
 | false =>
  obtain ⟨rfl, h4⟩ := h2 hb
  have R2 := Lib.hid h4
  have HR : Hid (ParRel s.data.toList [] true (.sub x .one)) := par_no H1.out hb
  clear h1 h2 h3 h4 hb H1
  go_wp2_with (first
  | (go_at_call 190; (with_reducible refine (fail_rel ra s1 bb _ R2.out).mono ?_); rintro e w4 ⟨rfl, R4, b4, z4⟩)
  | ((with_reducible refine wpList_build_abs (o := ⟨_, .build 164 _, _, _, _, _⟩) rfl 164 _ rfl [(1, v)] ?_ L BL.out ?_); (· first | (simp; done) | (simp; rfl) | (simp; exact ⟨rfl, rfl⟩)))
  | ((with_reducible refine wpList_store_abs (o := ⟨_, .store 164 (.tmp 2) (.tmp 12), _, _, _, _⟩) rfl 164 _ _ rfl rfl g0 L ?_ ?_ 164 Z (k2.out.but b4.out (by have := G0.out.1; omega)) 260 size47 HL.out ZL.out OL.out ?_); (· rfl); (· rfl); intro w5 k5 b5 s5))
  refine bodyPost_ret (results_cell_row rfl _ _ g0 164 L.toArray (0, 0) _ rfl k5.out Tryz.underlying164 rfl (by simpa [HL.out] using size47)) rfl ?_
  exact FIN.out w4 w5 ⟨#[]⟩ true (B2.out.trans b4.out (fun _ _ h => h)) R4.out b5.out (Nat.zero_le _) HR.out
set_option maxHeartbeats 4000000 in
set_option maxRecDepth 100000 in
theorem factor_any (ra : Nat) (s : ByteArray) (hs : s.size ≤ 1000) (IH : ∀ w, Rd w ra s false → Calls Tryz.prog 189 #[.pointer (some ⟨ra, 0, none⟩)] w (FaP AtomRel ra s w)) (w : World) (hr : Rd w ra s false) : Calls Tryz.prog 174 #[.pointer (some ⟨ra, 0, none⟩)] w (FaP FacRel ra s w) := by
 have IH := Lib.hid IH
 have ZL := Lib.hid Z47_len
 have ZZ := Lib.hid zero47'
 generalize Z47 = Z at *
 have KR := Lib.hid hr
 have RL := Lib.hid hr.lt
 clear hr
 go_enter Tryz.func174, Tryz.ntmps174
 go_wp2_with (first
  | ((with_reducible refine wpList_alloc_abs (o := ⟨some 2, .alloc 164, _, _, _, _⟩) rfl 164 rfl Z ZZ.out ?_); intro g0 w0 e0 k0 b0 s0))
 refine (IH.out _ (KR.out.below b0.out)).mono ?_
 rintro e w1 ⟨p, C, s1, bb, rfl, P1, R1, b1, hs1, H1⟩
 have G0 : Hid (ra < g0 ∧ w.heap.size = g0 ∧ w0.heap.size = g0 + 1 ∧ w0.heap.size ≤ w1.heap.size) := ⟨by have := e0.out; have := RL.out; omega, e0.out, s0.out, b1.out.size⟩
 have k1 : Hid (Blk w1 g0 164 Z) := k0.out.but b1.out (by have := G0.out.1; omega)
 have W1 : Hid (But (· = ra) w w1) := (But.of_below b0.out).trans b1.out (fun _ _ h => h)
 have HC := Lib.hid P1.out.len
 have FIN : Hid (∀ (w2 w3 : World) (s' : ByteArray) (q : Pe) (L : List Value) (g3 : Nat), But (fun n => n = ra ∨ n = g3) w1 w2 → w1.heap.size ≤ g3 → Rd w2 ra s' bb → But (· = g0) w2 w3 → s'.size ≤ s.size → FacRel s.data.toList s'.data.toList bb q → (∀ w T, PeV w T C p → PeV w T L q) → FaP FacRel ra s w (.returned (.agg L.toArray)) w3) := fun w2 w3 s' q L g3 h1 hg3 h2 h3 h4 h5 h7 => by
  have h6 := G0.out
  have B : But (fun n => (n = ra ∨ n = g3) ∨ n = g0) w1 w3 := (h1.mono (S' := fun n => (n = ra ∨ n = g3) ∨ n = g0) (fun _ _ h => .inl h)).trans h3 (fun _ _ h => .inr h)
  refine ⟨q, L, s', bb, rfl, h7 _ _ (P1.out.on B (fun n hn => by rcases hn with (rfl | rfl) | rfl <;> omega) (by omega)), h2.but h3 (by omega), ?_, h4, h5⟩
  refine (W1.out.trans h1 (S := (· = ra)) (fun n hn h => ?_)).row h3 (fun h => by omega)
  have := W1.out.size
  rcases h with rfl | rfl
  ·rfl
  ·omega
 clear e0 k0 b0 s0 KR P1
 go_wp2_with (first
  | ((with_reducible refine wpList_alloc_abs (o := ⟨some 3, .alloc 164, _, _, _, _⟩) rfl 164 rfl Z ZZ.out ?_); intro g2 w2 e2 k2 b2 s2)
  | ((with_reducible refine wpList_store_abs (o := ⟨_, .store 164 (.tmp 3) (.tmp 5), _, _, _, _⟩) rfl 164 _ _ rfl rfl g2 C ?_ ?_ 164 Z k2.out 260 size47 HC.out.1 ZL.out HC.out.2 ?_); (· rfl); (· rfl); intro w3 k3 b3 s3))
 have GS : Hid (w1.heap.size = g2) := e2.out
 have R3 : Hid (Rd w3 ra s1 bb) := (R1.out.below b2.out).but b3.out (by have := e2.out; have := R1.out.lt; omega)
 have K0 : Hid (Blk w3 g0 164 Z) := (k1.out.below b2.out k1.out.lt).but b3.out (by have := e2.out; have := k1.out.lt; omega)
 have B3 : Hid (But (fun n => n = ra ∨ n = g2) w1 w3) := (But.of_below b2.out).trans b3.out (fun _ _ h => .inr h)
 have G3 : Hid (ra ≠ g2 ∧ g0 ≠ g2 ∧ ra ≠ g0) := ⟨by have := e2.out; have := R1.out.lt; omega, by have := e2.out; have := k1.out.lt; omega, by have := G0.out.1; omega⟩
 clear e2 k2 b2 s2 k1 W1 R1 b3
 refine (begins_any ra ⟨#[42, 43, 63]⟩ s1 bb _ R3.out).mono ?_
 rintro e w' ⟨he, rfl⟩
 have he : e = .returned (.bool (beg [42, 43, 63] s1.data.toList)) := he
 cases hb : beg [42, 43, 63] s1.data.toList with
 | false =>
  rw [hb] at he
  subst he
  have HR := Lib.hid (fac_plain H1.out hb)
  clear hb H1
  go_wp2_with (first
  | ((with_reducible refine wpList_load_abs (o := ⟨_, .load 164 (.tmp 3), _, _, _, _⟩) rfl 164 _ rfl g2 0 ?_ C k3.out.range _ Tryz.underlying164 rfl 260 size47 HC.out.1 ?_); (· rfl))
  | ((with_reducible refine wpList_store_abs (o := ⟨_, .store 164 (.tmp 2) (.tmp 11), _, _, _, _⟩) rfl 164 _ _ rfl rfl g0 C ?_ ?_ 164 Z K0.out 260 size47 HC.out.1 ZL.out HC.out.2 ?_); (· rfl); (· rfl); intro w4 k4 b4 s4))
  refine bodyPost_ret (results_cell_row rfl _ _ g0 164 C.toArray (0, 0) _ rfl k4.out Tryz.underlying164 rfl (by simpa [HC.out.1] using size47)) rfl ?_
  exact FIN.out w3 w4 s1 p C g2 B3.out (by rw [GS.out]; exact Nat.le_refl _) R3.out b4.out hs1 HR.out (fun _ _ h => h)
 | true =>
  rw [hb] at he
  subst he
  have hz := beg_pos hb
  have HB := Lib.hid hb
  clear hb
  go_wp2_with fail
  refine (next_rel ra s1 bb (by omega) _ R3.out).mono ?_
  rintro e w4 ⟨c, s2, b2, rfl, R4, b4, z4, hs2, H2⟩
  obtain ⟨rfl, l2, rfl⟩ := H2.out.cons _ _ (data_cons hz)
  have HRP : Hid (rep s1[0] = true) := by rw [← rep_mem, ← beg_cons [42, 43, 63] hz]; exact HB.out
  have HR : Hid (FacRel s.data.toList s2.data.toList b2 (p.with (rpOf s1[0]))) := by
   have h := H1.out
   rw [data_cons hz, ← l2] at h
   exact fac_rep h HRP.out
  have HV : Hid (∀ w T, PeV w T C p → PeV w T (C.set 259 (.int .u8 (s1[0].toNat : Int))) (p.with (rpOf s1[0]))) := fun w T h => by
   have h := h.rep H1.out.one (rpOf s1[0])
   rw [rpOf_b HRP.out] at h
   exact h
  have hc := s1[0].toNat_lt
  have HL : Hid ((C.set 259 (.int .u8 (s1[0].toNat : Int))).length = 260) := by rw [List.length_set]; exact HC.out.1
  have OL : Hid (∀ u ∈ C.set 259 (.int .u8 (s1[0].toNat : Int)), u.oneCell' = true) := fun u hu => by
   rcases List.mem_or_eq_of_mem_set hu with h | rfl
   ·exact HC.out.2 u h
   ·rfl
  have k4 : Hid (Blk w4 g2 164 C) := k3.out.but b4.out (by have := G3.out; omega)
  have K4 : Hid (Blk w4 g0 164 Z) := K0.out.but b4.out (by have := G3.out; omega)
  have hlt : Hid (259 < C.length) := by show 259 < C.length; rw [HC.out.1]; decide
  obtain ⟨L, hL⟩ : ∃ L, L = C.set 259 (.int .u8 (s1[0].toNat : Int)) := ⟨_, rfl⟩
  rw [← hL] at HL OL HV
  have HLL := Lib.hid hL
  clear hL l2 H2 HB
  go_wp2_with (first
  | ((with_reducible refine wpList_store_cell (o := ⟨_, .store 5 (.tmp 10) (.tmp 9), _, _, _, _⟩) rfl 5 _ _ rfl rfl g2 259 (.int .u8 (s1[0].toNat : Int)) ?_ ?_ rfl 164 C k4.out hlt.out size5 ?_); (· rfl); (· rfl); intro w5 k5 b5 s5; have k5' : Hid (Blk w5 g2 164 L) := (by rw [HLL.out]; exact k5.out))
  | ((with_reducible refine wpList_load_abs (o := ⟨_, .load 164 (.tmp 3), _, _, _, _⟩) rfl 164 _ rfl g2 0 ?_ L k5'.out.range _ Tryz.underlying164 rfl 260 size47 HL.out ?_); (· rfl))
  | ((with_reducible refine wpList_store_abs (o := ⟨_, .store 164 (.tmp 2) (.tmp 11), _, _, _, _⟩) rfl 164 _ _ rfl rfl g0 L ?_ ?_ 164 Z (K4.out.but b5.out (by have := G3.out; omega)) 260 size47 HL.out ZL.out OL.out ?_); (· rfl); (· rfl); intro w6 k6 b6 s6))
  refine bodyPost_ret (results_cell_row rfl _ _ g0 164 L.toArray (0, 0) _ rfl k6.out Tryz.underlying164 rfl (by simpa [HL.out] using size47)) rfl ?_
  exact FIN.out w5 w6 s2 _ L g2 ((B3.out.trans b4.out (fun _ _ h => .inl h)).trans b5.out (fun _ _ h => .inr h)) (by rw [GS.out]; exact Nat.le_refl _) (R4.out.but b5.out (by have := G3.out; omega)) b6.out (by omega) HR.out HV.out
end Go.Proofs.YtdeppcddknakjaaGreatDoor.Rx
namespace Go.Proofs.YtdeppcddknakjaaGreatDoor.Rx
open Go.RowKit
set_option maxHeartbeats 4000000 in
set_option maxRecDepth 100000 in
theorem atom_any (ra : Nat) (s : ByteArray) (hs : s.size ≤ 1000) (h0 : 0 < s.size) (IH : ∀ (s' : ByteArray) w, s'.size < s.size → Rd w ra s' false → Calls Tryz.prog 131 #[.pointer (some ⟨ra, 0, none⟩)] w (ExP ra s' w)) (w : World) (hr : Rd w ra s false) : Calls Tryz.prog 189 #[.pointer (some ⟨ra, 0, none⟩)] w (FaP AtomRel ra s w) := by
 have IH := Lib.hid IH
 have ZL := Lib.hid Z47_len
 have ZZ := Lib.hid zero47'
 have BZ : Hid (Tryz.prog.built 164 [] = some Z47.toArray) := built_zero
 have OZ : Hid (∀ v ∈ Z47, v.oneCell' = true) := facL_one _ rfl _ _ _
 have PZ : Hid (∀ w T, PeV w T Z47 (.cls none_ .one)) := fun w T => by rw [PeV]; rfl
 generalize Z47 = Z at *
 have KR := Lib.hid hr
 have RL := Lib.hid hr.lt
 clear hr
 go_enter Tryz.func189, Tryz.ntmps189
 go_wp2_with (first
  | ((with_reducible refine wpList_alloc_abs (o := ⟨some 2, .alloc 164, _, _, _, _⟩) rfl 164 rfl Z ZZ.out ?_); intro g0 w0 e0 k0 b0 s0))
 refine (next_rel ra s false hs _ (KR.out.but (S := fun _ => False) (But.of_below b0.out) (by simp))).mono ?_
 rintro e w1 ⟨c, s1, bb, rfl, R1, b1, z1, hs1, H1⟩
 obtain ⟨rfl, l1, rfl⟩ := H1.out.cons _ _ (data_cons h0)
 have HL0 : Hid (s.data.toList = s[0] :: s1.data.toList) := by rw [l1]; exact data_cons h0
 have hlt : Hid (s1.size < s.size) := by
  have h := congrArg List.length HL0.out
  rw [List.length_cons, size_len, size_len] at h
  show s1.size < s.size
  omega
 have k1 : Hid (Blk w1 g0 164 Z) := k0.out.but b1.out (by have := e0.out; have := RL.out; omega)
 have W1 : Hid (But (· = ra) w w1) := (But.of_below b0.out).trans b1.out (fun _ _ h => h)
 have G0 : Hid (ra < g0 ∧ w.heap.size = g0 ∧ g0 < w1.heap.size) := ⟨by have := e0.out; have := RL.out; omega, e0.out, by have := s0.out; have := z1.out; omega⟩
 have FIN : Hid (∀ (w2 w3 : World) (s' : ByteArray) (b' : Bool) (L : List Value) (p : Pe), But (· = ra) w1 w2 → PeV w2 (Fresh w1 w2) L p → Rd w2 ra s' b' → But (· = g0) w2 w3 → s'.size ≤ s.size → AtomRel s.data.toList s'.data.toList b' p → FaP AtomRel ra s w (.returned (.agg L.toArray)) w3) :=
  fun w2 w3 s' b' L p hb hp hR hg hs' hrel => by
   have h6 := G0.out
   exact ⟨p, L, s', b', rfl, hp.on hg (fun n hn => by omega) (by omega), hR.but hg (by omega), (W1.out.trans hb (fun _ _ h => h)).row hg (fun h => by omega), hs', hrel⟩
 clear e0 k0 b0 s0 b1 z1 KR l1 H1
 have hc := s[0].toNat_lt
 by_cases h40 : s[0] = 40
 ·have HR := Lib.hid (fun l' b p k => atom_par (l := s.data.toList) (l' := l') (b := b) (p := p) (r := s1.data.toList) (by have h := HL0.out; rw [h40] at h; exact h) k)
  rw [h40]
  clear h40 hc
  go_wp2_with fail
  refine (parens_any ra s1 (by have := hlt.out; omega) (fun w hw => IH.out s1 w hlt.out hw) _ R1.out).mono ?_
  rintro e w2 ⟨p, L, s2, b2', rfl, P2, R2, b2, hs2, H2⟩
  have HL := Lib.hid P2.out.len
  go_wp2_with (first
  | ((with_reducible refine wpList_store_abs (o := ⟨_, .store 164 (.tmp 2) (.tmp 12), _, _, _, _⟩) rfl 164 _ _ rfl rfl g0 L ?_ ?_ 164 Z (k1.out.but b2.out (by have := G0.out; omega)) 260 size47 HL.out.1 ZL.out HL.out.2 ?_); (· rfl); (· rfl); intro w3 k3 b3 s3))
  refine bodyPost_ret (results_cell_row rfl _ _ g0 164 L.toArray (0, 0) _ rfl k3.out Tryz.underlying164 rfl (by simpa [HL.out.1] using size47)) rfl ?_
  exact FIN.out w2 w3 s2 b2' L p b2.out P2.out R2.out b3.out (by omega) (HR.out _ _ _ H2.out)
 have t40 : ((s[0].toNat : Int) == 40) = false := by simp; exact fun h => h40 (UInt8.toNat_inj.1 (by rw [show ((40 : UInt8)).toNat = 40 from rfl]; omega))
 by_cases h91 : s[0] = 91
 ·have HR := Lib.hid (fun l' b f k => atom_cls (l := s.data.toList) (l' := l') (b := b) (f := f) (r := s1.data.toList) (by have h := HL0.out; rw [h91] at h; exact h) k)
  rw [h91]
  clear h91 hc h40 t40
  go_wp2_with fail
  refine (class_any ra s1 (by have := hlt.out; omega) _ R1.out).mono ?_
  rintro e w2 ⟨f, s2, b2', rfl, R2, b2, hs2, H2⟩
  obtain ⟨L, hL⟩ : ∃ L, L = facL f (.slice none 0 0) false 0 0 := ⟨_, rfl⟩
  have BL : Hid (Tryz.prog.built 164 [(0, .agg (clsC f).toArray)] = some L.toArray) := by rw [hL]; exact built_cls _
  have HL : Hid (L.length = 260) := by rw [hL]; exact facL_len _ _ _ _ _
  have OL : Hid (∀ v ∈ L, v.oneCell' = true) := by rw [hL]; exact facL_one _ rfl _ _ _
  have PL : Hid (∀ w T, PeV w T L (.cls f .one)) := fun w T => by rw [PeV]; exact hL
  have H2' := Lib.hid (HR.out _ _ _ H2.out)
  clear hL
  generalize clsC f = CC at BL ⊢
  go_wp2_with (first
  | ((with_reducible refine wpList_build_abs (o := ⟨_, .build 164 _, _, _, _, _⟩) rfl 164 _ rfl [(0, .agg CC.toArray)] ?_ L BL.out ?_); (· first | (simp; done) | (simp; rfl) | (simp; exact ⟨rfl, rfl⟩)))
  | ((with_reducible refine wpList_store_abs (o := ⟨_, .store 164 (.tmp 2) (.tmp 18), _, _, _, _⟩) rfl 164 _ _ rfl rfl g0 L ?_ ?_ 164 Z (k1.out.but b2.out (by have := G0.out; omega)) 260 size47 HL.out ZL.out OL.out ?_); (· rfl); (· rfl); intro w3 k3 b3 s3))
  refine bodyPost_ret (results_cell_row rfl _ _ g0 164 L.toArray (0, 0) _ rfl k3.out Tryz.underlying164 rfl (by simpa [HL.out] using size47)) rfl ?_
  exact FIN.out w2 w3 s2 b2' L _ b2.out (PL.out _ _) R2.out b3.out (by omega) H2'.out
 have t91 : ((s[0].toNat : Int) == 91) = false := by simp; exact fun h => h91 (UInt8.toNat_inj.1 (by rw [show ((91 : UInt8)).toNat = 91 from rfl]; omega))
 by_cases h46 : s[0] = 46
 ·have HR : Hid (AtomRel s.data.toList s1.data.toList false (.cls (fun _ => true) .one)) := atom_dot (r := s1.data.toList) (by have h := HL0.out; rw [h46] at h; exact h)
  obtain ⟨L, hL⟩ : ∃ L, L = facL (fun _ => true) (.slice none 0 0) false 0 0 := ⟨_, rfl⟩
  have BL : Hid (Tryz.prog.built 164 [(0, .agg (clsC (fun _ => true)).toArray)] = some L.toArray) := by rw [hL]; exact built_cls _
  have HL : Hid (L.length = 260) := by rw [hL]; exact facL_len _ _ _ _ _
  have OL : Hid (∀ v ∈ L, v.oneCell' = true) := by rw [hL]; exact facL_one _ rfl _ _ _
  have PL : Hid (∀ w T, PeV w T L (.cls (fun _ => true) .one)) := fun w T => by rw [PeV]; exact hL
  have CL := Lib.hid (fun w => ranges_all w)
  unfold SetPost at CL
  generalize clsC (fun _ => true) = CC at CL BL
  rw [h46]
  clear hL h46 hc h40 t40 h91 t91
  go_wp2_with (first
  | (go_at_call 204; (with_reducible refine (CL.out _).mono ?_); rintro e w2 ⟨rfl, b2⟩)
  | ((with_reducible refine wpList_build_abs (o := ⟨_, .build 164 _, _, _, _, _⟩) rfl 164 _ rfl [(0, .agg CC.toArray)] ?_ L BL.out ?_); (· first | (simp; done) | (simp; rfl) | (simp; exact ⟨rfl, rfl⟩)))
  | ((with_reducible refine wpList_store_abs (o := ⟨_, .store 164 (.tmp 2) (.tmp 23), _, _, _, _⟩) rfl 164 _ _ rfl rfl g0 L ?_ ?_ 164 Z (k1.out.below b2.out k1.out.lt) 260 size47 HL.out ZL.out OL.out ?_); (· rfl); (· rfl); intro w3 k3 b3 s3))
  refine bodyPost_ret (results_cell_row rfl _ _ g0 164 L.toArray (0, 0) _ rfl k3.out Tryz.underlying164 rfl (by simpa [HL.out] using size47)) rfl ?_
  exact FIN.out w2 w3 s1 false L _ (But.of_below b2.out) (PL.out _ _) (R1.out.below b2.out) b3.out hs1 HR.out
 have t46 : ((s[0].toNat : Int) == 46) = false := by simp; exact fun h => h46 (UInt8.toNat_inj.1 (by rw [show ((46 : UInt8)).toNat = 46 from rfl]; omega))
 by_cases h92 : s[0] = 92
 ·have HR := Lib.hid (fun l' b p k => atom_esc (l := s.data.toList) (l' := l') (b := b) (p := p) (r := s1.data.toList) (by have h := HL0.out; rw [h92] at h; exact h) k)
  rw [h92]
  clear h92 hc h40 t40 h91 t91 h46 t46
  go_wp2_with fail
  refine (escape_any ra s1 (by have := hlt.out; omega) _ R1.out).mono ?_
  rintro e w2 ⟨p, L, s2, b2', rfl, P2, R2, b2, hs2, H2⟩
  have HL := Lib.hid P2.out.len
  go_wp2_with (first
  | ((with_reducible refine wpList_store_abs (o := ⟨_, .store 164 (.tmp 2) (.tmp 28), _, _, _, _⟩) rfl 164 _ _ rfl rfl g0 L ?_ ?_ 164 Z (k1.out.but b2.out (by have := G0.out; omega)) 260 size47 HL.out.1 ZL.out HL.out.2 ?_); (· rfl); (· rfl); intro w3 k3 b3 s3))
  refine bodyPost_ret (results_cell_row rfl _ _ g0 164 L.toArray (0, 0) _ rfl k3.out Tryz.underlying164 rfl (by simpa [HL.out.1] using size47)) rfl ?_
  exact FIN.out w2 w3 s2 b2' L p b2.out P2.out.none_ R2.out b3.out (by omega) (HR.out _ _ _ H2.out)
 have t92 : ((s[0].toNat : Int) == 92) = false := by simp; exact fun h => h92 (UInt8.toNat_inj.1 (by rw [show ((92 : UInt8)).toNat = 92 from rfl]; omega))
 have CI := Lib.hid (fun w => indexByte_any ⟨#[46, 91, 93, 40, 41, 124, 42, 43, 63, 92]⟩ s[0].toNat w)
 have HI : Hid (decide ((0 : Int) ≤ Lib.indexByte [46, 91, 93, 40, 41, 124, 42, 43, 63, 92] s[0]) = special s[0]) := by rw [indexByte_mem, special_mem]; exact rfl
 have CI2 : Hid (∀ w, Calls Tryz.prog 188 #[.string ⟨#[46, 91, 93, 40, 41, 124, 42, 43, 63, 92]⟩, .int .u8 (s[0].toNat : Int)] w fun e w' => e = .returned (.int .i64 (Lib.indexByte [46, 91, 93, 40, 41, 124, 42, 43, 63, 92] s[0])) ∧ w = w') := fun w => by
  refine (CI.out w).mono fun e w' h => ?_
  rw [show s[0].toNat.toUInt8 = s[0] by simp] at h
  exact h
 clear CI
 cases hsp : special s[0] with
 | true =>
  have HR : Hid (AtomRel s.data.toList [] true (.cls none_ .one)) := atom_bad rfl HL0.out hsp h46 h92 h91 h40
  rw [hsp] at HI
  generalize Lib.indexByte [46, 91, 93, 40, 41, 124, 42, 43, 63, 92] s[0] = ix at HI CI2
  have hix : 0 ≤ ix := by simpa using HI.out
  clear hsp HI h46 h92 h91 h40
  go_wp2_with (first
  | (go_at_call 188; (with_reducible refine (CI2.out _).mono ?_); rintro e w' ⟨rfl, rfl⟩)
  | (go_at_call 190; (with_reducible refine (fail_rel ra s1 false _ R1.out).mono ?_); rintro e w2 ⟨rfl, R2, b2, z2⟩)
  | ((with_reducible refine wpList_build_abs (o := ⟨_, .build 164 _, _, _, _, _⟩) rfl 164 _ rfl [] ?_ Z BZ.out ?_); (· first | (simp; done) | (simp; rfl) | (simp; exact ⟨rfl, rfl⟩)))
  | ((with_reducible refine wpList_store_abs (o := ⟨_, .store 164 (.tmp 2) (.tmp 35), _, _, _, _⟩) rfl 164 _ _ rfl rfl g0 Z ?_ ?_ 164 Z (k1.out.but b2.out (by have := G0.out; omega)) 260 size47 ZL.out ZL.out OZ.out ?_); (· rfl); (· rfl); intro w3 k3 b3 s3))
  refine bodyPost_ret (results_cell_row rfl _ _ g0 164 Z.toArray (0, 0) _ rfl k3.out Tryz.underlying164 rfl (by simpa [ZL.out] using size47)) rfl ?_
  exact FIN.out w2 w3 ⟨#[]⟩ true Z _ b2.out (PZ.out _ _) R2.out b3.out (Nat.zero_le _) HR.out
 | false =>
  have HR : Hid (AtomRel s.data.toList s1.data.toList false (.byte s[0] .one)) := atom_byte HL0.out hsp
  rw [hsp] at HI
  generalize Lib.indexByte [46, 91, 93, 40, 41, 124, 42, 43, 63, 92] s[0] = ix at HI CI2
  have hix : ¬ 0 ≤ ix := by simpa using HI.out
  obtain ⟨L, hL⟩ : ∃ L, L = facL (fun x => x == s[0]) (.slice none 0 0) true s[0] 0 := ⟨_, rfl⟩
  have CL : Hid (∀ w, Calls Tryz.prog 206 #[.int .u8 (s[0].toNat : Int)] w fun e w' => e = .returned (.agg L.toArray) ∧ Hid (Below w.heap.size w w')) := fun w => by rw [hL]; exact literal_any s[0] w
  have HL : Hid (L.length = 260) := by rw [hL]; exact facL_len _ _ _ _ _
  have OL : Hid (∀ v ∈ L, v.oneCell' = true) := by rw [hL]; exact facL_one _ rfl _ _ _
  have PL : Hid (∀ w T, PeV w T L (.byte s[0] .one)) := fun w T => by rw [PeV]; exact hL
  clear hsp HI h46 h92 h91 h40 hL
  go_wp2_with (first
  | (go_at_call 188; (with_reducible refine (CI2.out _).mono ?_); rintro e w' ⟨rfl, rfl⟩)
  | (go_at_call 206; (with_reducible refine (CL.out _).mono ?_); rintro e w2 ⟨rfl, b2⟩)
  | ((with_reducible refine wpList_store_abs (o := ⟨_, .store 164 (.tmp 2) (.tmp 7), _, _, _, _⟩) rfl 164 _ _ rfl rfl g0 L ?_ ?_ 164 Z (k1.out.below b2.out k1.out.lt) 260 size47 HL.out ZL.out OL.out ?_); (· rfl); (· rfl); intro w3 k3 b3 s3))
  refine bodyPost_ret (results_cell_row rfl _ _ g0 164 L.toArray (0, 0) _ rfl k3.out Tryz.underlying164 rfl (by simpa [HL.out] using size47)) rfl ?_
  exact FIN.out w2 w3 s1 false L _ (But.of_below b2.out) (PL.out _ _) (R1.out.below b2.out) b3.out hs1 HR.out
end Go.Proofs.YtdeppcddknakjaaGreatDoor.Rx
namespace Go.Proofs.YtdeppcddknakjaaGreatDoor.Rx
open Go.RowKit
/-- The blocks of a call's own, but the row that it grows. -/
def Tr (w wr : World) (v : Value) (n : Nat) : Prop := w.heap.size ≤ n ∧ n < wr.heap.size ∧ some n ≠ v.ownBlock
theorem tr_old {ra : Nat} {w wr w1 w2 w3 : World} {v : Value} (hra : ra < w.heap.size) (h1 : But (· = ra) wr w1) (h2 : Below w1.heap.size w1 w2) (h3 : w2.grownBy w3 v.ownBlock) : ∀ b j, Tr w wr v b → w3.cell? ⟨b, j, none⟩ = wr.cell? ⟨b, j, none⟩ := fun b j hb => by
 have e1 := h1.cell (p := ⟨b, j, none⟩) hb.2.1 (by have := hb.1; show ¬ b = ra; omega)
 have e2 := h2.cell (p := ⟨b, j, none⟩) (Nat.lt_of_lt_of_le hb.2.1 h1.size)
 have e3 : w3.cell? ⟨b, j, none⟩ = w2.cell? ⟨b, j, none⟩ := World.cell?_of_block (w := w2) (h3.block b (by have := hb.2.1; have := h1.size; have := h2.size; omega) hb.2.2)
 exact e3.trans (e2.trans e1)
theorem tr_new {wr w1 w2 w3 : World} {v : Value} (hv : ∀ k, v.ownBlock = some k → k < wr.heap.size) (h2 : Below w1.heap.size w1 w2) (h3 : w2.grownBy w3 v.ownBlock) : ∀ b j, Fresh wr w1 b → w3.cell? ⟨b, j, none⟩ = w1.cell? ⟨b, j, none⟩ := fun b j hb => by
 have e2 := h2.cell (p := ⟨b, j, none⟩) hb.2
 have e3 : w3.cell? ⟨b, j, none⟩ = w2.cell? ⟨b, j, none⟩ := World.cell?_of_block (w := w2) (h3.block b (by have := hb.2; have := h2.size; omega) (fun e => by have := hv b e.symm; have := hb.1; omega))
 exact e3.trans e2
theorem tr_in {w wr w2 w3 : World} {v v' : Value} {b : Nat} (hb : w.heap.size ≤ b) (hb2 : b < w2.heap.size) (hne : some b ≠ v.ownBlock) (h3 : w2.grownBy w3 v.ownBlock) (ho : v'.ownBlock = v.ownBlock ∨ v'.ownBlock = some w2.heap.size) : Tr w w3 v' b := by
 refine ⟨hb, Nat.lt_of_lt_of_le hb2 h3.size, ?_⟩
 rcases ho with h | h
 ·rw [h]; exact hne
 ·rw [h]
  intro e
  injection e with e
  omega
/-- How much is left. -/
def lenR (ra : Nat) (w : World) : Nat := match w.cell? ⟨ra, 0, none⟩ with
 | some (.string s) => s.size
 | _ => 0
theorem lenR_of {ra : Nat} {w : World} {s : ByteArray} {b : Bool} (h : Rd w ra s b) : lenR ra w = s.size := by unfold lenR; rw [h.cells.1]
theorem AltSt.nil {l now l'} (h : AltSt l now l' true) : l' = [] := by cases h with | failed _ h => exact h
theorem ExSt.nil {l l' x} (h : ExSt l x l' true) : l' = [] := by cases h with | failed _ h _ => exact h
theorem beg_two {l : List UInt8} (h : beg [124, 41] l = true) : (∃ r, l = 41 :: r) ∨ ∃ r, l = 124 :: r := by
 cases l with
 | nil => cases h
 | cons c r =>
  have : c = 124 ∨ c = 41 := by simpa [beg] using h
  rcases this with rfl | rfl
  ·exact .inr ⟨r, rfl⟩
  ·exact .inl ⟨r, rfl⟩
theorem FacRel.less {l l' : List UInt8} {b : Bool} {p : Pe} (h : FacRel l l' b p) (h0 : 0 < l.length) : l'.length < l.length := by
 cases b with
 | true => rw [(h.no rfl).2]; exact h0
 | false =>
  have := (h.ok rfl).1
  have := wF_pos p
  omega
set_option maxHeartbeats 4000000 in
set_option maxRecDepth 100000 in
theorem alternative_any (ra : Nat) (s : ByteArray) (hs : s.size ≤ 1000) (IH : ∀ (s' : ByteArray) w, s'.size < s.size → Rd w ra s' false → Calls Tryz.prog 131 #[.pointer (some ⟨ra, 0, none⟩)] w (ExP ra s' w)) (w : World) (hr : Rd w ra s false) : Calls Tryz.prog 155 #[.pointer (some ⟨ra, 0, none⟩)] w (AlP ra s w) := by
 have IH := Lib.hid IH
 have KR := Lib.hid hr
 have RL := Lib.hid hr.lt
 clear hr
 obtain ⟨i0, hi, hz0, hz1, hz2⟩ := info_parts info47
 have HI := Lib.hid hi
 have HZ0 := Lib.hid hz0
 have HZ1 := Lib.hid hz1
 have HZ2 := Lib.hid hz2
 have HZS : Hid ((Value.agg Z47.toArray).cells.size = 260) := by show (Value.agg Z47.toArray).cells.size = 260; simp [Value.cells, Z47_len]
 have I47 : Hid ((Tryz.prog.info? 164).map (fun i => (i.zero, i.size)) = some (some (.agg Z47.toArray), 260)) := by show Option.map _ _ = _; rw [hi]; simp [hz0, hz1]
 clear hi hz0 hz1 hz2
 generalize Value.agg Z47.toArray = zz at *
 go_enter Tryz.func155, Tryz.ntmps155
 go_wp2_with fail
 go_loopw [3] (fun v wr => ∃ (now : List Pe) (xs : List Value) (sk : ByteArray) (bk : Bool), sk.size ≤ s.size ∧ Hid (wr.ownsRow w.heap.size 164 260 v now.length xs) ∧ Hid (RowL wr (Tr w wr v) xs now) ∧ Hid (Rd wr ra sk bk) ∧ Hid (But (· = ra) w wr) ∧ Hid (AltSt s.data.toList now sk.data.toList bk)) (fun _ wr => lenR ra wr)
 case atStart => exact ⟨[], [], s, false, Nat.le_refl _, World.ownsRow_nil _ _ _ _, RowL.nil _ _, KR.out, But.refl _ _, .go (fun _ => rfl) (by rw [wA]; omega)⟩
 case round =>
  obtain ⟨now, xs, sk, bk, hsk, HO, HR, HD, HB, HS⟩ := hrel
  obtain ⟨h1, -, -, -⟩ := HD.out.cells
  have FIN : Hid (AltRel s.data.toList sk.data.toList bk now → AlP ra s w (.returned u3) wr) := fun hrel => by
   obtain ⟨A, cap, hv, hf⟩ := FsV.of_own (T := Fresh w wr) HO.out (HR.out.keep (fun k hk => ⟨hk.1, hk.2.1⟩) (fun _ _ _ => rfl)) (fun g hg => World.ownsRow.lt HO.out g hg)
   exact ⟨now, u3, sk, bk, rfl, ⟨A, cap, hv, hf⟩, HD.out, HB.out, hsk, hrel⟩
  rcases Nat.eq_zero_or_pos sk.size with h0 | h0
  ·have he := emp_true h0
   have HE : Hid (AlP ra s w (.returned u3) wr) := FIN.out (HS.out.end_ (.inl (List.length_eq_zero_iff.1 (by rw [size_len]; exact h0))))
   clear h0 FIN
   go_wp2_with fail
   go_ret
   exact HE.out
  ·have he := emp_false h0
   obtain rfl : bk = false := by
    cases bk with
    | false => rfl
    | true => have := empty_size HS.out.nil; omega
   have CB := Lib.hid (begins_any ra ⟨#[124, 41]⟩ sk false wr HD.out)
   cases hb : beg [124, 41] sk.data.toList with
   | true =>
    have CB1 : Hid (Calls Tryz.prog 173 #[.pointer (some ⟨ra, 0, none⟩), .string ⟨#[124, 41]⟩] wr fun e w' => e = .returned (.bool true) ∧ wr = w') := by rw [← hb]; exact CB.out
    have HE : Hid (AlP ra s w (.returned u3) wr) := FIN.out (HS.out.end_ (.inr (beg_two hb)))
    clear hb CB FIN
    go_wp2_with (first
  | (go_at_call 173; (with_reducible refine (CB1.out).mono ?_); rintro e w' ⟨rfl, rfl⟩))
    go_ret
    exact HE.out
   | false =>
    have CB1 : Hid (Calls Tryz.prog 173 #[.pointer (some ⟨ra, 0, none⟩), .string ⟨#[124, 41]⟩] wr fun e w' => e = .returned (.bool false) ∧ wr = w') := by rw [← hb]; exact CB.out
    have HC : Hid (sk[0] ≠ 41 ∧ sk[0] ≠ 124) := by
     rw [beg_cons _ h0] at hb
     exact ⟨fun e => (by rw [e] at hb; cases hb), fun e => (by rw [e] at hb; cases hb)⟩
    have CF := Lib.hid (fun w hw => factor_any ra sk (by omega) (fun w hw => atom_any ra sk (by omega) h0 (fun s' w h hw => IH.out s' w (by omega) hw) w hw) w hw)
    have HN := Lib.hid HS.out.count
    clear hb CB FIN
    go_wp2_with (first
  | (go_at_call 173; (with_reducible refine (CB1.out).mono ?_); rintro e w' ⟨rfl, rfl⟩))
    refine (CF.out _ HD.out).mono ?_
    rintro e w1 ⟨p, C, s1, b1', rfl, P1, R1, b1, hs1, H1⟩
    have HCL := Lib.hid P1.out.len
    have HNL : Hid (now.length ≤ 1000) := by have := HN.out; rw [size_len, size_len] at this; show now.length ≤ 1000; omega
    have HLT : Hid (s1.size < sk.size) := by
     have := H1.out.less (by rw [size_len]; exact h0)
     rw [size_len, size_len] at this
     exact this
    have ST : Hid (AltSt s.data.toList (now ++ [p]) s1.data.toList b1') := HS.out.step (data_cons h0) HC.out.1 HC.out.2 H1.out
    have LM := Lib.hid (lenR_of HD.out)
    clear he h1 HS HN HC CB1 CF HD
    have hnl := HNL.out
    go_wp2_with (first
     | ((with_reducible refine wpList_buildSlice_abs (o := ⟨_, .buildSlice 161 1 #[(0, .tmp 16)], _, _, _, _⟩) rfl 161 164 _ rfl C ?_ 260 HCL.out.1 (by decide) (by decide) zz Tryz.underlying161 I47.out ?_); (· rfl); intro g2 w2 e2 k2 b2 s2)
     | (at_builtin; refine wpList_append_own_at _ rfl (.tmp 14) (.tmp 17) 161 rfl w.heap.size 164 i0 zz 260 288 Tryz.underlying161 HI.out HZ0.out HZ1.out HZ2.out HZS.out (by decide) u3 now.length xs rfl ((HO.out.kept (row := some ra) ⟨b1.out.os, b1.out.tape, b1.out.output, b1.out.size, fun k hk hne => b1.out.block k hk (fun e => hne (by rw [e]))⟩ (by by_cases hv : u3.ownBlock = none; exact .inl hv; right; intro e; have := (World.ownsRow.lt HO.out ra e).1; have := RL.out; omega)).kept (row := none) ⟨b2.out.os, b2.out.tape, b2.out.output, b2.out.size, fun k hk _ => b2.out.block k hk⟩ (by by_cases hv : u3.ownBlock = none; exact .inl hv; exact .inr hv)) ⟨g2, 0, none⟩ 1 1 C rfl (by rw [HCL.out.1]) (fun j u hu => by have h := k2.out.range j u hu; rw [Nat.zero_add] at h; rw [Addr.add_mid, Nat.zero_add]; exact h) HCL.out.2 (by simp only [maxLen]; omega) (by omega) (by have := HB.out.size; have := b1.out.size; have := b2.out.size; omega) ?_; intro v3 w3 ho3 hg3 _ hor3; have O3 := Lib.hid ho3; have G3 := Lib.hid hg3; have OR3 := Lib.hid hor3; clear ho3 hg3 hor3))
    have HVL : Hid (∀ k, u3.ownBlock = some k → w.heap.size ≤ k ∧ k < wr.heap.size) := World.ownsRow.lt HO.out
    have SZ : Hid (w.heap.size ≤ wr.heap.size ∧ wr.heap.size ≤ w1.heap.size ∧ w1.heap.size ≤ w2.heap.size ∧ ra < w.heap.size) := ⟨HB.out.size, b1.out.size, b2.out.size, RL.out⟩
    have RW : Hid (RowL w3 (Tr w w3 v3) (xs ++ C) (now ++ [p])) := by
     refine RowL.snoc (HR.out.keep (fun k hk => ?_) (tr_old RL.out b1.out b2.out G3.out)) (PeV.keep (fun k hk => ?_) (tr_new (fun k hk => (HVL.out k hk).2) b2.out G3.out) P1.out)
     ·exact tr_in (wr := wr) hk.1 (by have := hk.2.1; have := SZ.out; omega) hk.2.2 G3.out OR3.out
     ·exact tr_in (wr := wr) (by have := hk.1; have := SZ.out; omega) (by have := hk.2; have := SZ.out; omega) (fun e => by have := (HVL.out k e.symm).2; have := hk.1; omega) G3.out OR3.out
    have R3 : Hid (Rd w3 ra s1 b1') := (G3.out.block ra (by have := SZ.out; omega) (fun e => by have := (HVL.out ra e.symm).1; have := SZ.out; omega)).trans (R1.out.below b2.out)
    have B3 : Hid (But (· = ra) w w3) := ((HB.out.trans b1.out (fun _ _ h => h)).add b2.out).grown G3.out (fun k e hk => by have := (HVL.out k e).1; omega)
    have O3' : Hid (w3.ownsRow w.heap.size 164 260 v3 (now ++ [p]).length (xs ++ C)) := by
     rw [List.length_append, List.length_singleton]
     exact O3.out
    have LM3 := Lib.hid (lenR_of R3.out)
    clear O3 G3 OR3 HVL SZ e2 k2 b2 s2 b1 P1 R1 HO HR HB
    go_roundw
    case rel => exact ⟨now ++ [p], xs ++ C, s1, b1', by have := HLT.out; omega, O3', RW, R3, B3, ST⟩
    case measure => rw [LM.out, LM3.out]; exact HLT.out
end Go.Proofs.YtdeppcddknakjaaGreatDoor.Rx
namespace Go.Proofs.YtdeppcddknakjaaGreatDoor.Rx
open Go.RowKit
theorem own_one {w : World} {B g : Nat} {t : TypeId} {v : Value} (h : Blk w g t [v]) (hB : B ≤ g) : w.ownsRow B t 1 (.slice (some ⟨g, 0, none⟩) 1 1) 1 [v] := ⟨rfl, .inr ⟨g, 1, [v].toArray, rfl, hB, h, Nat.le_refl _, by decide, rfl, rfl⟩⟩
set_option maxHeartbeats 4000000 in
set_option maxRecDepth 100000 in
theorem expression_step (ra : Nat) (s : ByteArray) (hs : s.size ≤ 1000) (IH : ∀ (s' : ByteArray) w, s'.size < s.size → Rd w ra s' false → Calls Tryz.prog 131 #[.pointer (some ⟨ra, 0, none⟩)] w (ExP ra s' w)) (w : World) (hr : Rd w ra s false) : Calls Tryz.prog 131 #[.pointer (some ⟨ra, 0, none⟩)] w (ExP ra s w) := by
 have IH := Lib.hid IH
 have KR := Lib.hid hr
 have RL := Lib.hid hr.lt
 clear hr
 obtain ⟨i0, hi, hz0, hz1, hz2⟩ := info_parts info43
 have HI := Lib.hid hi
 have HZ0 := Lib.hid hz0
 have HZ1 := Lib.hid hz1
 have HZ2 := Lib.hid hz2
 clear hi hz0 hz1 hz2
 have CA : Hid (∀ (sk : ByteArray) w, sk.size ≤ s.size → Rd w ra sk false → Calls Tryz.prog 155 #[.pointer (some ⟨ra, 0, none⟩)] w (AlP ra sk w)) := fun sk w h hw => alternative_any ra sk (by omega) (fun s' w h2 hw => IH.out s' w (by omega) hw) w hw
 clear IH
 go_enter Tryz.func131, Tryz.ntmps131
 go_wp2_with fail
 refine (CA.out s _ (Nat.le_refl _) KR.out).mono ?_
 rintro e w1 ⟨a, v, s1, b1', rfl, V1, R1, b1, hs1, H1⟩
 obtain ⟨A, cap, rfl, F1⟩ : ∃ A cap, v = .slice A a.length cap ∧ Hid (FsV w1 (Fresh w w1) A a) := V1.out
 clear V1
 go_wp2_with fail
 have k2 := Blk.new w1 161 [.slice A a.length cap]
 have O0 : Hid ((w1.alloc (.cells [.slice A a.length cap].toArray 161)).ownsRow w.heap.size 161 1 (.slice (some ⟨w1.heap.size, 0, none⟩) 1 1) [a].length [.slice A a.length cap]) := own_one k2 b1.out.size
 have L0 : Hid (AltL (w1.alloc (.cells [.slice A a.length cap].toArray 161)) (Tr w (w1.alloc (.cells [.slice A a.length cap].toArray 161)) (.slice (some ⟨w1.heap.size, 0, none⟩) 1 1)) [.slice A a.length cap] [a]) := by
  refine AltL.snoc (xs := []) (e := []) (AltL.nil _ _) (F1.out.keep (fun k hk => ?_) (fun b j hb => World.cell?_alloc_lt _ _ _ hb.2))
  refine ⟨hk.1, by rw [World.size_alloc]; have := hk.2; omega, fun e => ?_⟩
  have e : some k = some w1.heap.size := e
  injection e with e
  have := hk.2
  omega
 have R0 : Hid (Rd (w1.alloc (.cells [.slice A a.length cap].toArray 161)) ra s1 b1') := R1.out.below ((Below.refl _ _).alloc (Nat.le_refl _) _)
 have B0 : Hid (But (· = ra) w (w1.alloc (.cells [.slice A a.length cap].toArray 161))) := b1.out.alloc _
 have S0 : Hid (ExSt s.data.toList [a] s1.data.toList b1') := ExSt.start H1.out
 clear k2 F1 R1 b1 H1 KR
 go_loopw [3] (fun v wr => ∃ (x : List (List Pe)) (xs : List Value) (sk : ByteArray) (bk : Bool), x ≠ [] ∧ sk.size ≤ s.size ∧ Hid (wr.ownsRow w.heap.size 161 1 v x.length xs) ∧ Hid (AltL wr (Tr w wr v) xs x) ∧ Hid (Rd wr ra sk bk) ∧ Hid (But (· = ra) w wr) ∧ Hid (ExSt s.data.toList x sk.data.toList bk)) (fun _ wr => lenR ra wr)
 case atStart => exact ⟨[a], _, s1, b1', by simp, hs1, O0, L0, R0, B0, S0⟩
 case round =>
  clear O0 L0 R0 B0 S0
  obtain ⟨x, xs, sk, bk, hx, hsk, HO, HR, HD, HB, HS⟩ := hrel
  have HX := Lib.hid hx
  clear hx
  go_wp2_with fail
  refine (skip_any ⟨#[124]⟩ ra sk bk (by omega) _ HD.out).mono ?_
  intro e w2 hsk2
  obtain ⟨h1, h2, h3, -⟩ := hsk2
  cases hb : beg [124] sk.data.toList with
  | false =>
   obtain ⟨rfl, h4⟩ := h2 hb
   have HE : Hid (ExP ra s w (.returned u3) w2) := by
    have hT : ∀ b j, Tr w wr u3 b → w2.cell? ⟨b, j, none⟩ = wr.cell? ⟨b, j, none⟩ := fun b j hb => h3.cell (p := ⟨b, j, none⟩) hb.2.1 (by have := hb.1; have := RL.out; show ¬ b = ra; omega)
    have O2 : w2.ownsRow w.heap.size 161 1 u3 x.length xs := HO.out.kept (row := some ra) ⟨h3.os, h3.tape, h3.output, h3.size, fun k hk hne => h3.block k hk (fun e => hne (by rw [e]))⟩ (by
     by_cases hv : u3.ownBlock = none
     ·exact .inl hv
     ·right; intro e; have := (World.ownsRow.lt HO.out ra e).1; have := RL.out; omega)
    obtain ⟨b, c, hv, hbt, hal⟩ := AltsV.of_own (T := Fresh w w2) O2 (HR.out.keep (fun k hk => ⟨hk.1, Nat.lt_of_lt_of_le hk.2.1 h3.size⟩) hT) (fun g hg => World.ownsRow.lt O2 g hg) HX.out
    exact ⟨x, u3, sk, bk, rfl, ⟨⟨HX.out, by have h := HS.out.few; rw [size_len] at h; omega⟩, b, c, hv, hbt, hal⟩, h4, HB.out.trans h3 (fun _ _ h => h), hsk, HS.out.end_ hb⟩
   clear h1 h2 h3 h4 hb HO HR HS
   go_wp2_with fail
   go_ret
   exact HE.out
  | true =>
   obtain ⟨rfl, h4⟩ := h1 hb
   have hz := beg_pos hb
   obtain rfl : bk = false := by
    cases bk with
    | false => rfl
    | true => have := empty_size HS.out.nil; omega
   have HL : Hid (sk.data.toList = 124 :: (sk.extract 1 sk.size).data.toList) := by
    obtain ⟨r, hr⟩ := beg_one hb
    have hd := data_cons hz
    rw [hd] at hr
    injection hr with e1 e2
    rw [e1] at hd
    exact hd
   have R2 := Lib.hid h4
   have b2 := Lib.hid h3
   have HE1 : Hid ((sk.extract 1 sk.size).size < sk.size) := by show _ < _; rw [ByteArray.size_extract]; omega
   have LM := Lib.hid (lenR_of HD.out)
   have HN := Lib.hid HS.out.count
   clear h1 h2 h3 h4 hb HD
   go_wp2_with fail
   refine (CA.out _ _ (by have := HE1.out; omega) R2.out).mono ?_
   rintro e w3 ⟨a3, v3, s3, b3', rfl, V3, R3, b3, hs3, H3⟩
   obtain ⟨A3, cap3, rfl, F3⟩ : ∃ A cap, v3 = .slice A a3.length cap ∧ Hid (FsV w3 (Fresh w2 w3) A a3) := V3.out
   have ST : Hid (ExSt s.data.toList (x ++ [a3]) s3.data.toList b3') := by
    have h := HS.out
    rw [HL.out] at h
    exact h.step H3.out
   have hnl : x.length ≤ 1001 := by have := HN.out; rw [size_len, size_len] at this; omega
   have B23 : Hid (But (· = ra) wr w3) := b2.out.trans b3.out (fun _ _ h => h)
   have SZ : Hid (w.heap.size ≤ wr.heap.size ∧ wr.heap.size ≤ w2.heap.size ∧ w2.heap.size ≤ w3.heap.size ∧ ra < w.heap.size) := ⟨HB.out.size, b2.out.size, b3.out.size, RL.out⟩
   have HVL : Hid (∀ k, u3.ownBlock = some k → w.heap.size ≤ k ∧ k < wr.heap.size) := World.ownsRow.lt HO.out
   have O3 : Hid (w3.ownsRow w.heap.size 161 1 u3 x.length xs) := HO.out.kept (row := some ra) ⟨B23.out.os, B23.out.tape, B23.out.output, B23.out.size, fun k hk hne => B23.out.block k hk (fun e => hne (by rw [e]))⟩ (by
     by_cases hv : u3.ownBlock = none
     ·exact .inl hv
     ·right; intro e; have := (HVL.out ra e).1; have := RL.out; omega)
   clear V3 H3 HS HL HN b2 b3 HO
   go_wp2_with (first
    | (at_builtin; refine wpList_append_own_at _ rfl (.tmp 9) (.tmp 12) 95 rfl w.heap.size 161 i0 (.slice none 0 0) 1 24 Tryz.underlying95 HI.out HZ0.out HZ1.out HZ2.out rfl (by decide) u3 x.length xs rfl (O3.out.alloc _) ⟨w3.heap.size, 0, none⟩ 1 1 [.slice A3 a3.length cap3] rfl rfl (fun j u hu => by have h := (Blk.new w3 161 [.slice A3 a3.length cap3]).range j u hu; rw [Nat.zero_add] at h; rw [Addr.add_mid, Nat.zero_add]; exact h) (by simp [Value.oneCell']) (by simp only [maxLen]; omega) (by omega) (by have := SZ.out; rw [World.size_alloc]; omega) ?_; intro v5 w5 ho5 hg5 _ hor5; have O5 := Lib.hid ho5; have G5 := Lib.hid hg5; have OR5 := Lib.hid hor5; clear ho5 hg5 hor5))
   have b4 : Hid (Below w3.heap.size w3 (w3.alloc (.cells [.slice A3 a3.length cap3].toArray 161))) := (Below.refl _ _).alloc (Nat.le_refl _) _
   have RW : Hid (AltL w5 (Tr w w5 v5) (xs ++ [.slice A3 a3.length cap3]) (x ++ [a3])) := by
    refine AltL.snoc (HR.out.keep (fun k hk => ?_) (tr_old RL.out B23.out b4.out G5.out)) (F3.out.keep (fun k hk => ?_) (tr_new (wr := w2) (fun k hk => by have := (HVL.out k hk).2; have := SZ.out; omega) b4.out G5.out))
    ·exact tr_in (wr := wr) hk.1 (by have := hk.2.1; have := SZ.out; rw [World.size_alloc]; omega) hk.2.2 G5.out OR5.out
    ·exact tr_in (wr := wr) (by have := hk.1; have := SZ.out; omega) (by have := hk.2; rw [World.size_alloc]; omega) (fun e => by have := (HVL.out k e.symm).2; have := hk.1; have := SZ.out; omega) G5.out OR5.out
   have R5 : Hid (Rd w5 ra s3 b3') := (G5.out.block ra (by have := SZ.out; rw [World.size_alloc]; omega) (fun e => by have := (HVL.out ra e.symm).1; have := SZ.out; omega)).trans (R3.out.below b4.out)
   have B5 : Hid (But (· = ra) w w5) := ((HB.out.trans B23.out (fun _ _ h => h)).add b4.out).grown G5.out (fun k e hk => by have := (HVL.out k e).1; omega)
   have O5' : Hid (w5.ownsRow w.heap.size 161 1 v5 (x ++ [a3]).length (xs ++ [.slice A3 a3.length cap3])) := by
    rw [List.length_append, List.length_singleton]
    exact O5.out
   have LM5 := Lib.hid (lenR_of R5.out)
   clear O5 G5 OR5 HVL SZ b4 R3 F3 O3 HR HB B23
   go_roundw
   case rel => exact ⟨x ++ [a3], _, s3, b3', by simp, by have := HE1.out; omega, O5', RW, R5, B5, ST⟩
   case measure => rw [LM.out, LM5.out]; have := HE1.out; omega
theorem expression_any (ra : Nat) : ∀ (k : Nat) (s : ByteArray) (w : World), s.size ≤ k → k ≤ 1000 → Rd w ra s false → Calls Tryz.prog 131 #[.pointer (some ⟨ra, 0, none⟩)] w (ExP ra s w)
 | 0, s, w, h, hk, hr => expression_step ra s (by omega) (fun s' w h2 _ => by omega) w hr
 | k + 1, s, w, h, hk, hr => expression_step ra s (by omega) (fun s' w h2 hr' => expression_any ra k s' w (by omega) (by omega) hr') w hr
/-- What parsing returns. -/
def ParP (s : ByteArray) (w : World) (e : Ending) (w' : World) : Prop :=
 ∃ (v : Value) (n : Int), e = .returned (.tuple #[v, .int .i64 n]) ∧ Hid (Below w.heap.size w w') ∧ Hid (n = check s.data.toList) ∧ Hid (check s.data.toList = 0 → ∃ x, ExV w' (Fresh w w') v x ∧ parse s.data.toList = some (.alt (reE x)) ∧ wE x ≤ 200)
theorem check_yes {l : List UInt8} {r : Re} (h : l.length ≤ 200) (hp : parse l = some r) : check l = 0 := check_ok.2 ⟨h, r, hp⟩
theorem check_no {l : List UInt8} (h : l.length ≤ 200) (hp : parse l = none) : check l = 3 := by unfold check; rw [if_neg (by omega), hp]; rfl
set_option maxHeartbeats 4000000 in
set_option maxRecDepth 100000 in
theorem parse_any (s : ByteArray) (hs : s.size ≤ maxLen) (w : World) : Calls Tryz.prog 96 #[.string s] w (ParP s w) := by
 unfold maxLen at hs
 by_cases hlt : 200 < s.size
 ·have HR : Hid (check s.data.toList = 4) := by show check _ = 4; unfold check; rw [if_pos (by rw [size_len]; exact hlt)]
  go_enter Tryz.func96, Tryz.ntmps96
  go_wp2_with fail
  go_ret2
  exact ⟨.slice none 0 0, 4, rfl, Below.refl _ _, HR.out.symm, fun h => by rw [HR.out] at h; cases h⟩
 ·have CE := Lib.hid (expression_any w.heap.size 1000 s (w.alloc (.cells #[Value.string s, Value.bool false] 136)) (by omega) (by omega) (show Blk _ _ _ _ from Blk.new w 136 [Value.string s, Value.bool false]))
  go_enter Tryz.func96, Tryz.ntmps96
  go_wp2_with fail
  refine CE.out.mono ?_
  rintro e w1 ⟨x, v, s1, bb, rfl, V1, R1, b1, hs1, H1⟩
  obtain ⟨h1, h2, -, -⟩ := R1.out.cells
  have B1 : Hid (Below w.heap.size w w1) := ((Below.refl _ _).alloc (Nat.le_refl _) _).trans (b1.out.below (by simp) (fun n hn => by omega))
  cases bb with
  | true =>
   have HR : Hid (check s.data.toList = 3) := check_no (by rw [size_len]; omega) (by rw [parse_ex, (H1.out.no rfl).1])
   clear H1
   go_wp2_with fail
   go_ret2
   exact ⟨.slice none 0 0, 3, rfl, B1, HR.out.symm, fun h => by rw [HR.out] at h; cases h⟩
  | false =>
   rcases Nat.eq_zero_or_pos s1.size with h0 | h0
   ·have he := emp_true h0
    have HP : Hid (parse s.data.toList = some (.alt (reE x)) ∧ wE x ≤ 200) := by
     have h := H1.out.ok rfl
     have hl : s1.data.toList = [] := List.length_eq_zero_iff.1 (by rw [size_len]; exact h0)
     rw [hl] at h
     refine ⟨by rw [parse_ex, h.1], ?_⟩
     have := h.2.2
     rw [size_len] at this
     simp at this
     omega
    have HR : Hid (check s.data.toList = 0) := check_yes (by rw [size_len]; omega) HP.out.1
    clear H1 h0
    go_wp2_with fail
    go_ret2
    exact ⟨v, 0, rfl, B1, HR.out.symm, fun _ => ⟨x, V1.out.keep (fun k hk => ⟨by have := hk.1; rw [World.size_alloc] at this; omega, hk.2⟩) (fun _ _ _ => rfl), HP.out⟩⟩
   ·have he := emp_false h0
    have HR : Hid (check s.data.toList = 3) := check_no (by rw [size_len]; omega) (by
     have h := (H1.out.ok rfl).1
     rw [data_cons h0] at h
     rw [parse_ex, h])
    clear H1
    go_wp2_with fail
    go_ret2
    exact ⟨.slice none 0 0, 3, rfl, B1, HR.out.symm, fun h => by rw [HR.out] at h; cases h⟩
set_option maxHeartbeats 1000000 in
theorem check_any (s : ByteArray) (hs : s.size ≤ maxLen) (w : World) : Calls Tryz.prog 68 #[.string s] w fun e w' => e = .returned (.int .i64 (check s.data.toList)) ∧ Hid (Below w.heap.size w w') := by
 go_enter Tryz.func68, Tryz.ntmps68
 go_wp2_with fail
 refine (parse_any s hs w).mono ?_
 rintro e w1 ⟨v, n, rfl, b1, hn, -⟩
 go_wp2_with fail
 go_ret
 exact ⟨by rw [← hn.out]; rfl, b1⟩
end Go.Proofs.YtdeppcddknakjaaGreatDoor.Rx
namespace Go.Proofs.YtdeppcddknakjaaGreatDoor.Rx
open Go.RowKit
theorem info5 : (Tryz.prog.info? 5).map (fun i => (i.zero, i.size, i.bytes)) = some (some (.int .u8 0), 1, 1) := by kernel_rfl
/-- v owns the bytes l. -/
def OwnB (w : World) (B : Nat) (v : Value) (l : List UInt8) : Prop := w.ownsRow B 5 1 v l.length (Lib.byteCells l)
theorem OwnB.snoc {w : World} {B n : Nat} {v : Value} {l m : List UInt8} {xs : List Value} (h : w.ownsRow B 5 1 v (l.length + n) (Lib.byteCells l ++ xs)) (hx : xs = Lib.byteCells m) (hn : n = m.length) : OwnB w B v (l ++ m) := by
 unfold OwnB
 subst hx
 subst hn
 rw [List.length_append, Lib.byteCells_append]
 exact h
theorem OwnB.conv {B : Nat} {W : World} {v : Value} {l : List UInt8} (h : OwnB W B v l) : ∃ A n cap, v = .slice A n cap ∧ (convert 78 9 (.slice A n cap)).run Tryz.prog W = .ok (.string ⟨l.toArray⟩) W := by
 rcases h.2 with ⟨rfl, h0⟩ | ⟨g, cap, cur, rfl, hr⟩
 ·have : l = [] := List.eq_nil_of_length_eq_zero h0
  subst this
  refine ⟨none, 0, 0, rfl, ?_⟩
  exact run_convert_bytes_nil (P := Tryz.prog) W 78 5 Tryz.underlying78 Tryz.underlying5 0 0 9 Tryz.underlying9
 ·refine ⟨_, _, _, rfl, run_convert_bytes_back W 78 9 5 ⟨g, 0, none⟩ cap l Tryz.underlying78 Tryz.underlying5 Tryz.underlying9 fun j hj => ?_⟩
  rw [World.ownsRow.cells (g := g) h rfl j (.int .u8 (l[j].toNat : Int)) (by simp [Lib.byteCells, List.getElem?_eq_getElem hj])]
theorem OwnB.lt {w : World} {B : Nat} {v : Value} {l : List UInt8} (h : OwnB w B v l) : ∀ g, v.ownBlock = some g → B ≤ g ∧ g < w.heap.size := World.ownsRow.lt h
theorem OwnB.below {w w' : World} {B : Nat} {v : Value} {l : List UInt8} (h : OwnB w B v l) (hb : Below w.heap.size w w') : OwnB w' B v l := by
 refine ⟨h.1, ?_⟩
 rcases h.2 with h0 | ⟨g, cap, cur, e, h1, h2, h3⟩
 ·exact .inl h0
 ·exact .inr ⟨g, cap, cur, e, h1, (hb.block g (by have := (World.ownsRow.lt h g (by rw [e]; rfl)).2; omega)).trans h2, h3⟩
theorem OwnB.nil (w : World) (B : Nat) : OwnB w B (.slice none 0 0) [] := World.ownsRow_nil _ _ _ _
/-- The prefix of a text. -/
def pre (l : List UInt8) : List UInt8 × Bool := if check l = 0 then (match parse l with | some r => prefix_ r | none => ([], false)) else ([], false)
theorem pre_no {l : List UInt8} (h : check l ≠ 0) : pre l = ([], false) := if_neg h
theorem pre_yes {l : List UInt8} {r : Re} (h : check l = 0) (hp : parse l = some r) : pre l = prefix_ r := by unfold pre; rw [if_pos h, hp]
def PreP (s : ByteArray) (w : World) (e : Ending) (w' : World) : Prop := ∃ (u : ByteArray) (all : Bool), e = .returned (.tuple #[.string u, .bool all]) ∧ Hid (Below w.heap.size w w') ∧ Hid (pre s.data.toList = (u.data.toList, all))
theorem lead_halt {p : Pe} (h : ∀ c, p ≠ .byte c .one) (l : List Re) : leadB (reF p :: l) = ([], false) := by
 cases p with
 | byte c r =>
  cases r with
  | one => exact absurd rfl (h c)
  | star => rw [reF, withRep, leadB]; intro c h; cases h
  | plus => rw [reF, withRep, leadB]; intro c h; cases h
  | opt => rw [reF, withRep, leadB]; intro c h; cases h
 | cls f r => cases r <;> (rw [reF, withRep, leadB]; intro c h; cases h)
 | sub e r => cases r <;> (rw [reF, withRep, leadB]; intro c h; cases h)
theorem drop_at {α : Type} (l : List α) {k : Nat} (h : k < l.length) : l.drop k = l[k] :: l.drop (k + 1) := List.drop_eq_getElem_cons h
theorem rp_zero {r : Rp} (h : r ≠ .one) : ((r.b.toNat : Int) != 0) = true := by cases r <;> first | exact absurd rfl h | rfl
/-- What the loop of Prefix looks at. -/
theorem fac_look {w : World} {T : Nat → Prop} {C : List Value} {p : Pe} (h : PeV w T C p) :
  (∃ c : UInt8, p = .byte c .one ∧ C[257]? = some (.bool true) ∧ C[258]? = some (.int .u8 (c.toNat : Int)) ∧ C[259]? = some (.int .u8 0)) ∨
  ((∀ c, p ≠ .byte c .one) ∧ (C[257]? = some (.bool false) ∨ (C[257]? = some (.bool true) ∧ ∃ n : Int, C[259]? = some (.int .u8 n) ∧ (n != 0) = true))) := by
 cases p with
 | byte c r =>
  rw [PeV] at h
  subst h
  have hf := facL_at (fun x => x == c) (.slice none 0 0) true c r.b
  by_cases hr : r = .one
  ·subst hr
   exact .inl ⟨c, rfl, hf.2.1, hf.2.2.1, hf.2.2.2⟩
  ·exact .inr ⟨fun d e => hr (by injection e), .inr ⟨hf.2.1, _, hf.2.2.2, rp_zero hr⟩⟩
 | cls f r =>
  rw [PeV] at h
  subst h
  exact .inr ⟨fun c e => (by cases e), .inl (facL_at _ _ _ _ _).2.1⟩
 | sub e r =>
  rw [PeV] at h
  obtain ⟨_, b, cap, h1, _⟩ := h
  subst h1
  exact .inr ⟨fun c e => (by cases e), .inl (facL_at _ _ _ _ _).2.1⟩
set_option maxHeartbeats 4000000 in
set_option maxRecDepth 100000 in
theorem prefix_any (s : ByteArray) (hs : s.size ≤ maxLen) (w : World) : Calls Tryz.prog 109 #[.string s] w (PreP s w) := by
 have ZL := Lib.hid Z47_len
 have ZZ := Lib.hid zero47'
 generalize Z47 = Z at *
 obtain ⟨i0, hi, hz0, hz1, hz2⟩ := info_parts info5
 have HI := Lib.hid hi
 have HZ0 := Lib.hid hz0
 have HZ1 := Lib.hid hz1
 have HZ2 := Lib.hid hz2
 clear hi hz0 hz1 hz2
 go_enter Tryz.func109, Tryz.ntmps109
 go_wp2_with fail
 refine (parse_any s hs w).mono ?_
 rintro e w1 ⟨v, n, rfl, b1, hn, hx⟩
 by_cases hc : check s.data.toList = 0
 ·have hn0 : n = 0 := hn.out.trans hc
  subst hn0
  obtain ⟨x, ⟨hx0, b, cap, rfl, hbT, hal⟩, hp, hw⟩ := hx.out hc
  have HP := Lib.hid (pre_yes hc hp)
  clear hx hn hc hp
  have HAL := Lib.hid hal
  have HBT := Lib.hid hbT
  have HW := Lib.hid hw
  clear hal hbT hw
  by_cases hlen : 1 < x.length
  ·have HE : Hid (pre s.data.toList = ([], false)) := by
    rw [HP.out]
    match x, hlen with
    | [], h => simp at h
    | [_], h => simp at h
    | a :: a' :: x, _ => rw [reE, reE]; rfl
   go_wp2_with fail
   go_ret2
   exact ⟨⟨#[]⟩, false, rfl, b1, HE⟩
  ·obtain ⟨a, rfl⟩ : ∃ a, x = [a] := by
    match x, hx0.1, hlen with
    | [], h, _ => exact absurd rfl h
    | [a], _, _ => exact ⟨a, rfl⟩
    | a :: a' :: x, _, h => simp at h
   obtain ⟨A, c2, hcell, hfs⟩ := HAL.out.at_ 0 (by simp)
   have HFS : Hid (FsV w1 (Fresh w w1) A a) := hfs
   have hcell : w1.cell? ⟨b, 0, none⟩ = some (.slice A a.length c2) := hcell
   have HPR : Hid (prefix_ (.alt (reE [a])) = leadB (reA a)) := by rw [reE_one]; rfl
   have hal : a.length ≤ 200 := by
    have h1 := wA_len a
    have h2 := HW.out
    rw [wE_one] at h2
    omega
   clear hfs hx0 hlen HAL HBT HW
   go_wp2_with fail
   clear hcell
   go_loopw [6, 25] (fun v vi wr => ∃ (k : Nat) (m : List UInt8), k ≤ a.length ∧ vi = .int .i64 k ∧ m.length = k ∧ Hid (OwnB wr w1.heap.size v m) ∧ Hid (Below w1.heap.size w1 wr) ∧ Hid (leadB (reA a) = (m ++ (leadB (reA (a.drop k))).1, (leadB (reA (a.drop k))).2))) (fun _ vi _ => a.length - (intOf vi).toNat)
   case atStart => exact ⟨0, [], Nat.zero_le _, rfl, rfl, OwnB.nil _ _, Below.refl _ _, rfl⟩
   case round =>
    obtain ⟨k, m, hk, rfl, hm, HO, HB, HL⟩ := hrel
    have HM : Hid (m.length = k) := hm
    clear hm
    have B0 : Hid (Below w.heap.size w wr) := b1.out.trans (HB.out.mono b1.out.size)
    by_cases hlt : k < a.length
    ·obtain ⟨g, hA, hgT, hrow⟩ := HFS.out (by intro e; rw [e] at hlt; simp at hlt)
     obtain ⟨C, hr0, hpe⟩ := hrow.at_ k hlt
     rw [Nat.zero_add] at hr0
     have HGT := Lib.hid hgT
     have RC : Hid (wr.rangeAt g (k * 260) C) := rangeAt_keep hr0 (fun j => HB.out.cell hgT.2)
     have HCL := Lib.hid hpe.len
     have LK := Lib.hid (fac_look hpe)
     have HD := Lib.hid (drop_at a hlt)
     subst hA
     clear hgT hrow hr0 hpe
     rcases LK.out with ⟨c, hpc, hc1, hc2, hc3⟩ | ⟨hne, hstop⟩
     ·have HN : Hid (leadB (reA a) = ((m ++ [c]) ++ (leadB (reA (a.drop (k + 1)))).1, (leadB (reA (a.drop (k + 1)))).2)) := by
       show _ = _
       rw [HL.out, HD.out, reA, hpc, reF_byte, leadB]
       simp
      have HC1 := Lib.hid hc1
      have HC2 := Lib.hid hc2
      have HC3 := Lib.hid hc3
      have hcb := c.toNat_lt
      have hml : m.length ≤ 200 := by have := HM.out; omega
      clear hpc hc1 hc2 hc3 LK HD HL
      go_wp2_with (first
  | ((with_reducible refine wpList_load_abs (o := ⟨_, .load 164 (.tmp 27), _, _, _, _⟩) rfl 164 _ rfl g (k * 260) ?_ C RC.out _ Tryz.underlying164 rfl 260 size47 HCL.out.1 ?_); (· first | rfl | simp))
  | ((with_reducible refine wpList_alloc_abs (o := ⟨some 8, .alloc 164, _, _, _, _⟩) rfl 164 rfl Z ZZ.out ?_); intro g2 w2 e2 k2 b2 s2)
  | ((with_reducible refine wpList_store_abs (o := ⟨_, .store 164 (.tmp 8) (.tmp 28), _, _, _, _⟩) rfl 164 _ _ rfl rfl g2 C ?_ ?_ 164 Z k2.out 260 size47 HCL.out.1 ZL.out HCL.out.2 ?_); (· rfl); (· rfl); intro w3 k3 b3 s3; have c1 : w3.cell? ⟨g2, 257, none⟩ = _ := (k3.out.cell 257).trans HC1.out; have c2 : w3.cell? ⟨g2, 258, none⟩ = _ := (k3.out.cell 258).trans HC2.out; have c3 : w3.cell? ⟨g2, 259, none⟩ = _ := (k3.out.cell 259).trans HC3.out; have B3 : Hid (Below wr.heap.size wr w3) := b2.out.trans (b3.out.below b2.out.size (fun n hn => by have := e2.out; omega)))
  | (at_builtin; refine wpList_append_own_at _ rfl (.tmp 39) (.tmp 42) 78 rfl w1.heap.size 5 i0 _ 1 1 Tryz.underlying78 HI.out HZ0.out HZ1.out HZ2.out rfl (by decide) u6 m.length _ rfl ((OwnB.below HO.out B3.out).below ((Below.refl _ _).alloc (Nat.le_refl _) _)) ⟨w3.heap.size, 0, none⟩ 1 1 [.int .u8 (c.toNat : Int)] rfl rfl (fun j u hu => by have h := (Blk.new w3 5 [.int .u8 (c.toNat : Int)]).range j u hu; rw [Nat.zero_add] at h; rw [Addr.add_mid, Nat.zero_add]; exact h) (by simp [Value.oneCell']) (by simp only [maxLen]; omega) (by omega) (by have := HB.out.size; have := B3.out.size; rw [World.size_alloc]; omega) ?_; intro v5 w5 ho5 hg5 _ _; have O5 := Lib.hid (OwnB.snoc (m := [c]) ho5 rfl rfl); have G5 := Lib.hid hg5; clear ho5 hg5))
      have B5 : Hid (Below w1.heap.size w1 w5) := Below.grown ((HB.out.trans (B3.out.mono HB.out.size)).alloc (by have := HB.out.size; have := B3.out.size; omega) _) G5.out (by have := HB.out.size; have := B3.out.size; rw [World.size_alloc]; omega) (fun g e => (HO.out.lt g e).1)
      go_roundw
      case rel => exact ⟨k + 1, m ++ [c], by omega, by go_num, by rw [List.length_append, HM.out]; rfl, O5, B5, HN⟩
      case measure => simp [intOf]; omega
     ·have HE : Hid (pre s.data.toList = (m, false)) := by
       show _ = _
       rw [HP.out, HPR.out, HL.out, HD.out, reA, lead_halt hne]
       simp
      obtain ⟨A6, n6, cap6, hv6, hcv6⟩ := HO.out.conv
      subst hv6
      have HST := Lib.hid hstop
      clear LK HD HL hcv6 hne hstop
      rcases HST.out with hc1 | ⟨hc1, n, hc2, hn0⟩
      all_goals
       have HC1 := Lib.hid hc1
       clear hc1
       try (have HC2 := Lib.hid hc2; clear hc2)
      ·go_wp2_with (first
  | ((with_reducible refine wpList_load_abs (o := ⟨_, .load 164 (.tmp 27), _, _, _, _⟩) rfl 164 _ rfl g (k * 260) ?_ C RC.out _ Tryz.underlying164 rfl 260 size47 HCL.out.1 ?_); (· first | rfl | simp))
  | ((with_reducible refine wpList_alloc_abs (o := ⟨some 8, .alloc 164, _, _, _, _⟩) rfl 164 rfl Z ZZ.out ?_); intro g2 w2 e2 k2 b2 s2)
  | ((with_reducible refine wpList_store_abs (o := ⟨_, .store 164 (.tmp 8) (.tmp 28), _, _, _, _⟩) rfl 164 _ _ rfl rfl g2 C ?_ ?_ 164 Z k2.out 260 size47 HCL.out.1 ZL.out HCL.out.2 ?_); (· rfl); (· rfl); intro w3 k3 b3 s3; have c1 : w3.cell? ⟨g2, 257, none⟩ = _ := (k3.out.cell 257).trans HC1.out; have B3 : Hid (Below wr.heap.size wr w3) := b2.out.trans (b3.out.below b2.out.size (fun n hn => by have := e2.out; omega)); obtain ⟨_, _, _, hq, hcv⟩ := (OwnB.below HO.out B3.out).conv; injection hq with q1 q2 q3; rw [← q1, ← q2, ← q3] at hcv; clear q1 q2 q3))
       go_ret2
       exact ⟨_, false, rfl, B0.out.trans (B3.out.mono B0.out.size), HE⟩
      ·go_wp2_with (first
  | ((with_reducible refine wpList_load_abs (o := ⟨_, .load 164 (.tmp 27), _, _, _, _⟩) rfl 164 _ rfl g (k * 260) ?_ C RC.out _ Tryz.underlying164 rfl 260 size47 HCL.out.1 ?_); (· first | rfl | simp))
  | ((with_reducible refine wpList_alloc_abs (o := ⟨some 8, .alloc 164, _, _, _, _⟩) rfl 164 rfl Z ZZ.out ?_); intro g2 w2 e2 k2 b2 s2)
  | ((with_reducible refine wpList_store_abs (o := ⟨_, .store 164 (.tmp 8) (.tmp 28), _, _, _, _⟩) rfl 164 _ _ rfl rfl g2 C ?_ ?_ 164 Z k2.out 260 size47 HCL.out.1 ZL.out HCL.out.2 ?_); (· rfl); (· rfl); intro w3 k3 b3 s3; have c1 : w3.cell? ⟨g2, 257, none⟩ = _ := (k3.out.cell 257).trans HC1.out; have c3 : w3.cell? ⟨g2, 259, none⟩ = _ := (k3.out.cell 259).trans HC2.out; have B3 : Hid (Below wr.heap.size wr w3) := b2.out.trans (b3.out.below b2.out.size (fun n hn => by have := e2.out; omega)); obtain ⟨_, _, _, hq, hcv⟩ := (OwnB.below HO.out B3.out).conv; injection hq with q1 q2 q3; rw [← q1, ← q2, ← q3] at hcv; clear q1 q2 q3))
       go_ret2
       exact ⟨_, false, rfl, B0.out.trans (B3.out.mono B0.out.size), HE⟩
    ·obtain rfl : k = a.length := by omega
     have HE : Hid (pre s.data.toList = (m, true)) := by
      show _ = _
      rw [HP.out, HPR.out, HL.out, List.drop_of_length_le (Nat.le_refl _), reA, leadB]
      simp
     obtain ⟨A6, n6, cap6, hv6, hcv⟩ := HO.out.conv
     subst hv6
     clear HL
     go_wp2_with fail
     go_ret2
     exact ⟨_, true, rfl, B0, HE⟩
 ·have hn0 : (n != 0) = true := by
   have h := hn.out
   simp
   intro e
   exact hc (h.symm.trans e)
  have HE := Lib.hid (pre_no hc)
  clear hn hx hc
  go_wp2_with fail
  go_ret2
  exact ⟨⟨#[]⟩, false, rfl, b1, HE⟩
end Go.Proofs.YtdeppcddknakjaaGreatDoor.Rx
