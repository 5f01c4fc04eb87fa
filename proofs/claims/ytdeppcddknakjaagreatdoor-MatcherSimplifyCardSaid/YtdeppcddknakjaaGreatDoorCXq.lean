
/- Layer 7: reading a value, of the program. Layer 7: reading a matcher, of the program. Layer 7: reading a list, of the program. Layer 7: texts, of the program. Layer 7: Format, Parse, of the program. -/
import Derived.Test.YtdeppcddknakjaaGreatDoorCLb
import Derived.Test.YtdeppcddknakjaaGreatDoorCVa
import Derived.Test.YtdeppcddknakjaaGreatDoorCXa
import Derived.Shelf.Strings.SlTrimAscii
import Derived.Test.YtdeppcddknakjaaGreatDoorCXj
import Derived.Test.YtdeppcddknakjaaGreatDoorCLa
import Derived.Test.YtdeppcddknakjaaGreatDoorCXf
import Derived.Lib.SlBytesConst
set_option maxRecDepth 100000
set_option linter.unusedVariables false
set_option linter.unusedSimpArgs false
namespace Go.Proofs.YtdeppcddknakjaaGreatDoor.Mx
open Go.RowKit
open Go.Proofs.YtdeppcddknakjaaGreatDoor.Rx (EmpP SameP pfxS hasPrefix_any)
open Go.Proofs.YtdeppcddknakjaaGreatDoor.Lab (nameB getL Lb LS take_snocL OwnM OwnB wpList_append_M wpList_append_M_string bytes_at bytes_one fin_below StrPost)
theorem ext_drop (s : ByteArray) (k : Nat) : (s.extract k s.size).data.toList = s.data.toList.drop k := by
 have h : s.data.size = s.size := rfl
 rw [ByteArray.data_extract, Array.toList_extract, List.extract_eq_take_drop, List.take_of_length_le]
 rw [List.length_drop, Array.length_toList]
 omega
theorem ext_pre (s : ByteArray) (k : Nat) : (s.extract 0 k).data.toList = s.data.toList.take k := by
 rw [ByteArray.data_extract, Array.toList_extract, List.extract_eq_take_drop, List.drop_zero, Nat.sub_zero]
theorem dropC (s : ByteArray) {k : Nat} (h : k < s.size) : s.data.toList.drop k = s[k] :: s.data.toList.drop (k + 1) := by
 have h2 : k < s.data.toList.length := by rw [Array.length_toList]; exact h
 rw [List.drop_eq_getElem_cons h2]
 rfl
theorem dropZ (s : ByteArray) : s.data.toList.drop s.size = [] := List.drop_of_length_le (by rw [Array.length_toList]; exact Nat.le_refl _)
theorem mkS_eq (l : List UInt8) : (⟨l.toArray⟩ : ByteArray).data.toList = l := by simp
theorem une_any (c : UInt8) (w : World) : Calls Tryz.prog 144 #[.int .u8 (c.toNat : Int)] w fun e w' => e = .returned (.int .u8 ((une c).toNat : Int)) ∧ w = w' := by
 by_cases h : c.toNat = 110
 ·have e1 := bneT (a := (c.toNat : Int)) (b := 110) (by omega)
  have e2 : une c = 10 := by unfold une; rw [if_pos h]
  rw [e2]
  clear h
  go_enter Tryz.func144, Tryz.ntmps144
  go_wp2
  go_ret
  exact ⟨rfl, rfl⟩
 ·have e1 := bneF (a := (c.toNat : Int)) (b := 110) (by omega)
  have e2 : une c = c := by unfold une; rw [if_neg h]
  rw [e2]
  clear h
  go_enter Tryz.func144, Tryz.ntmps144
  go_wp2
  go_ret
  exact ⟨rfl, rfl⟩
theorem conv_drewN {B : Nat} {W : World} {v : Value} {l : List UInt8} (h : OwnB W B v l) : ∃ A n cap, v = .slice A n cap ∧ ∀ q, (convert 78 9 (.slice A n cap)).run Tryz.prog (W.drewN q) = .ok (.string ⟨l.toArray⟩) (W.drewN q) := by
 obtain ⟨A, n, cap, rfl, _⟩ := h.conv
 refine ⟨A, n, cap, rfl, fun q => ?_⟩
 have h2 : OwnB (W.drewN q) B (.slice A n cap) l := h
 obtain ⟨A', n', cap', e, h3⟩ := h2.conv
 injection e with e1 e2 e3
 subst e1 e2 e3
 exact h3
/-- Two strings are handed back. -/
def TwoS (a b : List UInt8) (w : World) (e : Ending) (w' : World) : Prop := e = .returned (.tuple #[.string ⟨a.toArray⟩, .string ⟨b.toArray⟩]) ∧ Hid (Below w.heap.size w w')
/-- Where reading stands. -/
structure RvS (s : ByteArray) (w : World) (k : Nat) (acc : List UInt8) (v : Value) (V : World) : Prop where
 own : OwnB V w.heap.size v acc
 bel : Below w.heap.size w V
 len : acc.length ≤ k
 eq : rdv s.data.toList = (acc ++ (rdv (s.data.toList.drop k)).1, (rdv (s.data.toList.drop k)).2)
theorem RvS.plain {s : ByteArray} {w V V0 V1 : World} {k : Nat} {acc : List UInt8} {v v1 : Value} (h : RvS s w k acc v V) (hk : k < s.size) (h34 : ¬ s[k].toNat = 34) (h92 : ¬ (s[k].toNat = 92 ∧ k + 1 < s.size)) (hV : Below V.heap.size V V0) (hg : V0.grownBy V1 v.ownBlock) (ho : OwnB V1 w.heap.size v1 (acc ++ [s[k]])) : RvS s w (k + 1) (acc ++ [s[k]]) v1 V1 := by
 refine ⟨ho, fin_below (.inl h.own) h.bel h.bel.size hV hg, by have := h.len; rw [List.length_append, List.length_singleton]; omega, ?_⟩
 rw [h.eq, dropC s hk, rdv_plain _ h34 (fun e => h92 ⟨e.1, by
  rcases Nat.lt_or_ge (k + 1) s.size with h | h
  ·exact h
  ·exact absurd (List.drop_of_length_le (by rw [Array.length_toList]; exact h)) e.2⟩)]
 simp
theorem RvS.esc {s : ByteArray} {w V V0 V1 : World} {k : Nat} {acc : List UInt8} {v v1 : Value} (h : RvS s w k acc v V) (hk : k + 1 < s.size) (h92 : s[k].toNat = 92) (hV : Below V.heap.size V V0) (hg : V0.grownBy V1 v.ownBlock) (ho : OwnB V1 w.heap.size v1 (acc ++ [une s[k + 1]])) : RvS s w (k + 2) (acc ++ [une s[k + 1]]) v1 V1 := by
 refine ⟨ho, fin_below (.inl h.own) h.bel h.bel.size hV hg, by have := h.len; rw [List.length_append, List.length_singleton]; omega, ?_⟩
 rw [h.eq, dropC s (show k < s.size by omega), dropC s hk, rdv_esc _ _ h92]
 simp
set_option maxHeartbeats 8000000 in
theorem readValue_any (s : ByteArray) (hs : s.size ≤ 1000000) (w : World) :
  Calls Tryz.prog 104 #[.string s] w (TwoS (rdv s.data.toList).1 (rdv s.data.toList).2 w) := by
 have S0 : Hid (RvS s w 0 [] (.slice none 0 0) w) := ⟨World.ownsRow_nil _ _ _ _, Below.refl _ _, Nat.zero_le _, by simp⟩
 have KU := Lib.hid une_any
 obtain ⟨ra, hra⟩ : ∃ ra, ra = (rdv s.data.toList).1 := ⟨_, rfl⟩
 obtain ⟨rb, hrb⟩ : ∃ rb, rb = (rdv s.data.toList).2 := ⟨_, rfl⟩
 rw [← hra, ← hrb]
 have HR : Hid (rdv s.data.toList = (ra, rb)) := by rw [hra, hrb]; exact rfl
 clear hra hrb
 go_enter Tryz.func104, Tryz.ntmps104
 go_wp2
 go_loopw [4, 5] (fun vo vi wr => ∃ (k : Nat) (acc : List UInt8), k ≤ s.size ∧ acc.length ≤ 1000000 ∧ vi = .int .i64 k ∧ Hid (RvS s w k acc vo wr)) (fun _ vi _ => s.size - (intOf vi).toNat)
 case atStart => exact ⟨0, [], by omega, by simp, rfl, S0⟩
 case round =>
  clear S0
  obtain ⟨k, acc, hk, hacc, rfl, H⟩ := hrel
  by_cases hlt : k < s.size
  ·by_cases h34 : s[k].toNat = 34
   ·have e1 := bneT (a := (s[k].toNat : Int)) (b := 34) (by omega)
    have hsl : k + 1 ≤ s.size := hlt
    obtain ⟨Ac, nc, cc, rfl, hcv⟩ := conv_drewN H.out.own
    have HA : Hid (ra = acc ∧ rb = (s.extract (k + 1) s.size).data.toList) := by
     have h := HR.out
     rw [H.out.eq, dropC s hlt, rdv_end _ h34] at h
     injection h with h1 h2
     exact ⟨by rw [← h1]; simp, by rw [← h2, ext_drop]⟩
    have HB := Lib.hid H.out.bel
    clear H h34
    go_wp2_with fail
    go_quiet (fail)
    go_wp2
    go_ret2
    obtain ⟨a1, a2⟩ := HA.out
    exact ⟨by rw [a1, a2, ← Lib.mk_data (s.extract (k + 1) s.size)]; rfl, ⟨HB.out.os, HB.out.tape, HB.out.output, HB.out.size, HB.out.block⟩⟩
   ·have e1 := bneF (a := (s[k].toNat : Int)) (b := 34) (by omega)
    by_cases h92 : s[k].toNat = 92 ∧ k + 1 < s.size
    ·have e2 := bneT (a := (s[k].toNat : Int)) (b := 92) (by omega)
     obtain ⟨h92, hlt2⟩ := h92
     have H9 := Lib.hid h92
     have H3 := Lib.hid h34
     have hw1 : IntKind.i64.wrap ((k : Int) + 1) = ((k + 1 : Nat) : Int) := by rw [IntWalk.i64_in _ (by omega)]; omega
     have hd : decide (((k + 1 : Nat) : Int) < (s.size : Int)) = true := decide_eq_true (by omega)
     clear h92 h34
     go_wp2_with (first
      | (go_at_call 144; (with_reducible refine (KU.out _ _).mono ?_); rintro e wz ⟨rfl, rfl⟩)
      | (at_builtin; refine wpList_append_M rfl (.tmp 39) (.tmp 41) rfl w.heap.size u4 acc rfl (.inl (H.out.own.below ((Below.refl _ _).alloc (Nat.le_refl _) _))) ⟨wr.heap.size, 0, none⟩ 1 [une s[k + 1]] 1 rfl rfl Nat.one_pos (bytes_one wr _) (by simp only [List.length_singleton]; omega) (by have := H.out.bel.size; simp; omega) ?_; intro v1 w1 ho hg; have H2 := Lib.hid (H.out.esc hlt2 H9.out ((Below.refl _ _).alloc (Nat.le_refl _) _) hg ho); clear ho hg))
     go_roundw
     case rel => exact ⟨k + 2, _, by omega, Nat.le_trans H2.out.len (by omega), by go_num, H2⟩
     case measure => simp [intOf]; omega
    ·have H9 := Lib.hid h92
     have H3 := Lib.hid h34
     have h92' : ¬ s[k].toNat = 92 ∨ (s[k].toNat = 92 ∧ ¬ k + 1 < s.size) := by
      rcases Decidable.em (s[k].toNat = 92) with h | h
      ·exact .inr ⟨h, fun h2 => h92 ⟨h, h2⟩⟩
      ·exact .inl h
     clear h92 h34
     rcases h92' with h9 | ⟨h9, hnl⟩
     ·have e2 := bneF (a := (s[k].toNat : Int)) (b := 92) (by omega)
      clear h9
      go_wp2_with (at_builtin; refine wpList_append_M rfl (.tmp 39) (.tmp 41) rfl w.heap.size u4 acc rfl (.inl (H.out.own.below ((Below.refl _ _).alloc (Nat.le_refl _) _))) ⟨wr.heap.size, 0, none⟩ 1 [s[k]] 1 rfl rfl Nat.one_pos (bytes_one wr _) (by simp only [List.length_singleton]; omega) (by have := H.out.bel.size; simp; omega) ?_; intro v1 w1 ho hg; have H2 := Lib.hid (H.out.plain hlt H3.out H9.out ((Below.refl _ _).alloc (Nat.le_refl _) _) hg ho); clear ho hg)
      go_roundw
      case rel => exact ⟨k + 1, _, by omega, Nat.le_trans H2.out.len (by omega), by go_num, H2⟩
      case measure => simp [intOf]; omega
     ·have e2 := bneT (a := (s[k].toNat : Int)) (b := 92) (by omega)
      have hkk : s.size = k + 1 := by omega
      clear h9 hnl
      go_wp2_with (at_builtin; refine wpList_append_M rfl (.tmp 39) (.tmp 41) rfl w.heap.size u4 acc rfl (.inl (H.out.own.below ((Below.refl _ _).alloc (Nat.le_refl _) _))) ⟨wr.heap.size, 0, none⟩ 1 [s[k]] 1 rfl rfl Nat.one_pos (bytes_one wr _) (by simp only [List.length_singleton]; omega) (by have := H.out.bel.size; simp; omega) ?_; intro v1 w1 ho hg; have H2 := Lib.hid (H.out.plain hlt H3.out H9.out ((Below.refl _ _).alloc (Nat.le_refl _) _) hg ho); clear ho hg)
      go_roundw
      case rel => exact ⟨k + 1, _, by omega, Nat.le_trans H2.out.len (by omega), by go_num, H2⟩
      case measure => simp [intOf]; omega
  ·have hkk : k = s.size := by omega
   obtain ⟨Ac, nc, cc, rfl, hcv⟩ := H.out.own.conv
   have HA : Hid (ra = acc ∧ rb = []) := by
    have h := HR.out
    rw [H.out.eq, hkk, dropZ] at h
    injection h with h1 h2
    exact ⟨by rw [← h1]; simp [rdv], by rw [← h2]; rfl⟩
   have HB := Lib.hid H.out.bel
   clear H hkk
   go_wp2
   go_ret2
   obtain ⟨a1, a2⟩ := HA.out
   exact ⟨by rw [a1, a2]; rfl, HB⟩
end Go.Proofs.YtdeppcddknakjaaGreatDoor.Mx
namespace Go.Proofs.YtdeppcddknakjaaGreatDoor.Mx
open Go.RowKit
open Go.Proofs.YtdeppcddknakjaaGreatDoor.Rx (EmpP SameP pfxS hasPrefix_any hasPrefix36 pfx_yes pfx_no)
open Go.Proofs.YtdeppcddknakjaaGreatDoor.Lab (nameB getL Lb LS take_snocL letterB emp_true emp_false)
def nameC : ByteArray := ⟨#[65, 66, 67, 68, 69, 70, 71, 72, 73, 74, 75, 76, 77, 78, 79, 80, 81, 82, 83, 84, 85, 86, 87, 88, 89, 90, 97, 98, 99, 100, 101, 102, 103, 104, 105, 106, 107, 108, 109, 110, 111, 112, 113, 114, 115, 116, 117, 118, 119, 120, 121, 122, 48, 49, 50, 51, 52, 53, 54, 55, 56, 57, 95]⟩
theorem name_all : (List.range 256).all (fun n => (nameC.data.toList.contains (UInt8.ofNat n)) == letterB n) = true := by kernel_rfl
theorem name_at (c : UInt8) : nameC.data.toList.contains c = letterB c.toNat := by
 have h := List.all_eq_true.1 name_all c.toNat (List.mem_range.2 c.toNat_lt)
 rw [beq_iff_eq] at h
 rw [← h, UInt8.ofNat_toNat]
theorem name_low : ∀ (j : Nat) b, nameC.data.toList[j]? = some b → b.toNat < 128 := by
 have h : nameC.data.toList.all (fun b => decide (b.toNat < 128)) = true := by kernel_rfl
 intro j b hb
 have := List.all_eq_true.1 h b (List.mem_of_getElem? hb)
 simpa using this
theorem trim_any (s : ByteArray) (w : World) : Calls Tryz.prog 102 #[.string s, .string nameC] w fun e w' => e = .returned (.string ⟨(restL s.data.toList).toArray⟩) ∧ Below w.heap.size w w' := by
 have h := Any.strings_TrimLeft_laid Tryz.trimM (by kernel_rfl) s nameC w (by decide) name_low
 have e : Lib.trimLeftS s.data.toList nameC.data.toList = restL s.data.toList := by
  unfold Lib.trimLeftS restL
  congr 1
  funext c
  exact name_at c
 rw [e] at h
 exact h
/-- A string ahead is cut off. -/
def CutP (s p : ByteArray) (w : World) (e : Ending) (w' : World) : Prop :=
 ((p.data.toList.isPrefixOf s.data.toList = true ∧ e = .returned (.tuple #[.string (s.extract p.size s.size), .bool true])) ∨ (p.data.toList.isPrefixOf s.data.toList = false ∧ e = .returned (.tuple #[.string s, .bool false]))) ∧ w = w'
theorem cut143 (s p : ByteArray) (hs : s.size ≤ maxLen) (hp : p.size ≤ maxLen) (w : World) : Calls Tryz.prog 143 #[.string s, .string p] w (CutP s p w) := by
 have KH := Lib.hid (hasPrefix36 s p hs hp w)
 cases h : pfxS s p with
 | true =>
  have hle : p.size ≤ s.size := by
   rcases Nat.lt_or_ge s.size p.size with h2 | h2
   ·rw [pfx_no (by omega)] at h; cases h
   ·exact h2
  rw [h] at KH
  unfold maxLen at hs
  go_enter Tryz.func143, Tryz.ntmps143
  go_wp2_with (go_at_call 165; (with_reducible refine KH.out.mono ?_); rintro e wz ⟨rfl, rfl⟩)
  go_ret2
  exact ⟨.inl ⟨h, rfl⟩, rfl⟩
 | false =>
  rw [h] at KH
  go_enter Tryz.func143, Tryz.ntmps143
  go_wp2_with (go_at_call 165; (with_reducible refine KH.out.mono ?_); rintro e wz ⟨rfl, rfl⟩)
  go_ret2
  exact ⟨.inr ⟨h, rfl⟩, rfl⟩
theorem cut_any (s p : ByteArray) (hs : s.size ≤ maxLen) (hp : p.size ≤ maxLen) (w : World) : Calls Tryz.prog 103 #[.string s, .string p] w (CutP s p w) := by
 have KH := Lib.hid (cut143 s p hs hp w)
 go_enter Tryz.func103, Tryz.ntmps103
 go_wp2_with fail
 refine KH.out.mono ?_
 rintro e wz ⟨⟨h, rfl⟩ | ⟨h, rfl⟩, rfl⟩
 ·go_wp2
  go_ret2
  exact ⟨.inl ⟨h, rfl⟩, rfl⟩
 ·go_wp2
  go_ret2
  exact ⟨.inr ⟨h, rfl⟩, rfl⟩
/-- The operators lie in the program's variable. -/
def OpsW (w : World) : Prop := w.cell? ⟨0, 0, none⟩ = some (.string ⟨#[61]⟩) ∧ w.cell? ⟨0, 1, none⟩ = some (.string ⟨#[33, 61]⟩) ∧ w.cell? ⟨0, 2, none⟩ = some (.string ⟨#[61, 126]⟩) ∧ w.cell? ⟨0, 3, none⟩ = some (.string ⟨#[33, 126]⟩)
theorem OpsW.pos {w : World} (h : OpsW w) : 0 < w.heap.size := World.block_lt_of_cell? w _ h.1
theorem OpsW.up {w w' : World} (h : OpsW w) (hb : Below w.heap.size w w') : OpsW w' :=
 ⟨(hb.cell (p := ⟨0, 0, none⟩) h.pos).trans h.1, (hb.cell (p := ⟨0, 1, none⟩) h.pos).trans h.2.1, (hb.cell (p := ⟨0, 2, none⟩) h.pos).trans h.2.2.1, (hb.cell (p := ⟨0, 3, none⟩) h.pos).trans h.2.2.2⟩
def rdmV (s : ByteArray) : Value := match rdm s.data.toList with
 | none => .tuple #[.agg #[.int .i64 0, .string ⟨#[]⟩, .string ⟨#[]⟩], .string s]
 | some (m, r) => .tuple #[.agg #[.int .i64 m.k, .string m.n, .string m.v], .string ⟨r.toArray⟩]
theorem op0_l : ((⟨#[61]⟩ : ByteArray) ++ (⟨#[34]⟩ : ByteArray)).data.toList = [61, 34] := by kernel_rfl
theorem op0_s : ((⟨#[61]⟩ : ByteArray) ++ (⟨#[34]⟩ : ByteArray)).size = 2 := by kernel_rfl
theorem op1_l : ((⟨#[33, 61]⟩ : ByteArray) ++ (⟨#[34]⟩ : ByteArray)).data.toList = [33, 61, 34] := by kernel_rfl
theorem op1_s : ((⟨#[33, 61]⟩ : ByteArray) ++ (⟨#[34]⟩ : ByteArray)).size = 3 := by kernel_rfl
theorem op2_l : ((⟨#[61, 126]⟩ : ByteArray) ++ (⟨#[34]⟩ : ByteArray)).data.toList = [61, 126, 34] := by kernel_rfl
theorem op2_s : ((⟨#[61, 126]⟩ : ByteArray) ++ (⟨#[34]⟩ : ByteArray)).size = 3 := by kernel_rfl
theorem op3_l : ((⟨#[33, 126]⟩ : ByteArray) ++ (⟨#[34]⟩ : ByteArray)).data.toList = [33, 126, 34] := by kernel_rfl
theorem op3_s : ((⟨#[33, 126]⟩ : ByteArray) ++ (⟨#[34]⟩ : ByteArray)).size = 3 := by kernel_rfl
theorem idx0 (W : World) : (Instr.index 79 (.agg #[.string ⟨#[61]⟩, .string ⟨#[33, 61]⟩, .string ⟨#[61, 126]⟩, .string ⟨#[33, 126]⟩]) (.int .i64 0)).run Tryz.prog W = .ok (.string ⟨#[61]⟩) W := by kernel_rfl
theorem idx1 (W : World) : (Instr.index 79 (.agg #[.string ⟨#[61]⟩, .string ⟨#[33, 61]⟩, .string ⟨#[61, 126]⟩, .string ⟨#[33, 126]⟩]) (.int .i64 1)).run Tryz.prog W = .ok (.string ⟨#[33, 61]⟩) W := by kernel_rfl
theorem idx2 (W : World) : (Instr.index 79 (.agg #[.string ⟨#[61]⟩, .string ⟨#[33, 61]⟩, .string ⟨#[61, 126]⟩, .string ⟨#[33, 126]⟩]) (.int .i64 2)).run Tryz.prog W = .ok (.string ⟨#[61, 126]⟩) W := by kernel_rfl
theorem idx3 (W : World) : (Instr.index 79 (.agg #[.string ⟨#[61]⟩, .string ⟨#[33, 61]⟩, .string ⟨#[61, 126]⟩, .string ⟨#[33, 126]⟩]) (.int .i64 3)).run Tryz.prog W = .ok (.string ⟨#[33, 126]⟩) W := by kernel_rfl
/-- Which operators do not stand ahead. -/
def NoOp (R : ByteArray) (k : Nat) : Prop := (0 < k → [61, 34].isPrefixOf R.data.toList = false) ∧ (1 < k → [33, 61, 34].isPrefixOf R.data.toList = false) ∧ (2 < k → [61, 126, 34].isPrefixOf R.data.toList = false) ∧ (3 < k → [33, 126, 34].isPrefixOf R.data.toList = false)
def RdmP (s : ByteArray) (w : World) (e : Ending) (w' : World) : Prop := e = .returned (rdmV s) ∧ Hid (Below w.heap.size w w')
theorem results_cell2 {fn : Func} {p q : Tmp} (h : fn.results = #[.cell p 25, .tmp q]) (tmps : Array Value) (w : World) (g : Nat) (cs : Array Value) (hp : tmps.getD p undef = .pointer (some ⟨g, 0, none⟩)) (hg : w.heap[g]? = some (.cells cs 25 (0, 0))) (hs : cs.size = 3) :
  (results fn tmps).run Tryz.prog w = .ok (.tuple #[.agg cs, tmps.getD q undef]) w := by
 have hp' : tmps[p]?.getD undef = .pointer (some ⟨g, 0, none⟩) := by simpa using hp
 simp [results, h, hp', asAddr, run_loadVar_row (P := Tryz.prog) w g 25 25 cs (0, 0) _ hg Tryz.underlying25 rfl (by rw [hs]; exact info25)]
theorem rm_close {w w2 : World} {fn : Func} {p q : Tmp} {tmps : Array Value} {a b d : Value} (hr : fn.results = #[.cell p 25, .tmp q]) (k : Int) (n v : ByteArray) {s : ByteArray} {x : Value} (hx : tmps.getD q undef = x) (hv : rdmV s = .tuple #[.agg #[.int .i64 k, .string n, .string v], x]) (hp : tmps.getD p undef = .pointer (some ⟨w.heap.size, 0, none⟩))
  (hb : Below (w.alloc (.cells #[a, b, d] 25)).heap.size (w.alloc (.cells #[a, b, d] 25)) w2) :
  bodyPost Tryz.prog fn (RdmP s w) Exit.ret ⟨tmps, []⟩ (((w2.setCell ⟨w.heap.size, 0, none⟩ (.int .i64 k)).setCell ⟨w.heap.size, 1, none⟩ (.string n)).setCell ⟨w.heap.size, 2, none⟩ (.string v)) := by
 have h0 : w2.heap[w.heap.size]? = some (.cells #[a, b, d] 25 (0, 0)) := by
  rw [hb.block _ (by simp)]
  exact heap_alloc_new w (.cells #[a, b, d] 25)
 refine bodyPost_ret (results_cell2 hr _ _ w.heap.size #[.int .i64 k, .string n, .string v] hp (set3 _ _ _ h0) rfl) rfl ⟨by rw [hv, hx], ?_⟩
 have h2 : Below w.heap.size w w2 := ((Below.refl _ _).alloc (Nat.le_refl _) _).trans (hb.mono (by simp))
 exact ((h2.setCell (show w.heap.size ≤ (⟨w.heap.size, 0, none⟩ : Addr).block from Nat.le_refl _) _).setCell (show w.heap.size ≤ (⟨w.heap.size, 1, none⟩ : Addr).block from Nat.le_refl _) _).setCell (show w.heap.size ≤ (⟨w.heap.size, 2, none⟩ : Addr).block from Nat.le_refl _) _
theorem rdmV_none {s : ByteArray} (h : rdm s.data.toList = none) : rdmV s = .tuple #[.agg #[.int .i64 0, .string ⟨#[]⟩, .string ⟨#[]⟩], .string s] := by unfold rdmV; rw [h]
theorem rdmV_some {s : ByteArray} {m : Mt} {r : List UInt8} (h : rdm s.data.toList = some (m, r)) : rdmV s = .tuple #[.agg #[.int .i64 m.k, .string m.n, .string m.v], .string ⟨r.toArray⟩] := by unfold rdmV; rw [h]
set_option maxHeartbeats 8000000 in
theorem readMatcher_any (s : ByteArray) (hs : s.size ≤ 1000000) (w : World) (hO : OpsW w) :
  Calls Tryz.prog 75 #[.string s] w (RdmP s w) := by
 have B0 : Hid (Below w.heap.size w (w.alloc (.cells #[.int .i64 0, .string ⟨#[]⟩, .string ⟨#[]⟩] 25))) := (Below.refl _ _).alloc (Nat.le_refl _) _
 have KT := Lib.hid (trim_any s)
 have HO := Lib.hid hO
 clear hO
 go_enter Tryz.func75, Tryz.ntmps75
 go_wp2_with fail
 refine (KT.out _).mono ?_
 rintro e w1 ⟨rfl, b1⟩
 have B1 : Hid (Below w.heap.size w w1) := B0.out.trans (b1.mono B0.out.size)
 have HB1 := Lib.hid b1
 have hbk : w1.heap[w.heap.size]? = some (.cells #[.int .i64 0, .string ⟨#[]⟩, .string ⟨#[]⟩] 25 (0, 0)) := by
  rw [b1.block _ (by simp)]
  exact heap_alloc_new w _
 obtain ⟨c0, c1, c2⟩ := cell3 hbk
 have f0 : w1.frozen? ⟨w.heap.size, 0, none⟩ = false := by simp [World.frozen?, hbk]
 have f1 : w1.frozen? ⟨w.heap.size, 1, none⟩ = false := by simp [World.frozen?, hbk]
 have f2 : w1.frozen? ⟨w.heap.size, 2, none⟩ = false := by simp [World.frozen?, hbk]
 have hwl : w.heap.size < w1.heap.size := (Array.getElem?_eq_some_iff.1 hbk).1
 clear KT b1 B0 hbk
 obtain ⟨R, hR⟩ : ∃ R : ByteArray, R = ⟨(restL s.data.toList).toArray⟩ := ⟨_, rfl⟩
 rw [← hR]
 have HR : Hid (R.data.toList = restL s.data.toList) := by rw [hR]; exact mkS_eq _
 clear hR
 have hle : R.size ≤ s.size := by
  have h1 : R.data.toList.length = R.size := Array.length_toList
  have h2 : s.data.toList.length = s.size := Array.length_toList
  rw [← h1, HR.out, ← h2]
  exact List.Sublist.length_le (List.dropWhile_sublist _)
 have HN : Hid ((s.extract 0 (s.size - R.size)).data.toList = wordL s.data.toList) := by
  show _ = _
  rw [ext_pre]
  have h1 : R.data.toList.length = R.size := Array.length_toList
  have h2 : s.data.toList.length = s.size := Array.length_toList
  have h3 : wordL s.data.toList ++ restL s.data.toList = s.data.toList := List.takeWhile_append_dropWhile
  have h4 := congrArg List.length h3
  rw [List.length_append, ← HR.out, h1, h2] at h4
  rw [show s.size - R.size = (wordL s.data.toList).length by omega]
  rw [← h3]
  have h5 : wordL (wordL s.data.toList ++ restL s.data.toList) = wordL s.data.toList := by rw [h3]
  rw [h5, List.take_left]
 obtain ⟨o0, o1, o2, o3⟩ := HO.out.up B1.out
 have hss : (s.extract 0 (s.size - R.size)).size = s.size - R.size := by rw [ByteArray.size_extract]; omega
 by_cases hemp : s.size = R.size
 ·have he := emp_true (s := s.extract 0 (s.size - R.size)) (by omega)
  have HV : Hid (rdmV s = .tuple #[.agg #[.int .i64 0, .string ⟨#[]⟩, .string ⟨#[]⟩], .string s]) := by
   refine rdmV_none ?_
   have hw : wordL s.data.toList = [] := by
    rw [← HN.out]
    exact List.eq_nil_of_length_eq_zero (by rw [Array.length_toList]; show (s.extract 0 (s.size - R.size)).size = 0; omega)
   unfold rdm
   rw [if_pos hw]
  clear HN HR hss hemp
  go_wp2
  exact rm_close (x := .string s) rfl _ _ _ rfl HV.out rfl HB1.out
 ·have he := emp_false (s := s.extract 0 (s.size - R.size)) (by omega)
  have HW : Hid (rdm s.data.toList = match opN R.data.toList with
    | none => none
    | some (k, b) => some (⟨k, s.extract 0 (s.size - R.size), ⟨(rdv b).1.toArray⟩⟩, (rdv b).2)) := by
   have hw : wordL s.data.toList ≠ [] := by
    intro h
    have h2 := congrArg List.length h
    rw [← HN.out, Array.length_toList] at h2
    have h3 : (s.extract 0 (s.size - R.size)).data.size = (s.extract 0 (s.size - R.size)).size := rfl
    rw [h3, hss] at h2
    simp at h2
    omega
   have e : (⟨(wordL s.data.toList).toArray⟩ : ByteArray) = s.extract 0 (s.size - R.size) := by rw [← HN.out, Lib.mk_data]
   show _ = _
   unfold rdm
   rw [if_neg hw, ← HR.out, e]
   rfl
  have hsz2 : (s.extract 0 (s.size - R.size)).size ≤ s.size := by omega
  have hRm : R.size ≤ maxLen := by unfold maxLen; omega
  have KC := Lib.hid (fun p hp w => cut_any R p hRm hp w)
  have KV := Lib.hid (fun (u : ByteArray) (h : u.size ≤ 1000000) w => readValue_any u h w)
  have hnn : ¬ s.size = R.size := hemp
  clear HN HR hss hemp hRm
  have N0 : Hid (NoOp R 0) := ⟨fun h => by omega, fun h => by omega, fun h => by omega, fun h => by omega⟩
  go_wp2_with fail
  clear o0 o1 o2 o3 he
  go_loopw [26] (fun vi wr => ∃ k : Nat, k ≤ 4 ∧ vi = .int .i64 k ∧ Hid (NoOp R k) ∧ wr = w1) (fun vi _ => 4 - (intOf vi).toNat)
  case atStart => exact ⟨0, by omega, rfl, N0, rfl⟩
  case round =>
   clear N0
   obtain ⟨k, hk, rfl, HN, rfl⟩ := hrel
   have hk' : k = 0 ∨ k = 1 ∨ k = 2 ∨ k = 3 ∨ k = 4 := by omega
   clear hk
   rcases hk' with rfl | rfl | rfl | rfl | rfl
   ·have hix := idx0
    go_wp2_with fail
    refine (KC.out _ (by rw [op0_s]; unfold maxLen; omega) _).mono ?_
    rintro e wz ⟨⟨hp, rfl⟩ | ⟨hp, rfl⟩, rfl⟩
    ·rw [op0_l] at hp
     have hU : ∃ U : ByteArray, R.extract 2 R.size = U ∧ U.data.toList = R.data.toList.drop 2 ∧ U.size ≤ 1000000 := ⟨_, rfl, ext_drop _ _, by rw [ByteArray.size_extract]; omega⟩
     obtain ⟨U, hU, hUd, hUs⟩ := hU
     rw [op0_s, hU]
     have HV : Hid (rdmV s = .tuple #[.agg #[.int .i64 1, .string (s.extract 0 (s.size - R.size)), .string ⟨(rdv U.data.toList).1.toArray⟩], .string ⟨(rdv U.data.toList).2.toArray⟩]) := by
      have h3 : opN R.data.toList = some (1, U.data.toList) := by unfold opN; rw [if_pos hp, hUd]
      have h4 := HW.out
      rw [h3] at h4
      exact rdmV_some h4
     clear hU hUd hp HN hix KC HW
     have KW := Lib.hid (KV.out U hUs wr)
     clear KV
     go_wp2_with fail
     refine KW.out.mono ?_
     rintro e w3 ⟨rfl, b3⟩
     obtain ⟨hc, hf⟩ := bcell b3.out
     go_wp2
     exact rm_close (x := .string ⟨(rdv U.data.toList).2.toArray⟩) rfl _ _ _ rfl HV.out rfl (HB1.out.trans (b3.out.mono HB1.out.size))
    ·rw [op0_l] at hp
     have HN2 : Hid (NoOp R 1) := ⟨fun _ => hp, fun h => by omega, fun h => by omega, fun h => by omega⟩
     clear hp HN hix KC KV HW
     go_wp2
     go_roundw
     case rel => exact ⟨1, by omega, by go_num, HN2, trivial⟩
     case measure => simp [intOf]
   ·have hix := idx1
    go_wp2_with fail
    refine (KC.out _ (by rw [op1_s]; unfold maxLen; omega) _).mono ?_
    rintro e wz ⟨⟨hp, rfl⟩ | ⟨hp, rfl⟩, rfl⟩
    ·rw [op1_l] at hp
     have hU : ∃ U : ByteArray, R.extract 3 R.size = U ∧ U.data.toList = R.data.toList.drop 3 ∧ U.size ≤ 1000000 := ⟨_, rfl, ext_drop _ _, by rw [ByteArray.size_extract]; omega⟩
     obtain ⟨U, hU, hUd, hUs⟩ := hU
     rw [op1_s, hU]
     have HV : Hid (rdmV s = .tuple #[.agg #[.int .i64 2, .string (s.extract 0 (s.size - R.size)), .string ⟨(rdv U.data.toList).1.toArray⟩], .string ⟨(rdv U.data.toList).2.toArray⟩]) := by
      have h3 : opN R.data.toList = some (2, U.data.toList) := by unfold opN; rw [if_neg (by rw [HN.out.1 (by omega)]; simp), if_pos hp, hUd]
      have h4 := HW.out
      rw [h3] at h4
      exact rdmV_some h4
     clear hU hUd hp HN hix KC HW
     have KW := Lib.hid (KV.out U hUs wr)
     clear KV
     go_wp2_with fail
     refine KW.out.mono ?_
     rintro e w3 ⟨rfl, b3⟩
     obtain ⟨hc, hf⟩ := bcell b3.out
     go_wp2
     exact rm_close (x := .string ⟨(rdv U.data.toList).2.toArray⟩) rfl _ _ _ rfl HV.out rfl (HB1.out.trans (b3.out.mono HB1.out.size))
    ·rw [op1_l] at hp
     have HN2 : Hid (NoOp R 2) := ⟨fun _ => HN.out.1 (by omega), fun _ => hp, fun h => by omega, fun h => by omega⟩
     clear hp HN hix KC KV HW
     go_wp2
     go_roundw
     case rel => exact ⟨2, by omega, by go_num, HN2, trivial⟩
     case measure => simp [intOf]
   ·have hix := idx2
    go_wp2_with fail
    refine (KC.out _ (by rw [op2_s]; unfold maxLen; omega) _).mono ?_
    rintro e wz ⟨⟨hp, rfl⟩ | ⟨hp, rfl⟩, rfl⟩
    ·rw [op2_l] at hp
     have hU : ∃ U : ByteArray, R.extract 3 R.size = U ∧ U.data.toList = R.data.toList.drop 3 ∧ U.size ≤ 1000000 := ⟨_, rfl, ext_drop _ _, by rw [ByteArray.size_extract]; omega⟩
     obtain ⟨U, hU, hUd, hUs⟩ := hU
     rw [op2_s, hU]
     have HV : Hid (rdmV s = .tuple #[.agg #[.int .i64 3, .string (s.extract 0 (s.size - R.size)), .string ⟨(rdv U.data.toList).1.toArray⟩], .string ⟨(rdv U.data.toList).2.toArray⟩]) := by
      have h3 : opN R.data.toList = some (3, U.data.toList) := by unfold opN; rw [if_neg (by rw [HN.out.1 (by omega)]; simp), if_neg (by rw [HN.out.2.1 (by omega)]; simp), if_pos hp, hUd]
      have h4 := HW.out
      rw [h3] at h4
      exact rdmV_some h4
     clear hU hUd hp HN hix KC HW
     have KW := Lib.hid (KV.out U hUs wr)
     clear KV
     go_wp2_with fail
     refine KW.out.mono ?_
     rintro e w3 ⟨rfl, b3⟩
     obtain ⟨hc, hf⟩ := bcell b3.out
     go_wp2
     exact rm_close (x := .string ⟨(rdv U.data.toList).2.toArray⟩) rfl _ _ _ rfl HV.out rfl (HB1.out.trans (b3.out.mono HB1.out.size))
    ·rw [op2_l] at hp
     have HN2 : Hid (NoOp R 3) := ⟨fun _ => HN.out.1 (by omega), fun _ => HN.out.2.1 (by omega), fun _ => hp, fun h => by omega⟩
     clear hp HN hix KC KV HW
     go_wp2
     go_roundw
     case rel => exact ⟨3, by omega, by go_num, HN2, trivial⟩
     case measure => simp [intOf]
   ·have hix := idx3
    go_wp2_with fail
    refine (KC.out _ (by rw [op3_s]; unfold maxLen; omega) _).mono ?_
    rintro e wz ⟨⟨hp, rfl⟩ | ⟨hp, rfl⟩, rfl⟩
    ·rw [op3_l] at hp
     have hU : ∃ U : ByteArray, R.extract 3 R.size = U ∧ U.data.toList = R.data.toList.drop 3 ∧ U.size ≤ 1000000 := ⟨_, rfl, ext_drop _ _, by rw [ByteArray.size_extract]; omega⟩
     obtain ⟨U, hU, hUd, hUs⟩ := hU
     rw [op3_s, hU]
     have HV : Hid (rdmV s = .tuple #[.agg #[.int .i64 4, .string (s.extract 0 (s.size - R.size)), .string ⟨(rdv U.data.toList).1.toArray⟩], .string ⟨(rdv U.data.toList).2.toArray⟩]) := by
      have h3 : opN R.data.toList = some (4, U.data.toList) := by unfold opN; rw [if_neg (by rw [HN.out.1 (by omega)]; simp), if_neg (by rw [HN.out.2.1 (by omega)]; simp), if_neg (by rw [HN.out.2.2.1 (by omega)]; simp), if_pos hp, hUd]
      have h4 := HW.out
      rw [h3] at h4
      exact rdmV_some h4
     clear hU hUd hp HN hix KC HW
     have KW := Lib.hid (KV.out U hUs wr)
     clear KV
     go_wp2_with fail
     refine KW.out.mono ?_
     rintro e w3 ⟨rfl, b3⟩
     obtain ⟨hc, hf⟩ := bcell b3.out
     go_wp2
     exact rm_close (x := .string ⟨(rdv U.data.toList).2.toArray⟩) rfl _ _ _ rfl HV.out rfl (HB1.out.trans (b3.out.mono HB1.out.size))
    ·rw [op3_l] at hp
     have HN2 : Hid (NoOp R 4) := ⟨fun _ => HN.out.1 (by omega), fun _ => HN.out.2.1 (by omega), fun _ => HN.out.2.2.1 (by omega), fun _ => hp⟩
     clear hp HN hix KC KV HW
     go_wp2
     go_roundw
     case rel => exact ⟨4, by omega, by go_num, HN2, trivial⟩
     case measure => simp [intOf]
   ·have HV : Hid (rdmV s = .tuple #[.agg #[.int .i64 0, .string ⟨#[]⟩, .string ⟨#[]⟩], .string s]) := by
     refine rdmV_none ?_
     have h3 : opN R.data.toList = none := by
      unfold opN
      rw [if_neg (by rw [HN.out.1 (by omega)]; simp), if_neg (by rw [HN.out.2.1 (by omega)]; simp), if_neg (by rw [HN.out.2.2.1 (by omega)]; simp), if_neg (by rw [HN.out.2.2.2 (by omega)]; simp)]
     rw [HW.out, h3]
    clear HN HW KC KV
    go_wp2
    exact rm_close (x := .string s) rfl _ _ _ rfl HV.out rfl HB1.out
end Go.Proofs.YtdeppcddknakjaaGreatDoor.Mx
namespace Go.Proofs.YtdeppcddknakjaaGreatDoor.Mx
open Go.RowKit
open Go.Proofs.YtdeppcddknakjaaGreatDoor.Rx (EmpP SameP pfxS)
open Go.Proofs.YtdeppcddknakjaaGreatDoor.Lab (nameB getL Lb LS take_snocL letterB emp_true emp_false)
def strN : Value → Nat
 | .string t => t.size
 | _ => 0
theorem rdA_cons {t : ByteArray} (h : 0 < t.size) : t.data.toList = t[0] :: (t.extract 1 t.size).data.toList := by
 rw [ext_drop]
 have := dropC t h
 rwa [List.drop_zero] at this
set_option maxHeartbeats 8000000 in
theorem read_any (s : ByteArray) (hs : s.size ≤ 1000000) (w : World) (hO : OpsW w) :
  Calls Tryz.prog 43 #[.string s] w (OwnP (rdA s.data.toList) w) := by
 obtain ⟨i0, hi, hz0, hz1, hz2⟩ := info_parts row25
 have HO := Lib.hid hO
 have KM := Lib.hid (fun (u : ByteArray) (h : u.size ≤ 1000000) w1 (hb : Below w.heap.size w w1) => readMatcher_any u h w1 (hO.up hb))
 clear hO
 obtain ⟨res, hres⟩ : ∃ res, res = rdA s.data.toList := ⟨_, rfl⟩
 rw [← hres]
 have R0 : Hid (res = [] ++ rdA s.data.toList) := hres
 clear hres
 go_enter Tryz.func43, Tryz.ntmps43
 go_wp2
 go_loopw [0, 3] (fun vs vo wr => ∃ (t : ByteArray) (l : List Mt), vs = .string t ∧ l.length + t.size ≤ s.size ∧ Hid (res = l ++ rdA t.data.toList) ∧ Hid (OwnT wr w.heap.size vo l) ∧ Hid (Below w.heap.size w wr)) (fun vs _ _ => strN vs)
 case atStart => exact ⟨s, [], rfl, by simp, R0, OwnT.nil _ _, Below.refl _ _⟩
 case round =>
  clear R0
  obtain ⟨t, l, rfl, hlt, HR, HW, HB⟩ := hrel
  rcases Nat.eq_zero_or_pos t.size with h0 | h0
  ·have he := emp_true h0
   have HE : Hid (res = l) := by
    show _ = _
    rw [HR.out, show t.data.toList = [] from List.eq_nil_of_length_eq_zero (by rw [Array.length_toList]; exact h0), rdA_nil, List.append_nil]
   clear HR h0
   go_wp2
   go_ret
   rw [HE.out]
   exact ⟨_, rfl, HW, HB⟩
  ·have he := emp_false h0
   have HC := Lib.hid (rdA_cons h0)
   have hUs : (t.extract 1 t.size).size ≤ 1000000 := by rw [ByteArray.size_extract]; omega
   have KU := Lib.hid (KM.out _ hUs wr HB.out)
   have hUl : (t.extract 1 t.size).size + 1 = t.size := by rw [ByteArray.size_extract]; omega
   unfold RdmP rdmV at KU
   cases hm : rdm (t.extract 1 t.size).data.toList with
   | none =>
    rw [hm] at KU
    have HE : Hid (res = l) := by
     show _ = _
     rw [HR.out, HC.out, rdA_none hm, List.append_nil]
    clear HR HC hm KM hUs hUl
    go_wp2_with fail
    refine KU.out.mono ?_
    rintro e w1 ⟨rfl, b1⟩
    have B2 : Hid (Below w.heap.size w (w1.alloc (.cells #[.int .i64 0, .string ⟨#[]⟩, .string ⟨#[]⟩] 25))) := (HB.out.trans (b1.out.mono HB.out.size)).alloc (Nat.le_trans HB.out.size b1.out.size) _
    have O2 : Hid (OwnT (w1.alloc (.cells #[.int .i64 0, .string ⟨#[]⟩, .string ⟨#[]⟩] 25)) w.heap.size u3 l) := HW.out.below (b1.out.alloc b1.out.size _)
    go_wp2
    go_ret
    rw [HE.out]
    exact ⟨_, rfl, O2, B2⟩
   | some p =>
    obtain ⟨x, r⟩ := p
    rw [hm] at KU
    have hk : x.k ≠ 0 := by have := (rdm_good hm).1; omega
    have hrl : r.length < t.size := by
     have h1 := rdm_len hm
     have h2 : (t.extract 1 t.size).data.toList.length = (t.extract 1 t.size).size := Array.length_toList
     omega
    have HE : Hid (res = (l ++ [x]) ++ rdA (⟨r.toArray⟩ : ByteArray).data.toList) := by
     show _ = _
     rw [HR.out, HC.out, rdA_some hm, mkS_eq]
     simp
    have hrs : (⟨r.toArray⟩ : ByteArray).size = r.length := by
     show r.toArray.size = _
     simp
    have e0 := bneF hk
    clear HR HC hm KM hUs hUl hk
    go_wp2_with fail
    refine KU.out.mono ?_
    rintro e w1 ⟨rfl, b1⟩
    have W1 : Hid (Below wr.heap.size wr (w1.alloc (.cells #[.int .i64 x.k, .string x.n, .string x.v] 25))) := b1.out.alloc b1.out.size _
    have W2 : Hid (Below wr.heap.size wr ((w1.alloc (.cells #[.int .i64 x.k, .string x.n, .string x.v] 25)).alloc (.cells #[.int .i64 x.k, .string x.n, .string x.v] 25))) := W1.out.alloc W1.out.size _
    have hws : w.heap.size ≤ w1.heap.size := Nat.le_trans HB.out.size b1.out.size
    go_wp2_with (at_builtin; refine wpList_append_own _ rfl (.tmp 17) (.tmp 19) 22 rfl w.heap.size 25 i0 _ 3 40 Tryz.underlying22 hi hz0 hz1 hz2 rfl (by decide) _ _ _ rfl (HW.out.below W2.out) ⟨w1.heap.size + 1, 0, none⟩ 1 1 [.int .i64 x.k, .string x.n, .string x.v] rfl rfl (three_new _ _ _ _ _ _ (by simp)) (by simp [Value.oneCell']) (by simp only [maxLen]; omega) (by omega) (by simp; omega) ?_; intro v5 w5 ho hg _; have HO' := Lib.hid ho; have HG := Lib.hid hg; clear ho hg)
    have B5 : Hid (Below w.heap.size w w5) := (HB.out.trans (W2.out.mono HB.out.size)).grown HG.out (by simp; omega) (fun g e => (World.ownsRow.lt HW.out g e).1)
    go_roundw
    case rel => exact ⟨⟨r.toArray⟩, l ++ [x], rfl, by rw [List.length_append, List.length_singleton]; omega, HE, OwnT.snoc HO'.out, B5⟩
    case measure =>
     show (⟨r.toArray⟩ : ByteArray).size < t.size
     omega
end Go.Proofs.YtdeppcddknakjaaGreatDoor.Mx
namespace Go.Proofs.YtdeppcddknakjaaGreatDoor.Mx
open Go.RowKit
open Go.Proofs.YtdeppcddknakjaaGreatDoor.Rx (EmpP SameP pfxS)
open Go.Proofs.YtdeppcddknakjaaGreatDoor.Lab (nameB getL Lb LS take_snocL letterB emp_true emp_false fmtL quo OwnM OwnB wpList_append_M wpList_append_M_string bytes_at bytes_one fin_below StrPost)
theorem one_LQ (w : World) (v : ByteArray) : LS (w.alloc (.cells #[.string ⟨#[]⟩, .string v] 51)) (w.heap.size + 1) (some ⟨w.heap.size, 0, none⟩) [⟨⟨#[]⟩, v⟩] := fun _ => by
 have h := heap_alloc_new w (.cells #[.string ⟨#[]⟩, .string v] 51)
 refine ⟨w.heap.size, 0, rfl, Nat.lt_succ_self _, fun j hj => ?_⟩
 obtain rfl : j = 0 := by simp at hj; omega
 exact Lab.cells2 h
theorem fmt_one (v : ByteArray) : fmtL [⟨⟨#[]⟩, v⟩] = [123, 61] ++ qtd v ++ [125] := by
 unfold fmtL qtd
 simp [Lab.bodyL, Lab.lab1, Lab.tailL]
theorem qtd_len (v : ByteArray) : 2 ≤ (qtd v).length ∧ (qtd v).length ≤ 2 * v.size + 2 := by
 unfold qtd
 have h := Lab.quo_len v.data.toList
 rw [show v.data.toList.length = v.size from Array.length_toList] at h
 simp only [List.length_append, List.length_singleton]
 omega
theorem cut_qtd {F : ByteArray} {q : List UInt8} (h : F.data.toList = [123, 61] ++ q ++ [125]) : (⟨q.toArray⟩ : ByteArray) = F.extract 2 (F.size - 1) := by
 have hl : F.data.toList.length = F.size := Array.length_toList
 have e : (F.extract 2 (F.size - 1)).data.toList = q := by
  rw [ByteArray.data_extract, Array.toList_extract, List.extract_eq_take_drop]
  rw [h] at hl
  simp only [List.length_append, List.length_cons, List.length_nil] at hl
  rw [h, show F.size - 1 - 2 = q.length by omega]
  show ((q ++ [125]).take q.length) = q
  rw [List.take_left]
 rw [← e, Lib.mk_data]
set_option maxHeartbeats 2000000 in
theorem quoted_any (v : ByteArray) (hv : v.size ≤ 100000) (w : World) : Calls Tryz.prog 76 #[.string v] w (StrPost (qtd v) w) := by
 have HB : Hid (Below w.heap.size w (w.alloc (.cells #[.string ⟨#[]⟩, .string v] 51))) := (Below.refl _ _).alloc (Nat.le_refl _) _
 have hql := qtd_len v
 have HC : Hid (Calls Tryz.prog 105 #[.slice (some ⟨w.heap.size, 0, none⟩) 1 1] (w.alloc (.cells #[.string ⟨#[]⟩, .string v] 51)) (StrPost (fmtL [⟨⟨#[]⟩, v⟩]) (w.alloc (.cells #[.string ⟨#[]⟩, .string v] 51)))) :=
  Lab.format_any [⟨⟨#[]⟩, v⟩] (show 1 ≤ 100000 by omega) (fun x hx => by rw [List.mem_singleton] at hx; subst hx; exact ⟨(show 0 ≤ 100000 by omega), hv⟩) (by rw [fmt_one]; simp only [List.length_append, List.length_cons, List.length_nil]; omega) (some ⟨w.heap.size, 0, none⟩) 1 _ (by simpa using one_LQ w v)
 obtain ⟨F, hF⟩ : ∃ F : ByteArray, F = ⟨(fmtL [⟨⟨#[]⟩, v⟩]).toArray⟩ := ⟨_, rfl⟩
 have hFl : F.data.toList = [123, 61] ++ qtd v ++ [125] := by rw [hF, mkS_eq, fmt_one]
 have hFs : 3 ≤ F.size ∧ F.size ≤ 1000000 := by
  have hl : F.data.toList.length = F.size := Array.length_toList
  rw [hFl] at hl
  simp only [List.length_append, List.length_cons, List.length_nil] at hl
  omega
 obtain ⟨h3, h4⟩ := hFs
 have HQ := Lib.hid (cut_qtd hFl)
 unfold StrPost at HC
 rw [← hF] at HC
 clear hF hFl hql
 unfold StrPost
 rw [HQ.out]
 go_enter Tryz.func76, Tryz.ntmps76
 go_wp2_with (go_at_call 105; (with_reducible refine HC.out.mono ?_); rintro e w1 ⟨rfl, h1⟩; have H1 := Lib.hid h1; clear h1)
 go_ret
 exact ⟨rfl, HB.out.trans (H1.out.mono HB.out.size)⟩
theorem ownM_ne25 {w : World} {B : Nat} {v : Value} {l : List UInt8} (h : OwnM w B v l) {g : Nat} {cs : Array Value} {fz : Nat × Nat} (hh : w.heap[g]? = some (.cells cs 25 fz)) : some g ≠ v.ownBlock := by
 intro e
 rcases h with h | ⟨hl, g', rfl, hg, hh'⟩
 ·rcases h.2 with ⟨rfl, _⟩ | ⟨g', cap, cur, rfl, _, hh', _⟩
  ·simp [Value.ownBlock] at e
  ·have : g = g' := by simpa [Value.ownBlock] using e
   subst this
   rw [hh] at hh'
   simp at hh'
 ·have : g = g' := by simpa [Value.ownBlock] using e
  subst this
  rw [hh] at hh'
  simp at hh'
/-- What a round of text holds. -/
structure FT (w : World) (vb : Value) (lb : List UInt8) (g : Nat) (x : Mt) (V : World) : Prop where
 own : OwnM V w.heap.size vb lb
 bel : Below w.heap.size w V
 box : V.heap[g]? = some (.cells #[.int .i64 x.k, .string x.n, .string x.v] 25 (0, 0))
 ge : w.heap.size ≤ V.heap.size
theorem FT.cells {w V : World} {vb : Value} {lb : List UInt8} {g : Nat} {x : Mt} (h : FT w vb lb g x V) : V.cell? ⟨g, 0, none⟩ = some (.int .i64 x.k) ∧ V.cell? ⟨g, 1, none⟩ = some (.string x.n) ∧ V.cell? ⟨g, 2, none⟩ = some (.string x.v) := cell3 h.box
theorem FT.lt {w V : World} {vb : Value} {lb : List UInt8} {g : Nat} {x : Mt} (h : FT w vb lb g x V) : g < V.heap.size := (Array.getElem?_eq_some_iff.1 h.box).1
theorem FT.app {w V V0 V1 : World} {vb v1 : Value} {lb m : List UInt8} {g : Nat} {x : Mt} (h : FT w vb lb g x V) (hV : Below V.heap.size V V0) (hg : V0.grownBy V1 vb.ownBlock) (ho : OwnM V1 w.heap.size v1 m) : FT w v1 m g x V1 :=
 ⟨ho, (h.bel.trans (hV.mono h.ge)).grown hg (Nat.le_trans h.ge hV.size) (fun g e => (h.own.lt g e).1), (hg.block g (Nat.lt_of_lt_of_le h.lt hV.size) (ownM_ne25 h.own h.box)).trans ((hV.block g h.lt).trans h.box), Nat.le_trans h.ge (Nat.le_trans hV.size hg.size)⟩
theorem FT.up {w V V0 : World} {vb : Value} {lb : List UInt8} {g : Nat} {x : Mt} (h : FT w vb lb g x V) (hV : Below V.heap.size V V0) : FT w vb lb g x V0 :=
 ⟨h.own.below hV, h.bel.trans (hV.mono h.ge), (hV.block g h.lt).trans h.box, Nat.le_trans h.ge hV.size⟩
theorem ops_at {w : World} (h : OpsW w) {j : Nat} (hj : j < 4) : w.cell? ⟨0, j, none⟩ = some (.string ⟨(opB ((j : Int) + 1)).toArray⟩) := by
 have hj' : j = 0 ∨ j = 1 ∨ j = 2 ∨ j = 3 := by omega
 rcases hj' with rfl | rfl | rfl | rfl
 ·exact h.1
 ·exact h.2.1
 ·exact h.2.2.1
 ·exact h.2.2.2
theorem opB_size (k : Int) : (⟨(opB k).toArray⟩ : ByteArray).size = (opB k).length ∧ 0 < (opB k).length := by
 refine ⟨by show (opB k).toArray.size = _; simp, ?_⟩
 unfold opB
 split
 ·simp
 ·split
  ·simp
  ·split <;> simp
set_option maxHeartbeats 8000000 in
theorem text_any (l : List Mt) (hl : l.length ≤ 100000) (hs : ∀ x ∈ l, x.n.size ≤ 100000 ∧ x.v.size ≤ 100000 ∧ 1 ≤ x.k ∧ x.k ≤ 4) (hf : (txtM l).length ≤ 1000000) (A : Option Addr) (c : Nat) (w : World) (hO : OpsW w) (hA : MS w w.heap.size A l) :
  Calls Tryz.prog 44 #[.slice A l.length c] w (StrPost (txtM l) w) := by
 have HA := Lib.hid hA
 have HZ := Lib.hid hs
 have HO := Lib.hid hO
 clear hA hs hO
 have O0 : Hid (OwnM (w.alloc (.cells #[.int .u8 123] 5 (1, 2))) w.heap.size (.slice (some ⟨w.heap.size, 0, none⟩) 1 1) ([123] ++ bodyM (l.take 0))) :=
  .inr ⟨rfl, w.heap.size, rfl, Nat.le_refl _, heap_alloc_new w _⟩
 have B0 : Hid (Below w.heap.size w (w.alloc (.cells #[.int .u8 123] 5 (1, 2)))) := (Below.refl _ _).alloc (Nat.le_refl _) _
 have kc := fun (w : World) (C : Array Value) (n c : Nat) => Lib.run_convert_bytes_const (P := Tryz.prog) w 78 5 C n c Tryz.underlying78 Tryz.underlying5
 go_enter Tryz.func44, Tryz.ntmps44
 go_wp2
 go_loopw [3, 10] (fun vo vi wr => ∃ (k : Nat), k ≤ l.length ∧ vi = .int .i64 k ∧ Hid (OwnM wr w.heap.size vo ([123] ++ bodyM (l.take k))) ∧ Hid (Below w.heap.size w wr)) (fun _ vi _ => l.length - (intOf vi).toNat)
 case atStart => exact ⟨0, by omega, rfl, O0, B0⟩
 case round =>
  clear O0 B0 kc
  obtain ⟨k, hk, rfl, HW, HB⟩ := hrel
  by_cases hlt : k < l.length
  ·obtain ⟨b, off, rfl, hb, h1', h2', h3'⟩ := HA.out.at_ hlt
   have h1 := (HB.out.cell (p := ⟨b, off + k * 3, none⟩) hb).trans h1'
   have h2 := (HB.out.cell (p := ⟨b, off + k * 3 + 1, none⟩) hb).trans h2'
   have h3 := (HB.out.cell (p := ⟨b, off + k * 3 + 2, none⟩) hb).trans h3'
   obtain ⟨zn, zv, zk1, zk4⟩ := HZ.out _ (List.getElem_mem hlt)
   clear h1' h2' h3'
   have F0 : Hid (FT w u3 ([123] ++ bodyM (l.take k)) wr.heap.size l[k] (wr.alloc (.cells #[.int .i64 l[k].k, .string l[k].n, .string l[k].v] 25))) :=
    ⟨HW.out.below ((Below.refl _ _).alloc (Nat.le_refl _) _), HB.out.alloc HB.out.size _, heap_alloc_new wr _, by have := HB.out.size; simp; omega⟩
   have hlen : (bodyM (l.take k)).length ≤ 1000000 := by
    have h1 := bodyM_take_le l k
    rw [txtM_len] at hf
    omega
   have HEZ := Lib.hid (bodyM_zero hlt)
   have HEP := Lib.hid (bodyM_pos hlt)
   generalize bodyM (l.take k) = m at *
   generalize l[k] = x at *
   have hlm : ([123] ++ m).length = m.length + 1 := by rw [List.length_append, List.length_singleton]; exact Nat.add_comm _ _
   obtain ⟨mm, hmm⟩ : ∃ mm, [123] ++ m = mm := ⟨_, rfl⟩
   rw [hmm] at hlm F0
   have HMM := Lib.hid hmm
   clear hmm HW
   have hmb : mm.length ≤ 1000001 := by omega
   obtain ⟨xk, xn, xv⟩ := x
   dsimp only at zn zv zk1 zk4 h1 h2 h3
   obtain ⟨j, hj, rfl⟩ : ∃ j : Nat, j < 4 ∧ xk = (j : Int) + 1 := ⟨(xk - 1).toNat, by omega, by omega⟩
   have hql := qtd_len xv
   have hop := Lib.hid (opB_size ((j : Int) + 1))
   have hopl := opB_len ((j : Int) + 1)
   have KQ := Lib.hid (quoted_any xv zv)
   have hqs : (⟨(qtd xv).toArray⟩ : ByteArray).size = (qtd xv).length := by show (qtd xv).toArray.size = _; simp
   have HQS := Lib.hid hqs
   have hnl : xn.data.toList.length = xn.size := Array.length_toList
   have HNL := Lib.hid hnl
   have HOPS : Hid (∀ V, Below w.heap.size w V → V.cell? ⟨0, j, none⟩ = some (.string ⟨(opB ((j : Int) + 1)).toArray⟩)) := fun V hV => ops_at (HO.out.up hV) hj
   clear hnl hlm hqs zk1 zk4
   obtain ⟨c0, c1, c2⟩ := F0.out.cells
   have HGB := Lib.hid HB.out.size
   obtain ⟨hq2, hq3⟩ := hql
   have HQ2 := Lib.hid hq2
   have HQ3 := Lib.hid hq3
   have HOL := Lib.hid hopl
   clear hq2 hq3 hopl
   generalize hqd : qtd xv = qx at *
   have HQD := Lib.hid hqd
   clear hqd
   generalize hob : opB ((j : Int) + 1) = ob at *
   have HOB := Lib.hid hob
   clear hob
   by_cases h0 : 0 < k
   ·have hg : decide (0 < k) = true := by simp [h0]
    have HE := Lib.hid (HEP.out h0)
    clear HEZ HEP
    go_wp2_with (first
      | (at_builtin; refine wpList_append_M rfl (.tmp 17) (.tmp 18) rfl w.heap.size u3 mm rfl (F0.out.own.below ((Below.refl _ _).alloc (Nat.le_refl _) _)) ⟨wr.heap.size + 1, 0, none⟩ 1 [44] 1 rfl rfl (by decide) (bytes_at _ 44 _ (by simp)) (by simp only [List.length_singleton]; omega) (by have := HGB.out; simp; omega) ?_; intro v1 w1 ho hg; have F1 := Lib.hid (F0.out.app ((Below.refl _ _).alloc (Nat.le_refl _) _) hg (.inl ho)); clear ho hg; obtain ⟨d0, d1, d2⟩ := F1.out.cells; have HG1 := Lib.hid F1.out.lt)
      | (at_builtin; refine wpList_append_M_string rfl (.tmp 20) (.tmp 22) rfl w.heap.size v1 (mm ++ [44]) rfl F1.out.own xn rfl (by have := HNL.out; have := HOL.out; have := HQ3.out; have := hop.out.1; have := HQS.out; (try simp only [mkS_eq, List.length_append, List.length_singleton, List.length_cons, List.length_nil]); omega) F1.out.ge ?_; intro v2 w2 ho hg _; have F2 := Lib.hid (F1.out.app (Below.refl _ _) hg ho); clear ho hg; obtain ⟨g0, g1, g2⟩ := F2.out.cells; have hoc := HOPS.out _ F2.out.bel)
      | (at_builtin; refine wpList_append_M_string rfl (.tmp 24) (.tmp 29) rfl w.heap.size v2 _ rfl F2.out.own ⟨ob.toArray⟩ rfl (by have := HNL.out; have := HOL.out; have := HQ3.out; have := hop.out.1; have := HQS.out; (try simp only [mkS_eq, List.length_append, List.length_singleton, List.length_cons, List.length_nil]); omega) F2.out.ge ?_; intro v3 w3 _ hg ho; have OB3 := Lib.hid (ho (by rw [hop.out.1]; exact hop.out.2)); have F3 := Lib.hid (F2.out.app (Below.refl _ _) hg (.inl OB3.out)); clear ho hg hoc; obtain ⟨e0, e1, e2⟩ := F3.out.cells)
      | (go_at_call 76; (with_reducible refine (KQ.out _).mono ?_); rintro e w4 ⟨rfl, hb4⟩; have F4 := Lib.hid (F3.out.up hb4); clear hb4)
      | (at_builtin; refine wpList_append_M_string rfl (.tmp 31) (.tmp 34) rfl w.heap.size v3 _ rfl F4.out.own ⟨qx.toArray⟩ rfl (by have := HNL.out; have := HOL.out; have := HQ3.out; have := hop.out.1; have := HQS.out; (try simp only [mkS_eq, List.length_append, List.length_singleton, List.length_cons, List.length_nil]); omega) F4.out.ge ?_; intro v5 w5 ho hg _; have F5 := Lib.hid (F4.out.app (Below.refl _ _) hg ho); clear ho hg))
    go_roundw
    case rel =>
     refine ⟨k + 1, by omega, by go_num, ?_, F5.out.bel⟩
     show OwnM _ _ _ _
     rw [HE.out]
     have h5 := F5.out.own
     rw [← HMM.out] at h5
     have e : [123] ++ (m ++ [44] ++ mat1 ⟨(j : Int) + 1, xn, xv⟩) = [123] ++ m ++ [44] ++ xn.data.toList ++ (⟨ob.toArray⟩ : ByteArray).data.toList ++ (⟨qx.toArray⟩ : ByteArray).data.toList := by
      unfold mat1
      simp only [HQD.out, HOB.out, mkS_eq]
      simp [List.append_assoc]
     rw [e]
     exact h5
    case measure => simp [intOf]; omega
   ·have hg : decide (0 < k) = false := by simp; omega
    have HE := Lib.hid (HEZ.out (by omega))
    clear HEZ HEP
    go_wp2_with (first
      | (at_builtin; refine wpList_append_M_string rfl (.tmp 20) (.tmp 22) rfl w.heap.size u3 mm rfl F0.out.own xn rfl (by have := HNL.out; have := HOL.out; have := HQ3.out; have := hop.out.1; have := HQS.out; (try simp only [mkS_eq, List.length_append, List.length_singleton, List.length_cons, List.length_nil]); omega) F0.out.ge ?_; intro v2 w2 ho hg _; have F2 := Lib.hid (F0.out.app (Below.refl _ _) hg ho); clear ho hg; obtain ⟨g0, g1, g2⟩ := F2.out.cells; have hoc := HOPS.out _ F2.out.bel)
      | (at_builtin; refine wpList_append_M_string rfl (.tmp 24) (.tmp 29) rfl w.heap.size v2 _ rfl F2.out.own ⟨ob.toArray⟩ rfl (by have := HNL.out; have := HOL.out; have := HQ3.out; have := hop.out.1; have := HQS.out; (try simp only [mkS_eq, List.length_append, List.length_singleton, List.length_cons, List.length_nil]); omega) F2.out.ge ?_; intro v3 w3 _ hg ho; have OB3 := Lib.hid (ho (by rw [hop.out.1]; exact hop.out.2)); have F3 := Lib.hid (F2.out.app (Below.refl _ _) hg (.inl OB3.out)); clear ho hg hoc; obtain ⟨e0, e1, e2⟩ := F3.out.cells)
      | (go_at_call 76; (with_reducible refine (KQ.out _).mono ?_); rintro e w4 ⟨rfl, hb4⟩; have F4 := Lib.hid (F3.out.up hb4); clear hb4)
      | (at_builtin; refine wpList_append_M_string rfl (.tmp 31) (.tmp 34) rfl w.heap.size v3 _ rfl F4.out.own ⟨qx.toArray⟩ rfl (by have := HNL.out; have := HOL.out; have := HQ3.out; have := hop.out.1; have := HQS.out; (try simp only [mkS_eq, List.length_append, List.length_singleton, List.length_cons, List.length_nil]); omega) F4.out.ge ?_; intro v5 w5 ho hg _; have F5 := Lib.hid (F4.out.app (Below.refl _ _) hg ho); clear ho hg))
    go_roundw
    case rel =>
     refine ⟨k + 1, by omega, by go_num, ?_, F5.out.bel⟩
     show OwnM _ _ _ _
     rw [HE.out]
     have h5 := F5.out.own
     rw [← HMM.out] at h5
     have e : [123] ++ (m ++ mat1 ⟨(j : Int) + 1, xn, xv⟩) = [123] ++ m ++ xn.data.toList ++ (⟨ob.toArray⟩ : ByteArray).data.toList ++ (⟨qx.toArray⟩ : ByteArray).data.toList := by
      unfold mat1
      simp only [HQD.out, HOB.out, mkS_eq]
      simp [List.append_assoc]
     rw [e]
     exact h5
    case measure => simp [intOf]; omega
  ·have h2 := HW.out
   rw [List.take_of_length_le (by omega)] at h2
   have H2 := Lib.hid h2
   have hbl : ([123] ++ bodyM l).length ≤ 1000001 := by
    rw [txtM_len] at hf
    rw [List.length_append, List.length_singleton]
    omega
   have HFL : Hid (txtM l = [123] ++ bodyM l ++ [125]) := rfl
   generalize txtM l = res at *
   generalize [123] ++ bodyM l = mm at *
   clear HW h2
   go_wp2_with (at_builtin; refine wpList_append_M rfl (.tmp 37) (.tmp 38) rfl w.heap.size u3 mm rfl (H2.out.below ((Below.refl _ _).alloc (Nat.le_refl _) _)) ⟨wr.heap.size, 0, none⟩ 1 [125] 1 rfl rfl (by decide) (bytes_one wr 125) (by simp only [List.length_singleton]; omega) (by have := HB.out.size; simp; omega) ?_; intro v1 w1 ho hg; have BF := Lib.hid (fin_below H2.out HB.out HB.out.size ((Below.refl _ _).alloc (Nat.le_refl _) _) hg); clear hg; obtain ⟨Ac, nc, cc, rfl, hcv⟩ := ho.conv; clear ho)
   go_ret
   rw [HFL.out]
   exact ⟨rfl, BF.out⟩
end Go.Proofs.YtdeppcddknakjaaGreatDoor.Mx
namespace Go.Proofs.YtdeppcddknakjaaGreatDoor.Mx
open Go.RowKit
open Go.Proofs.YtdeppcddknakjaaGreatDoor.Rx (EmpP SameP pfxS ChkP str_eq)
open Go.Proofs.YtdeppcddknakjaaGreatDoor.Lab (nameB getL Lb LS take_snocL letterB emp_true emp_false StrPost)
theorem chkA_each {l : List Mt} (h : chkA l = 0) : l.length ≤ 16 ∧ ∀ m ∈ l, chk1 m = 0 := chkA_zero.1 h
def fmtO (l : List Mt) : List UInt8 := if chkA l = 0 then txtM l else []
theorem format_any (l : List Mt) (hl : Ok l) (hz : ∀ x ∈ l, x.n.size ≤ 100000 ∧ x.v.size ≤ 100000) (hf : (txtM l).length ≤ 1000000) (A : Option Addr) (c : Nat) (w : World) (hO : OpsW w) (hA : MS w w.heap.size A l) :
  Calls Tryz.prog 23 #[.slice A l.length c] w (StrPost (fmtO l) w) := by
 have KC := Lib.hid (checkO_any l hl A c w hA)
 by_cases hc : chkA l = 0
 ·have KT := Lib.hid (fun w1 (hb : Below w.heap.size w w1) => text_any l hl.len (fun x hx => ⟨(hz x hx).1, (hz x hx).2, chk1_kind ((chkA_each hc).2 x hx)⟩) hf A c w1 (hO.up hb) (hA.up hb))
  have HE : Hid (fmtO l = txtM l) := if_pos hc
  rw [hc] at KC
  clear hA hc hO
  rw [HE.out]
  go_enter Tryz.func23, Tryz.ntmps23
  go_wp2_with fail
  refine KC.out.mono ?_
  rintro e w1 ⟨rfl, b1⟩
  go_wp2_with fail
  refine (KT.out w1 b1.out).mono ?_
  rintro e w2 ⟨rfl, b2⟩
  have B2 : Hid (Below w.heap.size w w2) := b1.out.trans (b2.mono b1.out.size)
  clear b2
  go_wp2
  go_ret
  exact ⟨rfl, B2.out⟩
 ·have HE : Hid (fmtO l = []) := if_neg hc
  rw [HE.out]
  have e0 := bneF hc
  clear hA hc hO HE
  generalize chkA l = q at *
  go_enter Tryz.func23, Tryz.ntmps23
  go_wp2_with fail
  refine KC.out.mono ?_
  rintro e w1 ⟨rfl, b1⟩
  go_wp2
  go_ret
  exact ⟨rfl, b1.out⟩
/-- What is read is small. -/
theorem rdm_size {s r : List UInt8} {m : Mt} (h : rdm s = some (m, r)) : m.n.size ≤ s.length ∧ m.v.size ≤ s.length := by
 unfold rdm at h
 split at h
 ·cases h
 ·split at h
  ·cases h
  ·rename_i k b hb
   injection h with h
   injection h with h _
   have h1 := opN_len hb
   have h2 := rdv_len b
   have h3 : (restL s).length ≤ s.length := List.Sublist.length_le (List.dropWhile_sublist _)
   have h4 : (wordL s).length ≤ s.length := List.Sublist.length_le (List.takeWhile_sublist _)
   rw [← h]
   constructor
   ·show (wordL s).toArray.size ≤ _
    simpa using h4
   ·show (rdv b).1.toArray.size ≤ _
    rw [List.size_toArray]
    omega
theorem rdF_size : ∀ (n : Nat) (s : List UInt8), (rdF n s).length ≤ s.length ∧ ∀ m ∈ rdF n s, m.n.size ≤ s.length ∧ m.v.size ≤ s.length
 | 0, s => ⟨Nat.zero_le _, fun m h => by cases h⟩
 | n + 1, [] => ⟨Nat.zero_le _, fun m h => by cases h⟩
 | n + 1, c :: s => by
  unfold rdF
  split
  ·exact ⟨Nat.zero_le _, fun m h => by cases h⟩
  ·rename_i x r hx
   obtain ⟨h1, h2⟩ := rdF_size n r
   have h3 := rdm_len hx
   have h4 := rdm_size hx
   refine ⟨by rw [List.length_cons, List.length_cons]; omega, fun m hm => ?_⟩
   rw [List.length_cons]
   rcases List.mem_cons.1 hm with rfl | hm
   ·omega
   ·have := h2 m hm
    omega
theorem rdA_size (s : List UInt8) : (rdA s).length ≤ s.length ∧ ∀ m ∈ rdA s, m.n.size ≤ s.length ∧ m.v.size ≤ s.length := rdF_size _ _
theorem opN_len2 {r b : List UInt8} {k : Int} (h : opN r = some (k, b)) : (opB k).length + 1 + b.length = r.length := by
 have key : ∀ p : List UInt8, p.isPrefixOf r = true → p.length ≤ r.length := fun p hp => (List.isPrefixOf_iff_prefix.1 hp).length_le
 unfold opN at h
 split at h
 ·rename_i hp
  have h1 := key _ hp
  injection h with h; injection h with h2 h
  rw [← h, ← h2, List.length_drop]
  simp only [List.length_cons, List.length_nil] at h1
  show 1 + 1 + _ = _
  omega
 ·split at h
  ·rename_i hp
   have h1 := key _ hp
   injection h with h; injection h with h2 h
   rw [← h, ← h2, List.length_drop]
   simp only [List.length_cons, List.length_nil] at h1
   show 2 + 1 + _ = _
   omega
  ·split at h
   ·rename_i hp
    have h1 := key _ hp
    injection h with h; injection h with h2 h
    rw [← h, ← h2, List.length_drop]
    simp only [List.length_cons, List.length_nil] at h1
    show 2 + 1 + _ = _
    omega
   ·split at h
    ·rename_i hp
     have h1 := key _ hp
     injection h with h; injection h with h2 h
     rw [← h, ← h2, List.length_drop]
     simp only [List.length_cons, List.length_nil] at h1
     show 2 + 1 + _ = _
     omega
    ·cases h
theorem rdm_eat {s r : List UInt8} {m : Mt} (h : rdm s = some (m, r)) : (mat1 m).length + 2 * r.length ≤ 2 * s.length := by
 unfold rdm at h
 split at h
 ·cases h
 ·split at h
  ·cases h
  ·rename_i k b hb
   injection h with h
   injection h with h hr
   have h1 := opN_len2 hb
   have h2 := rdv_len b
   have h3 : wordL s ++ restL s = s := List.takeWhile_append_dropWhile
   have h4 := congrArg List.length h3
   rw [List.length_append] at h4
   have h5 := Lab.quo_len (rdv b).1
   rw [← h, ← hr]
   unfold mat1 qtd
   simp only [List.length_append, List.length_singleton]
   omega
theorem rdF_eat : ∀ (n : Nat) (s : List UInt8), (tailM (rdF n s)).length ≤ 2 * s.length
 | 0, s => by simp [rdF, tailM]
 | n + 1, [] => by simp [rdF, tailM]
 | n + 1, c :: s => by
  unfold rdF
  split
  ·simp [tailM]
  ·rename_i x r hx
   have h1 := rdF_eat n r
   have h2 := rdm_eat hx
   rw [show x :: rdF n r = [x] ++ rdF n r from rfl, tailM_append, tailM_one, List.length_append, List.length_cons, List.length_cons]
   omega
theorem txt_tail (l : List Mt) : (txtM l).length ≤ (tailM l).length + 2 := by
 rw [txtM_len]
 cases l with
 | nil => simp [bodyM, tailM]
 | cons x r =>
  rw [bodyM, show x :: r = [x] ++ r from rfl, tailM_append, tailM_one]
  simp only [List.length_append, List.length_cons]
  omega
theorem rdA_txt_len (s : List UInt8) : (txtM (rdA s)).length ≤ 2 * s.length + 2 := Nat.le_trans (txt_tail _) (Nat.add_le_add_right (rdF_eat _ _) 2)
def parO (s : List UInt8) : List Mt × Int := if txtM (rdA s) = s then (if chkA (rdA s) = 0 then (rdA s, 0) else ([], chkA (rdA s))) else ([], 3)
def ParP (p : List Mt × Int) (w : World) (e : Ending) (w' : World) : Prop := ∃ v, e = .returned (.tuple #[v, .int .i64 p.2]) ∧ Hid (OwnT w' w.heap.size v p.1) ∧ Hid (Below w.heap.size w w')
set_option maxHeartbeats 2000000 in
theorem parse_any (s : ByteArray) (hs : s.size ≤ 100000) (w : World) (hO : OpsW w) :
  Calls Tryz.prog 21 #[.string s] w (ParP (parO s.data.toList) w) := by
 have KR := Lib.hid (read_any s (by omega) w hO)
 have hlen : s.data.toList.length = s.size := Array.length_toList
 obtain ⟨hz1, hz2⟩ := rdA_size s.data.toList
 have htl : (txtM (rdA s.data.toList)).length ≤ 1000000 := by
  have := rdA_txt_len s.data.toList
  omega
 have hgood := rdA_good s.data.toList
 obtain ⟨r, hr⟩ : ∃ r, r = parO s.data.toList := ⟨_, rfl⟩
 rw [← hr]
 unfold parO at hr
 obtain ⟨l, hl⟩ : ∃ l, rdA s.data.toList = l := ⟨_, rfl⟩
 rw [hl] at KR hz1 hz2 hr hgood htl
 rw [hlen] at hz1 hz2
 have hok : Ok l := ⟨by omega, fun m hm => by have := (hz2 m hm).1; unfold maxLen; omega, fun m hm => by have := (hz2 m hm).2; omega⟩
 have KT := Lib.hid (fun A c w1 (hb : Below w.heap.size w w1) (hm : MS w1 w1.heap.size A l) => text_any l hok.len (fun x hx => ⟨by have := (hz2 x hx).1; omega, by have := (hz2 x hx).2; omega, (hgood x hx).1⟩) htl A c w1 (hO.up hb) hm)
 have KC := Lib.hid (fun A c w1 (hm : MS w1 w1.heap.size A l) => checkO_any l hok A c w1 hm)
 have hst : (txtM l == s.toList) = decide (txtM l = s.data.toList) := by
  rw [ByteArray.toList_eq, Bool.eq_iff_iff]
  simp
 clear hgood hz1 hz2 hl hO hlen
 by_cases ht : txtM l = s.data.toList
 ·rw [if_pos ht] at hr
  rw [decide_eq_true ht] at hst
  by_cases hc : chkA l = 0
  ·rw [if_pos hc] at hr
   rw [hc] at KC
   subst hr
   clear ht hc
   go_enter Tryz.func21, Tryz.ntmps21
   go_wp2_with fail
   refine KR.out.mono ?_
   rintro e w1 ⟨v, rfl, o1, b1⟩
   obtain ⟨A1, c1, rfl, m1⟩ := o1.out.form
   have K2 := Lib.hid (KT.out A1 c1 w1 b1.out m1)
   have M1 := Lib.hid m1
   clear m1 KT
   go_wp2_with fail
   refine K2.out.mono ?_
   rintro e w2 ⟨rfl, b2⟩
   have B2 := Lib.hid b2
   have K3 := Lib.hid (KC.out A1 c1 w2 (M1.out.up b2))
   clear b2 KC
   go_wp2_with fail
   refine K3.out.mono ?_
   rintro e w3 ⟨rfl, b3⟩
   have O3 : Hid (OwnT w3 w.heap.size (.slice A1 l.length c1) l) := o1.out.below (B2.out.trans (b3.out.mono B2.out.size))
   have B3 : Hid (Below w.heap.size w w3) := b1.out.trans ((B2.out.trans (b3.out.mono B2.out.size)).mono b1.out.size)
   go_wp2
   go_ret2
   exact ⟨_, rfl, O3, B3⟩
  ·rw [if_neg hc] at hr
   have e0 := bneF hc
   subst hr
   clear ht hc
   go_enter Tryz.func21, Tryz.ntmps21
   go_wp2_with fail
   refine KR.out.mono ?_
   rintro e w1 ⟨v, rfl, o1, b1⟩
   obtain ⟨A1, c1, rfl, m1⟩ := o1.out.form
   have K2 := Lib.hid (KT.out A1 c1 w1 b1.out m1)
   have M1 := Lib.hid m1
   clear m1 KT
   go_wp2_with fail
   refine K2.out.mono ?_
   rintro e w2 ⟨rfl, b2⟩
   have B2 := Lib.hid b2
   have K3 := Lib.hid (KC.out A1 c1 w2 (M1.out.up b2))
   clear b2 KC
   go_wp2_with fail
   refine K3.out.mono ?_
   rintro e w3 ⟨rfl, b3⟩
   have B3 : Hid (Below w.heap.size w w3) := b1.out.trans ((B2.out.trans (b3.out.mono B2.out.size)).mono b1.out.size)
   go_wp2
   go_ret2
   exact ⟨_, rfl, OwnT.nil _ _, B3⟩
 ·rw [if_neg ht] at hr
  rw [decide_eq_false ht] at hst
  subst hr
  clear ht KC
  go_enter Tryz.func21, Tryz.ntmps21
  go_wp2_with fail
  refine KR.out.mono ?_
  rintro e w1 ⟨v, rfl, o1, b1⟩
  obtain ⟨A1, c1, rfl, m1⟩ := o1.out.form
  have K2 := Lib.hid (KT.out A1 c1 w1 b1.out m1)
  clear m1 KT
  go_wp2_with fail
  refine K2.out.mono ?_
  rintro e w2 ⟨rfl, b2⟩
  have B3 : Hid (Below w.heap.size w w2) := b1.out.trans (b2.mono b1.out.size)
  clear b2
  go_wp2
  go_ret2
  exact ⟨_, rfl, OwnT.nil _ _, B3⟩
end Go.Proofs.YtdeppcddknakjaaGreatDoor.Mx
