/- Seal and Open of the reference of layer 2. -/
import Derived.Test.YtnkaigmonkmedaaRefC
import Derived.Lib.IndexBytes
namespace Go.Proofs.Ytnkaigmonkmedaa
open Go.RowKit

theorem conv_le4 (c : Nat) (hc : c < 4294967296) (w : World) :
    (convert 42 9 (.slice (some ⟨w.heap.size, 0, none⟩) 4 4)).run Try.prog (w.alloc (.cells #[.int .u8 ((c : Int) % 256), .int .u8 ((c : Int) / 256 % 256), .int .u8 ((c : Int) / 65536 % 256), .int .u8 ((c : Int) / 16777216)] 5)) =
      .ok (.string ⟨(le4 c).toArray⟩) (w.alloc (.cells #[.int .u8 ((c : Int) % 256), .int .u8 ((c : Int) / 256 % 256), .int .u8 ((c : Int) / 65536 % 256), .int .u8 ((c : Int) / 16777216)] 5)) := by
  refine conv_row (l := le4 c) (fun j hj => ⟨?_, World.frozen?_alloc_at _ _ _ _ rfl⟩) 4 4 rfl
  rw [World.cell?_alloc_at _ _ _ _ rfl]
  have h4 : j < 4 := hj
  match j, h4 with
  | 0, _ => simp [le4]
  | 1, _ => simp [le4]
  | 2, _ => simp [le4]
  | 3, _ => simp [le4]; omega
theorem mk_size (l : List UInt8) : (⟨l.toArray⟩ : ByteArray).size = l.length := by
  show l.toArray.size = _
  simp

set_option maxHeartbeats 1000000 in
theorem refSeal_any (s : ByteArray) (hs : s.size ≤ 100000) (w : World) :
    Calls Try.prog 22 #[.string s] w fun e w' => e = .returned (.string (s ++ ⟨(le4 (sumC s.data.toList)).toArray⟩)) ∧ Below w.heap.size w w' := by
  have hf := fun w => refSum_any s w (by unfold maxLen; omega)
  have hl := sumC_lt s.data.toList
  generalize sumC s.data.toList = c at *
  have HF := Lib.hid hf
  have hcv := conv_le4 c hl w
  have hsz := mk_size (le4 c)
  have h4 : (le4 c).length = 4 := rfl
  rw [h4] at hsz
  generalize (⟨(le4 c).toArray⟩ : ByteArray) = t at *
  have hsz2 : t.size ≤ 4 := by omega
  clear hf hsz h4
  go_enter Try.func22, Try.ntmps22
  go_wp2_with fail
  refine (HF.out _).mono ?_
  rintro e w' ⟨rfl, rfl⟩
  go_wp2
  go_ret
  exact ⟨rfl, (Below.refl _ _).alloc (Nat.le_refl _) _⟩

/-- What Open hands back. -/
def openOut (s : ByteArray) : Value :=
  if s.size < 4 then .tuple #[.string ⟨#[]⟩, .int .i64 11]
  else if (s.extract 0 (s.size - 4) ++ ⟨(le4 (sumC (s.extract 0 (s.size - 4)).data.toList)).toArray⟩).toList = s.toList then .tuple #[.string (s.extract 0 (s.size - 4)), .int .i64 0]
  else .tuple #[.string ⟨#[]⟩, .int .i64 13]

set_option maxHeartbeats 1000000 in
theorem refOpen_any (s : ByteArray) (hs : s.size ≤ 100000) (w : World) :
    Calls Try.prog 20 #[.string s] w fun e w' => e = .returned (openOut s) ∧ Below w.heap.size w w' := by
  by_cases h4 : s.size < 4
  · have HO : Hid (openOut s = .tuple #[.string ⟨#[]⟩, .int .i64 11]) := if_pos h4
    go_enter Try.func20, Try.ntmps20
    go_wp2
    go_ret2
    exact ⟨by rw [HO.out]; rfl, Below.refl _ _⟩
  · have hq := fun w => refSeal_any (s.extract 0 (s.size - 4)) (by simp; omega) w
    have ho : openOut s = if (s.extract 0 (s.size - 4) ++ ⟨(le4 (sumC (s.extract 0 (s.size - 4)).data.toList)).toArray⟩).toList = s.toList then .tuple #[.string (s.extract 0 (s.size - 4)), .int .i64 0] else .tuple #[.string ⟨#[]⟩, .int .i64 13] := if_neg h4
    generalize (s.extract 0 (s.size - 4) ++ ⟨(le4 (sumC (s.extract 0 (s.size - 4)).data.toList)).toArray⟩ : ByteArray) = u at *
    have HQ := Lib.hid hq
    clear hq
    by_cases he : u.toList = s.toList
    · have hne : (u.toList == s.toList) = true := by rw [he]; exact beq_self_eq_true _
      rw [if_pos he] at ho
      have HO := Lib.hid ho
      clear ho he
      go_enter Try.func20, Try.ntmps20
      go_wp2_with fail
      refine (HQ.out _).mono ?_
      rintro e w1 ⟨rfl, hb⟩
      go_wp2
      go_ret2
      exact ⟨by rw [HO.out]; rfl, hb⟩
    · have hne : (u.toList == s.toList) = false := beq_eq_false_iff_ne.2 he
      rw [if_neg he] at ho
      have HO := Lib.hid ho
      clear ho he
      go_enter Try.func20, Try.ntmps20
      go_wp2_with fail
      refine (HQ.out _).mono ?_
      rintro e w1 ⟨rfl, hb⟩
      go_wp2
      go_ret2
      exact ⟨by rw [HO.out]; rfl, hb⟩
end Go.Proofs.Ytnkaigmonkmedaa
