/- The contracts of Encode and of its twin. -/
import Derived.Test.YtihblhdiheflaaaApp
import Derived.Test.YtihblhdiheflaaaListMath
namespace Go.Proofs.Ytihblhdiheflaaa
open Go.RowKit

/-- The slice value sv reads as the numbers zs; its cells lie below n₀. -/
def IntsAt (n₀ : Nat) (w : World) (sv : Value) (zs : List Int) : Prop :=
  ∃ a cap, sv = .slice a zs.length cap ∧ (zs ≠ [] → ∃ b off, a = some ⟨b, off, none⟩ ∧ b < n₀ ∧ ∀ j, j < zs.length → w.cell? ⟨b, off + j, none⟩ = some (.int .i64 (zs[j]?.getD 0)))
theorem IntsAt.below {n₀ : Nat} {A B : World} {sv : Value} {zs : List Int} (h : IntsAt n₀ A sv zs) (hb : Below n₀ A B) : IntsAt n₀ B sv zs := by
  obtain ⟨a, cap, e, h⟩ := h
  refine ⟨a, cap, e, fun hne => ?_⟩
  obtain ⟨b, off, e2, hlt, hc⟩ := h hne
  exact ⟨b, off, e2, hlt, fun j hj => (hb.cell (p := ⟨b, off + j, none⟩) hlt).trans (hc j hj)⟩
theorem IntsAt.mono {n₀ n₁ : Nat} {w : World} {sv : Value} {zs : List Int} (h : IntsAt n₀ w sv zs) (hn : n₀ ≤ n₁) : IntsAt n₁ w sv zs := by
  obtain ⟨a, cap, e, h⟩ := h
  refine ⟨a, cap, e, fun hne => ?_⟩
  obtain ⟨b, off, e2, hlt, hc⟩ := h hne
  exact ⟨b, off, e2, by omega, hc⟩
theorem intsAt_own {B n₀ : Nat} {w : World} {v : Value} {zs : List Int} (h : w.ownsRow B 3 1 v zs.length (zs.map (Value.int .i64))) (hn : w.heap.size ≤ n₀) : IntsAt n₀ w v zs := by
  rcases h.2 with ⟨rfl, h0⟩ | ⟨g, cap, cur, rfl, _⟩
  · exact ⟨none, 0, by rw [h0], fun hne => absurd (List.length_eq_zero_iff.1 h0) hne⟩
  · refine ⟨some ⟨g, 0, none⟩, cap, rfl, fun _ => ⟨g, 0, rfl, by have := (h.lt g rfl).2; omega, fun j hj => ?_⟩⟩
    have := h.cells rfl j (.int .i64 (zs[j]?.getD 0)) (by simp [List.getElem?_eq_getElem hj])
    have e : (⟨g, 0, none⟩ : Addr).add j = ⟨g, 0 + j, none⟩ := by cases j <;> simp [Addr.add]
    rw [← e]
    exact this

/-- What Encode hands back. -/
def encOut (zs : List Int) : Value := if ∀ z ∈ zs, inR z then .tuple #[.string ⟨(enc zs).toArray⟩, .int .i64 0] else .tuple #[.string ⟨#[]⟩, .int .i64 2]
theorem encOut_ok {zs : List Int} (h : ∀ z ∈ zs, inR z) : encOut zs = .tuple #[.string ⟨(enc zs).toArray⟩, .int .i64 0] := if_pos h
theorem encOut_bad {zs : List Int} (h : ¬ ∀ z ∈ zs, inR z) : encOut zs = .tuple #[.string ⟨#[]⟩, .int .i64 2] := if_neg h

theorem take_snoc (zs : List Int) (k : Nat) (h : k < zs.length) : zs.take (k + 1) = zs.take k ++ [zs[k]?.getD 0] := by
  rw [List.take_add_one, List.getElem?_eq_getElem h]; rfl
theorem enc_len (zs : List Int) (hl : zs.length ≤ 50) (h : ∀ z ∈ zs, inR z) : (enc zs).length ≤ 500 := by
  have := flat_len zs h
  have := uv_len9 (m := zs.length) (by omega)
  unfold enc; rw [List.length_append]; omega

set_option maxHeartbeats 1000000 in
set_option maxRecDepth 100000 in
theorem encode_any (zs : List Int) (hl : zs.length ≤ 20000) (sv : Value) (w : World) (hI : IntsAt w.heap.size w sv zs) :
    Calls Try.prog 21 #[sv] w fun e w' => e = .returned (encOut zs) ∧ Below w.heap.size w w' := by
  obtain ⟨a, cap, rfl, hc⟩ := hI
  have hun := uv_len9 (m := zs.length) (by omega)
  have HC := Lib.hid hc
  clear hc
  go_enter Try.func21, Try.ntmps21
  go_wp2_with fail
  refine (groups_any w.heap.size 0 zs.length (by omega) (.slice none 0 0) [] w (World.ownsRow_nil _ _ _ _) (Nat.le_refl _) (by omega)).mono ?_
  rintro e w1 ⟨v', rfl, hown, hb⟩
  simp only [Nat.zero_add, List.nil_append] at hown
  have HO := Lib.hid hown
  have HB := Lib.hid hb
  clear hown hb
  go_wp2
  go_loopw [4, 15] (fun vb vi wr => ∃ (k : Nat), k ≤ zs.length ∧ vi = .int .i64 k ∧ (∀ z ∈ zs.take k, inR z) ∧ wr.ownsRow w.heap.size 5 1 vb (Lib.uvarint zs.length ++ flat (zs.take k)).length (Lib.byteCells (Lib.uvarint zs.length ++ flat (zs.take k))) ∧ Below w.heap.size w wr)
    (fun _ vi _ => zs.length - (intOf vi).toNat)
  case atStart => exact ⟨0, Nat.zero_le _, rfl, by simp, by simpa [flat] using HO.out, HB.out⟩
  case round =>
    obtain ⟨k, hk, rfl, hp, hown, hB⟩ := hrel
    have HP := Lib.hid hp
    have HO2 := Lib.hid hown
    have HB2 := Lib.hid hB
    have hfl : (Lib.uvarint zs.length ++ flat (zs.take k)).length ≤ 180009 := by
      have := flat_len _ hp
      have : (zs.take k).length ≤ k := List.length_take_le _ _
      rw [List.length_append]; omega
    have hpos : 1 ≤ (Lib.uvarint zs.length ++ flat (zs.take k)).length := by
      have := Lib.uvarint_pos zs.length
      rw [List.length_append]; omega
    clear hp hown hB HO HB
    by_cases hlt : k < zs.length
    · obtain ⟨b, off, rfl, hbl, hcj⟩ := HC.out (by intro e; rw [e] at hlt; simp at hlt)
      have hcell := (HB2.out.cell (p := ⟨b, off + k, none⟩) hbl).trans (hcj k hlt)
      have HT := Lib.hid (take_snoc zs k hlt)
      have HM : Hid (zs[k]?.getD 0 ∈ zs) := by rw [List.getElem?_eq_getElem hlt]; exact List.getElem_mem hlt
      generalize zs[k]?.getD 0 = z at *
      clear hcj HC hpos
      by_cases hz : inR z
      · have HF := Lib.hid (fold_inR hz)
        obtain ⟨hz1, hz2⟩ := hz
        go_wp2_with fail
        refine (signedEncodable_any _ _).mono ?_
        rintro e w' ⟨rfl, rfl⟩
        rw [decide_eq_true hz1, decide_eq_true hz2]
        go_wp2_with fail
        refine (fold_any z _ hz1 hz2).mono ?_
        rintro e w' ⟨rfl, rfl⟩
        go_wp2_with fail
        refine (groups_any w.heap.size _ (fold z) HF.out _ _ _ HO2.out (HB2.out.size) (by omega)).mono ?_
        rintro e w2 ⟨v2, rfl, hown2, hb2⟩
        have HO3 := Lib.hid hown2
        have HB3 := Lib.hid (HB2.out.trans hb2)
        clear hown2 hb2 HO2 HB2
        go_wp2
        go_roundw
        case rel =>
          refine ⟨k + 1, by omega, by go_num, ?_, ?_, HB3.out⟩
          · rw [HT.out]
            intro y hy
            rcases List.mem_append.1 hy with hy | hy
            · exact HP.out y hy
            · simp at hy; subst hy; exact ⟨hz1, hz2⟩
          · have h3 := HO3.out
            rw [← Lib.byteCells_append] at h3
            rw [HT.out, flat_snoc, ← List.append_assoc, List.length_append]
            exact h3
        case measure => simp [intOf]; omega
      · have HZ : Hid (¬ ∀ z ∈ zs, inR z) := fun h => hz (h z HM.out)
        have hz1 : (decide (-1152921504606846976 ≤ z) && decide (z ≤ 1152921504606846976)) = false := by unfold inR at hz; simp; omega
        clear hz
        go_wp2_with fail
        refine (signedEncodable_any _ _).mono ?_
        rintro e w' ⟨rfl, rfl⟩
        rw [hz1]
        clear hz1
        go_wp2
        go_ret2
        exact ⟨by rw [encOut_bad HZ.out]; rfl, HB2.out⟩
    · have HA : Hid (∀ z ∈ zs, inR z) := by
        have h := HP.out
        rw [List.take_of_length_le (by omega)] at h
        exact h
      have h3 := HO2.out
      rw [List.take_of_length_le (by omega)] at h3 hpos
      have hL : enc zs = Lib.uvarint zs.length ++ flat zs := rfl
      rw [← hL] at h3 hpos
      have Hl : Hid (encOut zs = .tuple #[.string ⟨(enc zs).toArray⟩, .int .i64 0]) := encOut_ok HA.out
      generalize enc zs = l at *
      obtain ⟨g, cap2, rfl, hcv⟩ := conv_own h3 hpos
      clear h3 HC hL HO2
      go_wp2
      go_ret2
      exact ⟨by rw [Hl.out]; rfl, HB2.out⟩

theorem mk_append (l m : List UInt8) : (⟨l.toArray⟩ : ByteArray) ++ ⟨m.toArray⟩ = ⟨(l ++ m).toArray⟩ := by
  apply ByteArray.ext
  simp

set_option maxHeartbeats 1000000 in
set_option maxRecDepth 100000 in
theorem refEncode_any (zs : List Int) (hl : zs.length ≤ 50) (sv : Value) (w : World) (hI : IntsAt w.heap.size w sv zs) :
    Calls Try.prog 22 #[sv] w fun e w' => e = .returned (encOut zs) ∧ Below w.heap.size w w' := by
  obtain ⟨a, cap, rfl, hc⟩ := hI
  have HC := Lib.hid hc
  clear hc
  go_enter Try.func22, Try.ntmps22
  go_wp2_with fail
  refine (put_any zs.length (by omega) _).mono ?_
  rintro e w1 ⟨rfl, hb⟩
  have HB := Lib.hid hb
  clear hb
  go_wp2
  go_loopw [4, 5] (fun vb vi wr => ∃ (k : Nat), k ≤ zs.length ∧ vi = .int .i64 k ∧ (∀ z ∈ zs.take k, inR z) ∧ vb = .string ⟨(Lib.uvarint zs.length ++ flat (zs.take k)).toArray⟩ ∧ Below w.heap.size w wr)
    (fun _ vi _ => zs.length - (intOf vi).toNat)
  case atStart => exact ⟨0, Nat.zero_le _, rfl, by simp, by simp [flat], HB.out⟩
  case round =>
    obtain ⟨k, hk, rfl, hp, rfl, hB⟩ := hrel
    have HP := Lib.hid hp
    have HB2 := Lib.hid hB
    have hfl : (Lib.uvarint zs.length ++ flat (zs.take k)).length ≤ 500 := by
      have := flat_len _ hp
      have := uv_len9 (m := zs.length) (by omega)
      have : (zs.take k).length ≤ k := List.length_take_le _ _
      rw [List.length_append]; omega
    clear hp hB HB
    by_cases hlt : k < zs.length
    · obtain ⟨b, off, rfl, hbl, hcj⟩ := HC.out (by intro e; rw [e] at hlt; simp at hlt)
      have hcell := (HB2.out.cell (p := ⟨b, off + k, none⟩) hbl).trans (hcj k hlt)
      have HT := Lib.hid (take_snoc zs k hlt)
      have HM : Hid (zs[k]?.getD 0 ∈ zs) := by rw [List.getElem?_eq_getElem hlt]; exact List.getElem_mem hlt
      generalize zs[k]?.getD 0 = z at *
      obtain ⟨t, ht⟩ : ∃ t : ByteArray, ⟨(Lib.uvarint zs.length ++ flat (zs.take k)).toArray⟩ = t := ⟨_, rfl⟩
      rw [ht]
      have hts : t.size ≤ 1000 := by rw [← ht]; simp [ByteArray.size]; simp at hfl; omega
      have Ht := Lib.hid ht
      clear hcj HC ht hfl
      by_cases hz : inR z
      · obtain ⟨hz1, hz2⟩ := hz
        go_wp2_with fail
        refine (refSigned_any _ z _ hts hz1 hz2).mono ?_
        rintro e w2 ⟨rfl, hb2⟩
        have HB3 := Lib.hid (HB2.out.trans (hb2.mono HB2.out.size))
        clear hb2 HB2
        go_wp2
        go_roundw
        case rel =>
          refine ⟨k + 1, by omega, by go_num, ?_, ?_, HB3.out⟩
          · rw [HT.out]
            intro y hy
            rcases List.mem_append.1 hy with hy | hy
            · exact HP.out y hy
            · simp at hy; subst hy; exact ⟨hz1, hz2⟩
          · rw [HT.out, flat_snoc, ← List.append_assoc, ← Ht.out, mk_append]
        case measure => simp [intOf]; omega
      · have HZ : Hid (¬ ∀ z ∈ zs, inR z) := fun h => hz (h z HM.out)
        have hz1 : z < -1152921504606846976 ∨ 1152921504606846976 < z := by unfold inR at hz; omega
        clear hz
        go_wp2_with fail
        refine (refSigned_bad _ z _ hz1).mono ?_
        rintro e w2 ⟨rfl, rfl⟩
        clear hz1
        go_wp2
        go_ret2
        exact ⟨by rw [encOut_bad HZ.out]; rfl, HB2.out⟩
    · have HA : Hid (∀ z ∈ zs, inR z) := by
        have h := HP.out
        rw [List.take_of_length_le (by omega)] at h
        exact h
      have HE : Hid (zs.take k = zs) := List.take_of_length_le (by omega)
      obtain ⟨t, ht⟩ : ∃ t : ByteArray, ⟨(Lib.uvarint zs.length ++ flat (zs.take k)).toArray⟩ = t := ⟨_, rfl⟩
      rw [ht]
      rw [HE.out] at ht
      have Ht := Lib.hid ht
      clear HC ht
      go_wp2
      go_ret2
      exact ⟨by rw [encOut_ok HA.out, enc, Ht.out]; rfl, HB2.out⟩
end Go.Proofs.Ytihblhdiheflaaa
