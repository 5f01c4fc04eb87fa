/- The program's Parse is the reference's. -/
import Derived.Test.YtbhlpcomgfmodaaDoorPV
set_option linter.unusedVariables false
set_option linter.unusedSimpArgs false
namespace Go.Proofs.YtbhlpcomgfmodaaDoor.Pro
open Go.RowKit

/-- The denominator's text. -/
def denL (c : List UInt8 × List UInt8 × Bool) : List UInt8 := if c.2.2 then c.2.1 else [49]
theorem sign_no47 (n : Int) : ∀ c ∈ (if n < 0 then [45] else []) ++ Rat.decL n.natAbs, c ≠ 47 := by
  intro c hc
  rcases List.mem_append.1 hc with h | h
  · split at h
    · rw [List.mem_singleton.1 h]; decide
    · cases h
  · exact Rat.dec_no47 _ c h
theorem one_text : Rat.decL 1 = [49] := by rw [Rat.decL_small (by decide)]; rfl
theorem text_ab {n : Int} {D : Nat} (h : Rat.chk n D) : atoiV (Lib.cut (Rat.fmtL n D) [47]).1 = n ∧ atoiV (denL (Lib.cut (Rat.fmtL n D) [47])) = D := by
  obtain ⟨h1, h2, h3⟩ := h
  have hn := atoi_num n (by omega)
  have hd := atoi_num (D : Int) (by omega)
  rw [if_neg (show ¬ (D : Int) < 0 by omega), List.nil_append, Int.natAbs_natCast] at hd
  unfold Rat.fmtL denL atoiV
  rw [Int.natAbs_natCast]
  by_cases h4 : (1 : Int) < D
  · rw [if_pos h4, cut_slash (sign_no47 n)]
    simp only [if_true]
    rw [hn, hd]
    exact ⟨rfl, rfl⟩
  · have h5 : D = 1 := by omega
    rw [if_neg h4, List.append_nil, cut_none (sign_no47 n)]
    subst h5
    rw [one_text] at hd
    simp only [Bool.false_eq_true, if_false]
    rw [hn, hd]
    exact ⟨rfl, rfl⟩
theorem cut_len (l : List UInt8) : (Lib.cut l [47]).1.length ≤ l.length ∧ (Lib.cut l [47]).2.1.length ≤ l.length := by
  unfold Lib.cut
  split
  · exact ⟨by simp; omega, by simp⟩
  · exact ⟨Nat.le_refl _, by simp⟩
theorem mk_toList (l : List UInt8) : (⟨l.toArray⟩ : ByteArray).data.toList = l := by simp
theorem fmt_data {n : Int} {D : Nat} (h : Rat.chk n D) : (Rat.fmtS n D).data.toList = Rat.fmtL n D := by
  unfold Rat.fmtS
  rw [if_pos h, mk_toList]
/-- A text that is a fraction's is read as that fraction. -/
theorem parse_no {s : ByteArray} {a b : Int} (ha : a = atoiV (Lib.cut s.data.toList [47]).1) (hb : b = atoiV (denL (Lib.cut s.data.toList [47]))) (h : ¬ (Rat.chk a b ∧ Rat.fmtS a b = s)) : Rat.parseOut s = .tuple #[.agg #[.int .i64 0, .int .i64 0], .int .i64 3] := by
  refine Rat.parseOut_no ?_
  rintro n d hc rfl
  obtain ⟨D, rfl, hD⟩ := Rat.chk_nat hc
  have e := text_ab hD
  rw [← fmt_data hD, ← ha, ← hb] at e
  obtain ⟨rfl, rfl⟩ := e
  exact h ⟨hD, rfl⟩
theorem parse_yes {s : ByteArray} {a b : Int} (h : Rat.chk a b ∧ Rat.fmtS a b = s) : Rat.parseOut s = .tuple #[.agg #[.int .i64 a, .int .i64 b], .int .i64 0] := by
  obtain ⟨D, rfl, hD⟩ := Rat.chk_nat h.1
  rw [← h.2]
  exact Rat.parseOut_yes hD
theorem parse_any (s : ByteArray) (hs : s.size ≤ 100) (w : World) (hl : Laid w) :
    Calls Tryd.prog 30 #[.string s] w fun e w' => e = .returned (Rat.parseOut s) ∧ Below w.heap.size w w' := by
  have CU := fun w h => cut_any s hs w h
  obtain ⟨l1, l2⟩ := cut_len s.data.toList
  have hlen : s.data.toList.length = s.size := Array.length_toList
  rw [hlen] at l1 l2
  obtain ⟨a, ha⟩ : ∃ a, a = atoiV (Lib.cut s.data.toList [47]).1 := ⟨_, rfl⟩
  obtain ⟨b, hb⟩ : ∃ b, b = atoiV (denL (Lib.cut s.data.toList [47])) := ⟨_, rfl⟩
  have hno := parse_no ha hb
  have hyes := parse_yes (s := s) (a := a) (b := b)
  have ia : inI a := by rw [ha]; exact atoiV_inI _
  have ib : inI b := by rw [hb]; exact atoiV_inI _
  have AN := fun w h => atoi_any ⟨(Lib.cut s.data.toList [47]).1.toArray⟩ (by show (Lib.cut s.data.toList [47]).1.toArray.size ≤ _; simp; omega) w h
  rw [mk_toList, ← ha] at AN
  have AF := fun w h => atoi_any ⟨(Lib.cut s.data.toList [47]).2.1.toArray⟩ (by show (Lib.cut s.data.toList [47]).2.1.toArray.size ≤ _; simp; omega) w h
  rw [mk_toList] at AF
  have A1 := fun w h => atoi_any ⟨#[49]⟩ (by decide) w h
  have FO := fun w h => format_any a b ia ib w h
  unfold denL at hb
  generalize (Lib.cut s.data.toList [47]).1 = x at *
  generalize (Lib.cut s.data.toList [47]).2.1 = y at *
  generalize (Lib.cut s.data.toList [47]).2.2 = f at *
  cases f with
  | true =>
    simp only [if_true] at hb
    rw [← hb] at AF
    by_cases hc : Rat.chk a b
    · have CK := Lib.hid fun w => check_yes a b hc w
      by_cases hf : Rat.fmtS a b = s
      · rw [hyes ⟨hc, hf⟩]
        rw [hf] at FO
        exact parse_yes1 s _ _ a b (Lib.hid CU) (Lib.hid AN) (Lib.hid AF) CK (Lib.hid FO) w hl
      · rw [hno (fun h => hf h.2)]
        refine parse_fmt1 s _ _ a b (Rat.fmtS a b) ?_ (Lib.hid CU) (Lib.hid AN) (Lib.hid AF) CK (Lib.hid FO) w hl
        exact beq_eq_false_iff_ne.2 (fun h => hf (Rat.ba_inj h))
    · rw [hno (fun h => hc h.1)]
      exact parse_chk1 s _ _ a b (Lib.hid CU) (Lib.hid AN) (Lib.hid AF) (Lib.hid fun w => check_no a b ia ib hc w) w hl
  | false =>
    simp only [Bool.false_eq_true, if_false] at hb
    rw [show (⟨#[49]⟩ : ByteArray).data.toList = [49] from rfl, ← hb] at A1
    by_cases hc : Rat.chk a b
    · have CK := Lib.hid fun w => check_yes a b hc w
      by_cases hf : Rat.fmtS a b = s
      · rw [hyes ⟨hc, hf⟩]
        rw [hf] at FO
        exact parse_yes0 s _ _ a b (Lib.hid CU) (Lib.hid AN) (Lib.hid A1) CK (Lib.hid FO) w hl
      · rw [hno (fun h => hf h.2)]
        refine parse_fmt0 s _ _ a b (Rat.fmtS a b) ?_ (Lib.hid CU) (Lib.hid AN) (Lib.hid A1) CK (Lib.hid FO) w hl
        exact beq_eq_false_iff_ne.2 (fun h => hf (Rat.ba_inj h))
    · rw [hno (fun h => hc h.1)]
      exact parse_chk0 s _ _ a b (Lib.hid CU) (Lib.hid AN) (Lib.hid A1) (Lib.hid fun w => check_no a b ia ib hc w) w hl
end Go.Proofs.YtbhlpcomgfmodaaDoor.Pro
