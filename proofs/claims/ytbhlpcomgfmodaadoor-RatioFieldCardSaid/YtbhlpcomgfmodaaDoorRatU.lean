/- The contracts of the reference of layer 3: number. -/
import Derived.Test.YtbhlpcomgfmodaaDoorRatT
set_option linter.unusedVariables false
set_option linter.unusedSimpArgs false
namespace Go.Proofs.YtbhlpcomgfmodaaDoor.Rat
open Go.RowKit

/-- Reading digits, one by one. -/
def numGo : List UInt8 → Nat → Option Nat
  | [], n => some n
  | c :: l, n => if c.toNat < 48 ∨ 57 < c.toNat ∨ 115292150460684697 < n then none else numGo l (10 * n + (c.toNat - 48))
def numOut (l : List UInt8) : Int × Bool :=
  match numGo l 0 with
  | none => (0, false)
  | some n => ((n : Int), decide (0 < l.length ∧ n ≤ 1152921504606846976))
theorem numGo_bad {c : UInt8} {l : List UInt8} {n : Nat} (h : c.toNat < 48 ∨ 57 < c.toNat ∨ 115292150460684697 < n) : numGo (c :: l) n = none := if_pos h
theorem numGo_ok {c : UInt8} {l : List UInt8} {n : Nat} (h : ¬ (c.toNat < 48 ∨ 57 < c.toNat ∨ 115292150460684697 < n)) : numGo (c :: l) n = numGo l (10 * n + (c.toNat - 48)) := if_neg h

set_option maxHeartbeats 2000000 in
theorem number_any (s : ByteArray) (hs : s.size ≤ 4294967000) (w : World) :
    Calls Tryd.prog 54 #[.string s] w fun e w' => e = .returned (.tuple #[.int .i64 (numOut s.data.toList).1, .bool (numOut s.data.toList).2]) ∧ w = w' := by
  go_enter Tryd.func54, Tryd.ntmps54
  go_wp2
  go_loop [4, 5] (fun vn vi => ∃ (k n : Nat), k ≤ s.size ∧ vi = .int .i64 k ∧ vn = .int .i64 n ∧ n ≤ 1152921504606846979 ∧ Hid (numGo s.data.toList 0 = numGo (s.data.toList.drop k) n)) (fun _ vi => s.size - (intOf vi).toNat)
  case atStart => exact ⟨0, 0, by omega, rfl, rfl, by omega, rfl⟩
  case round =>
    obtain ⟨k, n, hk, rfl, rfl, hn, H⟩ := hrel
    by_cases hlt : k < s.size
    · have hik : (k : Int) < s.size := by omega
      have hdrop : s.data.toList.drop k = s[k] :: s.data.toList.drop (k + 1) := by
        rw [List.drop_eq_getElem_cons (show k < s.data.toList.length by simp; omega)]; rfl
      have hc := s[k].toNat_lt
      by_cases hbad : s[k].toNat < 48 ∨ 57 < s[k].toNat ∨ 115292150460684697 < n
      · have HN : Hid (numOut s.data.toList = (0, false)) := by
          show numOut s.data.toList = (0, false)
          unfold numOut
          rw [H.out, hdrop, numGo_bad hbad]
        clear hdrop
        rcases (show s[k].toNat < 48 ∨ (¬ s[k].toNat < 48 ∧ 57 < s[k].toNat) ∨ (¬ s[k].toNat < 48 ∧ ¬ 57 < s[k].toNat ∧ 115292150460684697 < n) by omega) with g | ⟨g, g2⟩ | ⟨g, g2, g3⟩
        · have g' : (s[k].toNat : Int) < 48 := by omega
          clear hbad
          go_wp2
          go_ret2
          exact ⟨by rw [HN.out]; rfl, rfl⟩
        · have g' : ¬ (s[k].toNat : Int) < 48 := by omega
          have g2' : (57 : Int) < (s[k].toNat : Int) := by omega
          clear hbad
          go_wp2
          go_ret2
          exact ⟨by rw [HN.out]; rfl, rfl⟩
        · have g' : ¬ (s[k].toNat : Int) < 48 := by omega
          have g2' : ¬ (57 : Int) < (s[k].toNat : Int) := by omega
          have g3' : (115292150460684697 : Int) < n := by omega
          clear hbad
          go_wp2
          go_ret2
          exact ⟨by rw [HN.out]; rfl, rfl⟩
      · have HN : Hid (numGo (s.data.toList.drop k) n = numGo (s.data.toList.drop (k + 1)) (10 * n + (s[k].toNat - 48))) := by
          show numGo _ _ = _
          rw [hdrop, numGo_ok hbad]
        clear hdrop
        have g' : ¬ (s[k].toNat : Int) < 48 := by omega
        have g2' : ¬ (57 : Int) < (s[k].toNat : Int) := by omega
        have g3' : ¬ (115292150460684697 : Int) < n := by omega
        go_wp2
        go_round
        case rel => exact ⟨k + 1, 10 * n + (s[k].toNat - 48), by omega, by go_num, by go_num, by omega, by show _ = _; rw [H.out, HN.out]⟩
        case measure => simp [intOf]; omega
    · obtain rfl : k = s.size := by omega
      have hnil : s.data.toList.drop s.size = [] := List.drop_eq_nil_of_le (by simp)
      have HN : Hid (numOut s.data.toList = ((n : Int), decide (0 < s.size ∧ n ≤ 1152921504606846976))) := by
        show numOut s.data.toList = _
        unfold numOut
        rw [H.out, hnil]
        have e : s.data.toList.length = s.size := Array.length_toList
        rw [e]
        rfl
      clear hnil
      by_cases h0 : 0 < s.size
      · have g0 : (0 : Int) < s.size := by omega
        by_cases h1 : n ≤ 1152921504606846976
        · have g1 : (n : Int) ≤ 1152921504606846976 := by omega
          rw [decide_eq_true (show 0 < s.size ∧ n ≤ 1152921504606846976 from ⟨h0, h1⟩)] at HN
          go_wp2
          go_ret2
          exact ⟨by rw [HN.out]; rfl, rfl⟩
        · have g1 : ¬ (n : Int) ≤ 1152921504606846976 := by omega
          rw [decide_eq_false (show ¬ (0 < s.size ∧ n ≤ 1152921504606846976) from fun h => h1 h.2)] at HN
          go_wp2
          go_ret2
          exact ⟨by rw [HN.out]; rfl, rfl⟩
      · have g0 : ¬ (0 : Int) < s.size := by omega
        rw [decide_eq_false (show ¬ (0 < s.size ∧ n ≤ 1152921504606846976) from fun h => h0 h.1)] at HN
        go_wp2
        go_ret2
        exact ⟨by rw [HN.out]; rfl, rfl⟩
end Go.Proofs.YtbhlpcomgfmodaaDoor.Rat
