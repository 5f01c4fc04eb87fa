/- What Parse of the reference of layer 3 reckons: where a text is cut, and its two numbers; Format of any fraction. -/
import Derived.Test.YtbhlpcomgfmodaaDoorRatU
import Derived.Test.YtbhlpcomgfmodaaDoorRatQ
import Derived.Lib.IndexBytes
set_option linter.unusedVariables false
set_option linter.unusedSimpArgs false
namespace Go.Proofs.YtbhlpcomgfmodaaDoor.Rat
open Go.RowKit

/-- What stands before and behind the first slash from place k on. -/
def spl (l : List UInt8) (k : Nat) : List UInt8 × List UInt8 :=
  match (l.drop k).findIdx? (· == 47) with
  | none => (l, [])
  | some j => (l.take (k + j), l.drop (k + j + 1))
theorem spl_end (l : List UInt8) : spl l l.length = (l, []) := by
  unfold spl
  rw [List.drop_length]
  rfl
theorem spl_hit {l : List UInt8} {k : Nat} (hk : k < l.length) (h : l[k] = 47) : spl l k = (l.take k, l.drop (k + 1)) := by
  unfold spl
  rw [List.drop_eq_getElem_cons hk, List.findIdx?_cons, h]
  simp
theorem spl_miss {l : List UInt8} {k : Nat} (hk : k < l.length) (h : l[k] ≠ 47) : spl l k = spl l (k + 1) := by
  unfold spl
  have h2 : (l[k] == 47) = false := by simp [h]
  rw [List.drop_eq_getElem_cons hk, List.findIdx?_cons, h2]
  simp only [Bool.false_eq_true, if_false]
  cases hf : (l.drop (k + 1)).findIdx? (· == 47) with
  | none => simp
  | some j =>
    simp
    constructor <;> congr 1 <;> omega
theorem spl_len (l : List UInt8) (k : Nat) : (spl l k).1.length ≤ l.length ∧ (spl l k).2.length ≤ l.length := by
  unfold spl
  split
  · simp
  · constructor <;> simp <;> omega

def parseAB (a b : List UInt8) : Int × Int × Bool :=
  let g : Int × List UInt8 := if a.head? = some 45 then (-1, a.tail) else (1, a)
  if b = [] then (g.1 * (numOut g.2).1, 1, (numOut g.2).2) else (g.1 * (numOut g.2).1, (numOut b).1, (numOut g.2).2 && (numOut b).2)
def parseL (l : List UInt8) : Int × Int × Bool := parseAB (spl l 0).1 (spl l 0).2
def outP (s : ByteArray) (r : Int × Int × Bool) : Value :=
  if r.2.2 = true ∧ fmtS r.1 r.2.1 = s then .tuple #[rat r.1 r.2.1, .int .i64 0] else .tuple #[rat 0 0, .int .i64 3]
def parseOut (s : ByteArray) : Value := outP s (parseL s.data.toList)
theorem outP_no {s : ByteArray} {n d : Int} : outP s (n, d, false) = .tuple #[rat 0 0, .int .i64 3] := if_neg (by simp)
theorem outP_eq {s : ByteArray} {n d : Int} (h : fmtS n d = s) : outP s (n, d, true) = .tuple #[rat n d, .int .i64 0] := if_pos ⟨rfl, h⟩
theorem outP_ne {s : ByteArray} {n d : Int} (h : ¬ fmtS n d = s) : outP s (n, d, true) = .tuple #[rat 0 0, .int .i64 3] := if_neg (fun h' => h h'.2)
theorem parse_minus {a b : List UInt8} (h : a.head? = some 45) : parseAB a b = if b = [] then (-1 * (numOut a.tail).1, 1, (numOut a.tail).2) else (-1 * (numOut a.tail).1, (numOut b).1, (numOut a.tail).2 && (numOut b).2) := by
  unfold parseAB
  rw [if_pos h]
theorem parse_plain {a b : List UInt8} (h : ¬ a.head? = some 45) : parseAB a b = if b = [] then (1 * (numOut a).1, 1, (numOut a).2) else (1 * (numOut a).1, (numOut b).1, (numOut a).2 && (numOut b).2) := by
  unfold parseAB
  rw [if_neg h]
theorem ba_inj {a b : ByteArray} (h : a.toList = b.toList) : a = b := by
  rw [ByteArray.toList_eq, ByteArray.toList_eq] at h
  exact ByteArray.ext (Array.toList_inj.1 h)
theorem numGo_le : ∀ (l : List UInt8) (n m : Nat), n ≤ 1152921504606846979 → numGo l n = some m → m ≤ 1152921504606846979
  | [], n, m, hn, h => by
    have : n = m := Option.some.inj h
    omega
  | c :: l, n, m, hn, h => by
    rw [numGo] at h
    split at h
    · exact absurd h (by simp)
    · rename_i hc
      exact numGo_le l _ m (by have := c.toNat_lt; omega) h
theorem numOut_le (l : List UInt8) : 0 ≤ (numOut l).1 ∧ (numOut l).1 ≤ 1152921504606846979 := by
  unfold numOut
  split
  · exact ⟨by decide, by decide⟩
  · rename_i n hn
    have := numGo_le l 0 n (by omega) hn
    exact ⟨by simp, by simp; omega⟩
theorem format_any (n d : Int) (i1 : inI n) (i2 : inI d) (w : World) :
    Calls Tryd.prog 18 #[rat n d] w fun e w' => e = .returned (.string (fmtS n d)) ∧ Below w.heap.size w w' := by
  by_cases h : chk n d
  · obtain ⟨D, rfl, hx⟩ := chk_nat h
    exact format_yes n D hx w
  · exact format_no n d i1 i2 h w

end Go.Proofs.YtbhlpcomgfmodaaDoor.Rat
