/- The contracts of the reference of layer 3: plus as a whole, fits, over. -/
import Derived.Test.YtbiegbnncnjnmaaRatC
set_option linter.unusedVariables false
set_option linter.unusedSimpArgs false
namespace Go.Proofs.Ytbiegbnncnjnmaa.Rat
open Go.RowKit

/-- How far the sums of products go. -/
def far (z : Int) : Prop := z.natAbs ≤ 2658455991569831745807614120560689152
theorem far_hi {z : Int} (h : far z) : z.natAbs / 1152921504606846976 ≤ 2305843009213693952 := by
  unfold far at h
  omega
theorem wid_of {z : Int} {s h l : Int} (h1 : z.sign = s) (h2 : ((z.natAbs / 1152921504606846976 : Nat) : Int) = h) (h3 : ((z.natAbs % 1152921504606846976 : Nat) : Int) = l) : wid z = .agg #[.int .i64 s, .int .i64 h, .int .i64 l] := by
  unfold wid
  rw [h1, h2, h3]
theorem lo_lt (z : Int) : z.natAbs % 1152921504606846976 < 1152921504606846976 := Nat.mod_lt _ (by omega)
theorem plus_gt (s1 s2 : Int) (A B : Nat) (hs1 : (s1 == 0) = false) (hs2 : (s2 == 0) = false) (hs : (s1 == s2) = false) (b1 : A / 1152921504606846976 ≤ 2305843009213693952) (b2 : B / 1152921504606846976 ≤ 2305843009213693952) (hAB : B < A) (w : World) :
    Calls Try.prog 67 #[Value.agg #[.int .i64 s1, .int .i64 ((A / 1152921504606846976 : Nat) : Int), .int .i64 ((A % 1152921504606846976 : Nat) : Int)], Value.agg #[.int .i64 s2, .int .i64 ((B / 1152921504606846976 : Nat) : Int), .int .i64 ((B % 1152921504606846976 : Nat) : Int)]] w fun e w' => e = .returned (Value.agg #[.int .i64 s1, .int .i64 (((A - B) / 1152921504606846976 : Nat) : Int), .int .i64 (((A - B) % 1152921504606846976 : Nat) : Int)]) ∧ Below w.heap.size w w' := by
  by_cases hl : A % 1152921504606846976 < B % 1152921504606846976
  · have h := plus_borrow s1 s2 (A / 1152921504606846976) (A % 1152921504606846976) (B / 1152921504606846976) (B % 1152921504606846976) hs1 hs2 hs b1 b2 (Nat.mod_lt _ (by omega)) (Nat.mod_lt _ (by omega)) (by omega) hl w
    have e1 : (((A - B) / 1152921504606846976 : Nat) : Int) = (((A / 1152921504606846976 : Nat) : Int) - (B / 1152921504606846976 : Nat) - 1) := by omega
    have e2 : (((A - B) % 1152921504606846976 : Nat) : Int) = (((A % 1152921504606846976 : Nat) : Int) - (B % 1152921504606846976 : Nat) + 1152921504606846976) := by omega
    rw [e1, e2]; exact h
  · have h := plus_plain s1 s2 (A / 1152921504606846976) (A % 1152921504606846976) (B / 1152921504606846976) (B % 1152921504606846976) hs1 hs2 hs b1 b2 (Nat.mod_lt _ (by omega)) (Nat.mod_lt _ (by omega)) (by omega) (by omega) (by omega) w
    have e1 : (((A - B) / 1152921504606846976 : Nat) : Int) = (((A / 1152921504606846976 : Nat) : Int) - (B / 1152921504606846976 : Nat)) := by omega
    have e2 : (((A - B) % 1152921504606846976 : Nat) : Int) = (((A % 1152921504606846976 : Nat) : Int) - (B % 1152921504606846976 : Nat)) := by omega
    rw [e1, e2]; exact h
theorem plus_lt (s1 s2 : Int) (A B : Nat) (hs1 : (s1 == 0) = false) (hs2 : (s2 == 0) = false) (hs : (s1 == s2) = false) (b1 : A / 1152921504606846976 ≤ 2305843009213693952) (b2 : B / 1152921504606846976 ≤ 2305843009213693952) (hAB : A < B) (w : World) :
    Calls Try.prog 67 #[Value.agg #[.int .i64 s1, .int .i64 ((A / 1152921504606846976 : Nat) : Int), .int .i64 ((A % 1152921504606846976 : Nat) : Int)], Value.agg #[.int .i64 s2, .int .i64 ((B / 1152921504606846976 : Nat) : Int), .int .i64 ((B % 1152921504606846976 : Nat) : Int)]] w fun e w' => e = .returned (Value.agg #[.int .i64 s2, .int .i64 (((B - A) / 1152921504606846976 : Nat) : Int), .int .i64 (((B - A) % 1152921504606846976 : Nat) : Int)]) ∧ Below w.heap.size w w' := by
  by_cases hl : B % 1152921504606846976 < A % 1152921504606846976
  · have h := plus_borrow_swap s1 s2 (A / 1152921504606846976) (A % 1152921504606846976) (B / 1152921504606846976) (B % 1152921504606846976) hs1 hs2 hs b1 b2 (Nat.mod_lt _ (by omega)) (Nat.mod_lt _ (by omega)) (by omega) hl w
    have e1 : (((B - A) / 1152921504606846976 : Nat) : Int) = (((B / 1152921504606846976 : Nat) : Int) - (A / 1152921504606846976 : Nat) - 1) := by omega
    have e2 : (((B - A) % 1152921504606846976 : Nat) : Int) = (((B % 1152921504606846976 : Nat) : Int) - (A % 1152921504606846976 : Nat) + 1152921504606846976) := by omega
    rw [e1, e2]; exact h
  · have h := plus_plain_swap s1 s2 (A / 1152921504606846976) (A % 1152921504606846976) (B / 1152921504606846976) (B % 1152921504606846976) hs1 hs2 hs b1 b2 (Nat.mod_lt _ (by omega)) (Nat.mod_lt _ (by omega)) (by omega) (by omega) (by omega) w
    have e1 : (((B - A) / 1152921504606846976 : Nat) : Int) = (((B / 1152921504606846976 : Nat) : Int) - (A / 1152921504606846976 : Nat)) := by omega
    have e2 : (((B - A) % 1152921504606846976 : Nat) : Int) = (((B % 1152921504606846976 : Nat) : Int) - (A % 1152921504606846976 : Nat)) := by omega
    rw [e1, e2]; exact h
/-- plus, where the signs differ. -/
theorem plus_diff (a b : Int) (ha : far a) (hb : far b) (hs1 : (a.sign == 0) = false) (hs2 : (b.sign == 0) = false) (hs : (a.sign == b.sign) = false) (hd : a < 0 ∧ 0 < b ∨ 0 < a ∧ b < 0) (w : World) :
    Calls Try.prog 67 #[wid a, wid b] w fun e w' => e = .returned (wid (a + b)) ∧ Below w.heap.size w w' := by
  have b1 := far_hi ha
  have b2 := far_hi hb
  rcases Nat.lt_trichotomy a.natAbs b.natAbs with h | h | h
  · have h3 := plus_lt a.sign b.sign a.natAbs b.natAbs hs1 hs2 hs b1 b2 h w
    have e : (a + b).natAbs = b.natAbs - a.natAbs := by omega
    have e2 : (a + b).sign = b.sign := by
      rcases hd with hd | hd
      · rw [sign_pos' (show 0 < a + b by omega), sign_pos' hd.2]
      · rw [sign_neg' (show a + b < 0 by omega), sign_neg' hd.2]
    rw [wid_of (z := a + b) e2 (congrArg (fun n : Nat => ((n / 1152921504606846976 : Nat) : Int)) e) (congrArg (fun n : Nat => ((n % 1152921504606846976 : Nat) : Int)) e)]
    exact h3
  · have h3 := plus_none a.sign b.sign (a.natAbs / 1152921504606846976) (a.natAbs % 1152921504606846976) (b.natAbs / 1152921504606846976) (b.natAbs % 1152921504606846976) hs1 hs2 hs b1 b2 (lo_lt a) (lo_lt b) (by rw [h]) (by rw [h]) w
    have e : a + b = 0 := by omega
    rw [e]
    exact h3
  · have h3 := plus_gt a.sign b.sign a.natAbs b.natAbs hs1 hs2 hs b1 b2 h w
    have e : (a + b).natAbs = a.natAbs - b.natAbs := by omega
    have e2 : (a + b).sign = a.sign := by
      rcases hd with hd | hd
      · rw [sign_neg' (show a + b < 0 by omega), sign_neg' hd.1]
      · rw [sign_pos' (show 0 < a + b by omega), sign_pos' hd.1]
    rw [wid_of (z := a + b) e2 (congrArg (fun n : Nat => ((n / 1152921504606846976 : Nat) : Int)) e) (congrArg (fun n : Nat => ((n % 1152921504606846976 : Nat) : Int)) e)]
    exact h3
theorem plus_any (a b : Int) (ha : far a) (hb : far b) (w : World) :
    Calls Try.prog 67 #[wid a, wid b] w fun e w' => e = .returned (wid (a + b)) ∧ Below w.heap.size w w' := by
  have b1 := far_hi ha
  have b2 := far_hi hb
  have c1 := lo_lt a
  have c2 := lo_lt b
  rcases Int.lt_trichotomy a 0 with h1 | h1 | h1 <;> rcases Int.lt_trichotomy b 0 with h2 | h2 | h2
  · have h := plus_same (-1) (a.natAbs / 1152921504606846976) (a.natAbs % 1152921504606846976) (b.natAbs / 1152921504606846976) (b.natAbs % 1152921504606846976) rfl b1 b2 c1 c2 w
    rw [wid_of (sign_neg' h1) rfl rfl, wid_of (sign_neg' h2) rfl rfl, wid_of (z := a + b) (sign_neg' (by omega)) (h := ((a.natAbs / 1152921504606846976 : Nat) : Int) + (b.natAbs / 1152921504606846976 : Nat) + (((a.natAbs % 1152921504606846976 : Nat) : Int) + (b.natAbs % 1152921504606846976 : Nat)) / 1152921504606846976) (l := (((a.natAbs % 1152921504606846976 : Nat) : Int) + (b.natAbs % 1152921504606846976 : Nat)) % 1152921504606846976) (by omega) (by omega)]
    exact h
  · subst h2
    rw [Int.add_zero]
    exact plus_zero_r (a.sign) (a.natAbs / 1152921504606846976 : Nat) (a.natAbs % 1152921504606846976 : Nat) 0 0 (by rw [sign_neg' h1]; rfl) w
  · exact plus_diff a b ha hb (by rw [sign_neg' h1]; rfl) (by rw [sign_pos' h2]; rfl) (by rw [sign_neg' h1, sign_pos' h2]; rfl) (.inl ⟨h1, h2⟩) w
  · subst h1
    rw [Int.zero_add]
    exact plus_zero_l 0 0 (b.sign) (b.natAbs / 1152921504606846976 : Nat) (b.natAbs % 1152921504606846976 : Nat) w
  · subst h1
    rw [Int.zero_add]
    exact plus_zero_l 0 0 (b.sign) (b.natAbs / 1152921504606846976 : Nat) (b.natAbs % 1152921504606846976 : Nat) w
  · subst h1
    rw [Int.zero_add]
    exact plus_zero_l 0 0 (b.sign) (b.natAbs / 1152921504606846976 : Nat) (b.natAbs % 1152921504606846976 : Nat) w
  · exact plus_diff a b ha hb (by rw [sign_pos' h1]; rfl) (by rw [sign_neg' h2]; rfl) (by rw [sign_pos' h1, sign_neg' h2]; rfl) (.inr ⟨h1, h2⟩) w
  · subst h2
    rw [Int.add_zero]
    exact plus_zero_r (a.sign) (a.natAbs / 1152921504606846976 : Nat) (a.natAbs % 1152921504606846976 : Nat) 0 0 (by rw [sign_pos' h1]; rfl) w
  · have h := plus_same 1 (a.natAbs / 1152921504606846976) (a.natAbs % 1152921504606846976) (b.natAbs / 1152921504606846976) (b.natAbs % 1152921504606846976) rfl b1 b2 c1 c2 w
    rw [wid_of (sign_pos' h1) rfl rfl, wid_of (sign_pos' h2) rfl rfl, wid_of (z := a + b) (sign_pos' (by omega)) (h := ((a.natAbs / 1152921504606846976 : Nat) : Int) + (b.natAbs / 1152921504606846976 : Nat) + (((a.natAbs % 1152921504606846976 : Nat) : Int) + (b.natAbs % 1152921504606846976 : Nat)) / 1152921504606846976) (l := (((a.natAbs % 1152921504606846976 : Nat) : Int) + (b.natAbs % 1152921504606846976 : Nat)) % 1152921504606846976) (by omega) (by omega)]
    exact h
end Go.Proofs.Ytbiegbnncnjnmaa.Rat
