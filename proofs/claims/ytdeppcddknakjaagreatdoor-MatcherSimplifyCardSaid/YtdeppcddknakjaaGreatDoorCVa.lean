
/- Layer 7: matchers, what they match. Layer 7: the prefix of an expression is no longer than it; literals. Layer 7: simplifying and implying. Layer 7: texts of lists of matchers, and how they are read. -/
import Derived.Test.YtdeppcddknakjaaGreatDoorCS
import Derived.Test.YtdeppcddknakjaaGreatDoorCLb
set_option maxRecDepth 100000
set_option linter.unusedVariables false
set_option linter.unusedSimpArgs false
namespace Go.Proofs.YtdeppcddknakjaaGreatDoor.Mx
open Go.Proofs.YtdeppcddknakjaaGreatDoor.Rx (MatS Mat Re check parse emptyS emptyR pre prefix_ leadB pfxS)
open Go.Proofs.YtdeppcddknakjaaGreatDoor.Lab (nameB getL Lb cmpS ord_S Ord3)
/-- A matcher. -/
structure Mt where
 k : Int
 n : ByteArray
 v : ByteArray
theorem Mt.ext' {a b : Mt} (h1 : a.k = b.k) (h2 : a.n = b.n) (h3 : a.v = b.v) : a = b := by
 cases a; cases b; cases h1; cases h2; cases h3; rfl
instance : DecidableEq Mt := fun a b => if h : a.k = b.k ∧ a.n = b.n ∧ a.v = b.v then isTrue (Mt.ext' h.1 h.2.1 h.2.2) else isFalse (fun e => h (by rw [e]; exact ⟨rfl, rfl, rfl⟩))
/-- Whether an expression matches a string. -/
noncomputable def mB (p s : ByteArray) : Bool := @decide (MatS p.data.toList s.data.toList) (Classical.propDecidable _)
theorem mB_iff {p s : ByteArray} : mB p s = true ↔ MatS p.data.toList s.data.toList := by
 unfold mB
 exact @decide_eq_true_iff _ (Classical.propDecidable _)
/-- Its prefix, and whether this is all. -/
def preS (p : ByteArray) : ByteArray × Bool := (⟨(pre p.data.toList).1.toArray⟩, (pre p.data.toList).2)
def emp (p : ByteArray) : Bool := emptyS p.data.toList
theorem ba_eq {a b : ByteArray} (h : a.data.toList = b.data.toList) : a = b := ByteArray.ext (Array.toList_inj.1 h)
theorem pre_of {p : ByteArray} {u : ByteArray} {b : Bool} (h : pre p.data.toList = (u.data.toList, b)) : preS p = (u, b) := by
 unfold preS
 rw [h]
theorem mB_parse {p s : ByteArray} (h : mB p s = true) : ∃ r, check p.data.toList = 0 ∧ parse p.data.toList = some r ∧ Mat r s.data.toList := mB_iff.1 h
theorem mB_pre {p s : ByteArray} (h : mB p s = true) : (preS p).1.data.toList <+: s.data.toList := by
 obtain ⟨r, h1, h2, h3⟩ := mB_parse h
 show (pre p.data.toList).1 <+: _
 rw [Rx.pre_yes h1 h2]
 exact Rx.prefix_mat h3
/-! Validity. -/
def chk1 (m : Mt) : Int := if m.k < 1 ∨ 4 < m.k then 8 else if nameB m.n = false then 5 else if 2 < m.k then check m.v.data.toList else if 200 < m.v.size then 4 else 0
def chkM : List Mt → Int
 | [] => 0
 | m :: l => if chk1 m = 0 then chkM l else chk1 m
def chkA (l : List Mt) : Int := if 16 < l.length then 4 else chkM l
theorem chkM_zero : ∀ {l : List Mt}, chkM l = 0 ↔ ∀ m ∈ l, chk1 m = 0
 | [] => by simp [chkM]
 | m :: l => by
  rw [chkM]
  by_cases h : chk1 m = 0
  ·rw [if_pos h, chkM_zero]; simp [h]
  ·rw [if_neg h]; simp [h]
theorem chkA_zero {l : List Mt} : chkA l = 0 ↔ l.length ≤ 16 ∧ ∀ m ∈ l, chk1 m = 0 := by
 unfold chkA
 by_cases h : 16 < l.length
 ·rw [if_pos h]; constructor
  ·intro e; cases e
  ·intro e; omega
 ·rw [if_neg h, chkM_zero]
  exact ⟨fun e => ⟨by omega, e⟩, fun e => e.2⟩
theorem chk1_kind {m : Mt} (h : chk1 m = 0) : 1 ≤ m.k ∧ m.k ≤ 4 := by
 unfold chk1 at h
 split at h
 ·cases h
 ·omega
theorem chk1_name {m : Mt} (h : chk1 m = 0) : nameB m.n = true := by
 have hk := chk1_kind h
 unfold chk1 at h
 rw [if_neg (by omega)] at h
 split at h
 ·cases h
 ·rename_i hn; simpa using hn
theorem chk1_rx {m : Mt} (h : chk1 m = 0) (h2 : 2 < m.k) : check m.v.data.toList = 0 := by
 have hk := chk1_kind h
 have hn := chk1_name h
 unfold chk1 at h
 rwa [if_neg (by omega), if_neg (by simp [hn]), if_pos h2] at h
theorem chk1_sz {m : Mt} (h : chk1 m = 0) (h2 : m.k ≤ 2) : m.v.size ≤ 200 := by
 have hk := chk1_kind h
 have hn := chk1_name h
 unfold chk1 at h
 rw [if_neg (by omega), if_neg (by simp [hn]), if_neg (by omega)] at h
 split at h
 ·cases h
 ·omega
theorem check_len {p : List UInt8} (h : check p = 0) : p.length ≤ 200 := by
 unfold check at h
 split at h
 ·cases h
 ·omega
theorem chk1_len {m : Mt} (h : chk1 m = 0) : m.v.size ≤ 200 := by
 by_cases h2 : 2 < m.k
 ·have := check_len (chk1_rx h h2)
  have e : m.v.data.toList.length = m.v.size := Array.length_toList
  omega
 ·exact chk1_sz h (by omega)
theorem chk1_mk {m : Mt} (h1 : 1 ≤ m.k) (h2 : m.k ≤ 4) (hn : nameB m.n = true) (h3 : 2 < m.k → check m.v.data.toList = 0) (h4 : m.k ≤ 2 → m.v.size ≤ 200) : chk1 m = 0 := by
 unfold chk1
 rw [if_neg (by omega), if_neg (by simp [hn])]
 by_cases h : 2 < m.k
 ·rw [if_pos h]; exact h3 h
 ·rw [if_neg h, if_neg (by have := h4 (by omega); omega)]
/-! Matching. -/
noncomputable def fits (m : Mt) (v : ByteArray) : Bool := if m.k = 1 then decide (v = m.v) else if m.k = 2 then decide (v ≠ m.v) else if m.k = 3 then mB m.v v else !mB m.v v
theorem fits1 {m : Mt} (h : m.k = 1) (v : ByteArray) : fits m v = decide (v = m.v) := if_pos h
theorem fits2 {m : Mt} (h : m.k = 2) (v : ByteArray) : fits m v = decide (v ≠ m.v) := by unfold fits; rw [if_neg (by omega), if_pos h]
theorem fits3 {m : Mt} (h : m.k = 3) (v : ByteArray) : fits m v = mB m.v v := by unfold fits; rw [if_neg (by omega), if_neg (by omega), if_pos h]
theorem fits4 {m : Mt} (h : m.k = 4) (v : ByteArray) : fits m v = !mB m.v v := by unfold fits; rw [if_neg (by omega), if_neg (by omega), if_neg (by omega)]
noncomputable def satG (l : List Mt) (g : ByteArray → ByteArray) : Bool := l.all fun m => fits m (g m.n)
noncomputable def matA (l : List Mt) (ls : List Lb) : Bool := decide (chkA l = 0) && satG l (getL ls)
def neg (m : Mt) : Mt := if m.k = 1 then ⟨2, m.n, m.v⟩ else if m.k = 2 then ⟨1, m.n, m.v⟩ else if m.k = 3 then ⟨4, m.n, m.v⟩ else if m.k = 4 then ⟨3, m.n, m.v⟩ else ⟨0, ⟨#[]⟩, ⟨#[]⟩⟩
theorem kinds {k : Int} (h1 : 1 ≤ k) (h2 : k ≤ 4) : k = 1 ∨ k = 2 ∨ k = 3 ∨ k = 4 := by omega
theorem neg1 {m : Mt} (h : m.k = 1) : neg m = ⟨2, m.n, m.v⟩ := if_pos h
theorem neg2 {m : Mt} (h : m.k = 2) : neg m = ⟨1, m.n, m.v⟩ := by unfold neg; rw [if_neg (by omega), if_pos h]
theorem neg3 {m : Mt} (h : m.k = 3) : neg m = ⟨4, m.n, m.v⟩ := by unfold neg; rw [if_neg (by omega), if_neg (by omega), if_pos h]
theorem neg4 {m : Mt} (h : m.k = 4) : neg m = ⟨3, m.n, m.v⟩ := by unfold neg; rw [if_neg (by omega), if_neg (by omega), if_neg (by omega), if_pos h]
theorem neg_n {m : Mt} (h1 : 1 ≤ m.k) (h2 : m.k ≤ 4) : (neg m).n = m.n := by
 rcases kinds h1 h2 with h | h | h | h
 ·rw [neg1 h]
 ·rw [neg2 h]
 ·rw [neg3 h]
 ·rw [neg4 h]
theorem fits_neg {m : Mt} (h1 : 1 ≤ m.k) (h2 : m.k ≤ 4) (v : ByteArray) : fits (neg m) v = !fits m v := by
 rcases kinds h1 h2 with h | h | h | h
 ·rw [neg1 h, fits1 h, fits2 rfl]; simp
 ·rw [neg2 h, fits2 h, fits1 rfl]; simp
 ·rw [neg3 h, fits3 h, fits4 rfl]
 ·rw [neg4 h, fits4 h, fits3 rfl]; simp
end Go.Proofs.YtdeppcddknakjaaGreatDoor.Mx
namespace Go.Proofs.YtdeppcddknakjaaGreatDoor.Rx
mutual
/-- How many bytes stand in an expression. -/
def bN : Re → Nat
 | .byte _ => 1
 | .cls _ => 0
 | .cat l => bL l
 | .alt l => bL l
 | .star r => bN r
 | .plus r => bN r
def bL : List Re → Nat
 | [] => 0
 | r :: l => bN r + bL l
end
theorem bL_append : ∀ a b : List Re, bL (a ++ b) = bL a + bL b
 | [], b => by rw [List.nil_append, bL, Nat.zero_add]
 | r :: a, b => by rw [List.cons_append, bL, bL, bL_append a b, Nat.add_assoc]
theorem bL_one (r : Re) : bL [r] = bN r := by rw [bL, bL, Nat.add_zero]
theorem closed_was {x : Option (Re × List UInt8)} {n : Re} {r : List UInt8} (h : closed x = some (n, r)) : x = some (n, 41 :: r) := by
 match x with
 | none => cases h
 | some (m, []) => cases h
 | some (m, d :: q) =>
  rw [closed] at h
  split at h
  ·rename_i hd
   cases h
   rw [hd]
  ·cases h
theorem esc_bytes {l r : List UInt8} {n : Re} (h : escReAt l = some (n, r)) : bN n ≤ 1 := by
 cases l with
 | nil => cases h
 | cons d q =>
  rw [escReAt] at h
  unfold escRe at h
  split at h
  ·cases h; exact Nat.zero_le _
  ·split at h
   ·cases h; exact Nat.zero_le _
   ·cases he : esc d with
    | none => rw [he] at h; cases h
    | some x => rw [he] at h; cases h; exact Nat.le_refl _
theorem cls_bytes {l r : List UInt8} {n : Re} (h : cls l = some (n, r)) : bN n = 0 := by
 cases l with
 | nil => cases h
 | cons c q =>
  rw [cls] at h
  split at h
  ·cases hb : brk (q.length + 1) none_ true q with
   | none => rw [hb] at h; cases h
   | some x => rw [hb] at h; cases h; rfl
  ·cases hb : brk (q.length + 2) none_ true (c :: q) with
   | none => rw [hb] at h; cases h
   | some x => rw [hb] at h; cases h; rfl
theorem atom_bytes {p : List UInt8 → Option (Re × List UInt8)} (hp : ∀ l n r, p l = some (n, r) → bN n + r.length ≤ l.length) {l r : List UInt8} {n : Re} (h : atom p l = some (n, r)) : bN n + r.length ≤ l.length := by
 cases l with
 | nil => cases h
 | cons c l =>
  rw [atom] at h
  rw [List.length_cons]
  split at h
  ·cases h; rw [bN]; omega
  ·split at h
   ·cases h; rw [bN]; omega
   ·split at h
    ·have h1 := escReAt_len h; have h2 := esc_bytes h; omega
    ·split at h
     ·have h1 := cls_len h; have h2 := cls_bytes h; omega
     ·split at h
      ·have := hp _ _ _ (closed_was h)
       rw [List.length_cons] at this
       omega
      ·cases h
theorem rep_bytes (n : Re) (c : UInt8) : bN (repRe n c) = bN n := by
 unfold repRe
 split
 ·rw [bN]
 ·split
  ·rw [bN]
  ·rw [bN, bL, bL_one, bN, bL, Nat.zero_add]
theorem post_bytes {n n' : Re} {l r : List UInt8} (h : post n l = some (n', r)) : bN n' + r.length ≤ bN n + l.length := by
 match l with
 | [] => cases h; exact Nat.le_refl _
 | [c] =>
  rw [post] at h
  split at h
  ·cases h; rw [rep_bytes]; simp
  ·cases h; exact Nat.le_refl _
 | c :: d :: q =>
  rw [post] at h
  split at h
  ·split at h
   ·cases h
   ·cases h; rw [rep_bytes]; simp only [List.length_cons]; omega
  ·cases h; exact Nat.le_refl _
theorem alt_bytes (outs now : List Re) : bN (.alt (outs ++ [.cat now])) = bL outs + bL now := by rw [bN, bL_append, bL_one, bN]
theorem pe_bytes : ∀ (k : Nat) (outs now : List Re) (l : List UInt8) (n : Re) (r : List UInt8), pe k outs now l = some (n, r) → bN n + r.length ≤ bL outs + bL now + l.length
 | 0, _, _, _, _, _, h => by cases h
 | k + 1, outs, now, [], n, r, h => by cases h; rw [alt_bytes]; simp only [List.length_nil]; omega
 | k + 1, outs, now, c :: l, n, r, h => by
  rw [pe] at h
  split at h
  ·cases h; rw [alt_bytes]; omega
  ·split at h
   ·have := pe_bytes k _ _ l n r h
    rw [bL_append, bL_one, bN, bL] at this
    rw [List.length_cons]
    omega
   ·cases ha : atom (pe k [] []) (c :: l) with
    | none => rw [ha] at h; cases h
    | some q =>
     obtain ⟨m, r1⟩ := q
     rw [ha] at h
     simp only at h
     cases hq : post m r1 with
     | none => rw [hq] at h; cases h
     | some q =>
      obtain ⟨m', r2⟩ := q
      rw [hq] at h
      simp only at h
      have h1 := atom_bytes (fun l n r h => by have := pe_bytes k [] [] l n r h; simpa [bL] using this) ha
      have h2 := post_bytes hq
      have h3 := pe_bytes k _ _ r2 n r h
      rw [bL_append, bL_one] at h3
      omega
theorem parse_bytes {l : List UInt8} {r : Re} (h : parse l = some r) : bN r ≤ l.length := by
 unfold parse at h
 split at h
 ·rename_i r' hx
  cases h
  have := pe_bytes _ [] [] l _ _ hx
  simpa [bL] using this
 ·cases h
theorem lead_bytes_le : ∀ l : List Re, (leadB l).1.length ≤ bL l
 | [] => Nat.le_refl _
 | .byte c :: l => by have := lead_bytes_le l; rw [leadB, bL, bN, List.length_cons]; omega
 | .cls f :: l => Nat.zero_le _
 | .cat x :: l => Nat.zero_le _
 | .alt x :: l => Nat.zero_le _
 | .star r :: l => Nat.zero_le _
 | .plus r :: l => Nat.zero_le _
theorem pre_len (p : List UInt8) : (pre p).1.length ≤ p.length := by
 by_cases hc : check p = 0
 ·cases hp : parse p with
  | none => unfold pre; rw [if_pos hc, hp]; exact Nat.zero_le _
  | some r =>
   rw [pre_yes hc hp]
   rcases prefix_cases r with ⟨l, rfl, e⟩ | e
   ·have h1 := parse_bytes hp
    have h2 := lead_bytes_le l
    rw [bN, bL_one, bN] at h1
    rw [e]
    omega
   ·rw [e]; exact Nat.zero_le _
 ·rw [pre_no hc]; exact Nat.zero_le _
end Go.Proofs.YtdeppcddknakjaaGreatDoor.Rx
namespace Go.Proofs.YtdeppcddknakjaaGreatDoor.Mx
open Go.Proofs.YtdeppcddknakjaaGreatDoor.Rx (MatS Mat Re check parse emptyS emptyR pre prefix_ leadB pfxS)
open Go.Proofs.YtdeppcddknakjaaGreatDoor.Lab (nameB getL Lb cmpS ord_S Ord3)
theorem preS_size (p : ByteArray) : (preS p).1.size ≤ p.size := by
 have h := Rx.pre_len p.data.toList
 have e : p.data.toList.length = p.size := Array.length_toList
 have e2 : (preS p).1.size = (pre p.data.toList).1.length := by
  show (pre p.data.toList).1.toArray.size = _
  rw [List.size_toArray]
 omega
/-- After the first step. -/
def lit (m : Mt) : Mt := if m.k = 3 ∨ m.k = 4 then (if (preS m.v).2 = true then ⟨m.k - 2, m.n, (preS m.v).1⟩ else m) else m
theorem lit_low {m : Mt} (h : m.k ≤ 2) : lit m = m := by unfold lit; rw [if_neg (by omega)]
theorem lit_yes {m : Mt} (h : m.k = 3 ∨ m.k = 4) (h2 : (preS m.v).2 = true) : lit m = ⟨m.k - 2, m.n, (preS m.v).1⟩ := by unfold lit; rw [if_pos h, if_pos h2]
theorem lit_no {m : Mt} (h2 : (preS m.v).2 = false) : lit m = m := by
 unfold lit
 split
 ·rw [if_neg (by simp [h2])]
 ·rfl
theorem lit_cases (m : Mt) : (lit m = m ∧ (2 < (lit m).k → (lit m).k ≤ 4 → (preS (lit m).v).2 = false)) ∨ ((m.k = 3 ∨ m.k = 4) ∧ (preS m.v).2 = true ∧ lit m = ⟨m.k - 2, m.n, (preS m.v).1⟩) := by
 by_cases h : m.k = 3 ∨ m.k = 4
 ·by_cases h2 : (preS m.v).2 = true
  ·exact .inr ⟨h, h2, lit_yes h h2⟩
  ·have h3 : (preS m.v).2 = false := by simpa using h2
   rw [lit_no h3]
   exact .inl ⟨rfl, fun _ _ => h3⟩
 ·have e : lit m = m := by unfold lit; rw [if_neg h]
  rw [e]
  exact .inl ⟨rfl, fun h1 h2 => absurd (by omega) h⟩
theorem lit_n (m : Mt) : (lit m).n = m.n := by
 rcases lit_cases m with h | h
 ·rw [h.1]
 ·rw [h.2.2]
theorem lit_chk {m : Mt} (h : chk1 m = 0) : chk1 (lit m) = 0 := by
 rcases lit_cases m with e | ⟨e1, e2, e⟩
 ·rw [e.1]; exact h
 ·have hl := chk1_len h
  have hp := preS_size m.v
  have hn := chk1_name h
  rw [e]
  refine chk1_mk ?_ ?_ hn ?_ ?_
  ·show 1 ≤ m.k - 2; omega
  ·show m.k - 2 ≤ 4; omega
  ·show 2 < m.k - 2 → _; omega
  ·intro _; show (preS m.v).1.size ≤ 200; omega
end Go.Proofs.YtdeppcddknakjaaGreatDoor.Mx
namespace Go.Proofs.YtdeppcddknakjaaGreatDoor.Mx
open Go.Proofs.YtdeppcddknakjaaGreatDoor.Rx (MatS Mat Re check parse emptyS emptyR pre prefix_ leadB pfxS)
open Go.Proofs.YtdeppcddknakjaaGreatDoor.Lab (nameB getL Lb cmpS ord_S Ord3)
theorem pfx_iff {s u : ByteArray} : pfxS s u = true ↔ u.data.toList <+: s.data.toList := List.isPrefixOf_iff_prefix
/-- No string has both prefixes. -/
def apart (p q : ByteArray) : Bool := !pfxS (preS p).1 (preS q).1 && !pfxS (preS q).1 (preS p).1
theorem apart_comm (p q : ByteArray) : apart p q = apart q p := Bool.and_comm _ _
theorem apart_self (p : ByteArray) : apart p p = false := by
 unfold apart
 rw [pfx_iff.2 (List.prefix_refl _)]
 rfl
noncomputable def excl (p : ByteArray) (m : Mt) : Bool := if m.k = 2 then !mB p m.v else if m.k = 4 then apart p m.v else false
noncomputable def tells (x m : Mt) : Bool := if x.k = 1 then fits m x.v else if x.k = 3 then excl x.v m else false
def grp (l : List Mt) (n : ByteArray) : List Mt := l.filter fun x => decide (x.n = n)
theorem mem_grp {l : List Mt} {n : ByteArray} {x : Mt} : x ∈ grp l n ↔ x ∈ l ∧ x.n = n := by
 unfold grp
 rw [List.mem_filter, decide_eq_true_iff]
noncomputable def ens (l : List Mt) (m : Mt) : Bool := (decide (m.k = 4) && emp m.v) || (grp l m.n).any fun x => tells x m
theorem ens_iff {l : List Mt} {m : Mt} : ens l m = true ↔ (m.k = 4 ∧ emp m.v = true) ∨ ∃ x ∈ l, x.n = m.n ∧ tells x m = true := by
 unfold ens
 rw [Bool.or_eq_true, Bool.and_eq_true, decide_eq_true_iff, List.any_eq_true]
 constructor
 ·rintro (h | ⟨x, h1, h2⟩)
  ·exact .inl h
  ·exact .inr ⟨x, (mem_grp.1 h1).1, (mem_grp.1 h1).2, h2⟩
 ·rintro (h | ⟨x, h1, h2, h3⟩)
  ·exact .inl h
  ·exact .inr ⟨x, mem_grp.2 ⟨h1, h2⟩, h3⟩
noncomputable def contra (l : List Mt) (m : Mt) : Bool := ens l (neg m)
noncomputable def repl (l : List Mt) (m : Mt) : Bool := decide (m.k ≠ 1) && ens l m
noncomputable def impl (l : List Mt) (m : Mt) : Bool := (grp l m.n).contains m || ens l m || (decide (m.k = 2) && (grp l m.n).any fun x => !fits x m.v)
theorem tells1 {x m : Mt} (h : x.k = 1) : tells x m = fits m x.v := if_pos h
theorem tells3 {x m : Mt} (h : x.k = 3) : tells x m = excl x.v m := by unfold tells; rw [if_neg (by omega), if_pos h]
theorem tells_k {x m : Mt} (h : tells x m = true) : x.k = 1 ∨ x.k = 3 := by
 unfold tells at h
 split at h
 ·exact .inl ‹_›
 ·split at h
  ·exact .inr ‹_›
  ·cases h
theorem excl2 {p : ByteArray} {m : Mt} (h : m.k = 2) : excl p m = !mB p m.v := if_pos h
theorem excl4 {p : ByteArray} {m : Mt} (h : m.k = 4) : excl p m = apart p m.v := by unfold excl; rw [if_neg (by omega), if_pos h]
theorem excl_k {p : ByteArray} {m : Mt} (h : excl p m = true) : m.k = 2 ∨ m.k = 4 := by
 unfold excl at h
 split at h
 ·exact .inl ‹_›
 ·split at h
  ·exact .inr ‹_›
  ·cases h
/-! The order of matchers. -/
def cmpI (a b : Int) : Int := if a < b then -1 else if b < a then 1 else 0
theorem ord_I : Ord3 cmpI where
 zero a b := by unfold cmpI; split <;> (try split) <;> omega
 neg a b := by unfold cmpI; split <;> (try split) <;> (try split) <;> (try split) <;> omega
 lt a b c h1 h2 := by unfold cmpI at *; split at h1 <;> split at h2 <;> (try split at h1) <;> (try split at h2) <;> split <;> (try split) <;> omega
def orI (x y : Int) : Int := if x = 0 then y else x
def cmpM (a b : Mt) : Int := orI (cmpS a.n b.n) (orI (cmpI a.k b.k) (cmpS a.v b.v))
theorem or_zero {x y : Int} : orI x y = 0 ↔ x = 0 ∧ y = 0 := by unfold orI; split <;> omega
theorem or_neg (x y : Int) : orI (-x) (-y) = - orI x y := by unfold orI; split <;> split <;> omega
theorem or_lt {x y : Int} : orI x y < 0 ↔ x < 0 ∨ (x = 0 ∧ y < 0) := by unfold orI; split <;> omega
theorem ord_M : Ord3 cmpM where
 zero a b := by
  unfold cmpM
  rw [or_zero, or_zero, ord_S.zero, ord_I.zero, ord_S.zero]
  exact ⟨fun h => Mt.ext' h.2.1 h.1 h.2.2, fun h => by rw [h]; exact ⟨rfl, rfl, rfl⟩⟩
 neg a b := by
  unfold cmpM
  rw [ord_S.neg a.n b.n, ord_I.neg a.k b.k, ord_S.neg a.v b.v, or_neg, or_neg]
 lt a b c h1 h2 := by
  unfold cmpM at *
  rw [or_lt, or_lt] at *
  rcases h1 with h1 | ⟨e1, h1⟩ <;> rcases h2 with h2 | ⟨e2, h2⟩
  ·exact .inl (ord_S.lt _ _ _ h1 h2)
  ·rw [ord_S.zero] at e2; rw [← e2]; exact .inl h1
  ·rw [ord_S.zero] at e1; rw [e1]; exact .inl h2
  ·rw [ord_S.zero] at e1 e2
   rw [e1, e2]
   refine .inr ⟨ord_S.self _, ?_⟩
   rcases h1 with h1 | ⟨f1, h1⟩ <;> rcases h2 with h2 | ⟨f2, h2⟩
   ·exact .inl (ord_I.lt _ _ _ h1 h2)
   ·rw [ord_I.zero] at f2; rw [← f2]; exact .inl h1
   ·rw [ord_I.zero] at f1; rw [f1]; exact .inl h2
   ·rw [ord_I.zero] at f1 f2
    rw [f1, f2]
    exact .inr ⟨ord_I.self _, ord_S.lt _ _ _ h1 h2⟩
def ltM (a b : Mt) : Prop := cmpM a b < 0
theorem ltM_trans {a b c : Mt} (h1 : ltM a b) (h2 : ltM b c) : ltM a c := ord_M.lt a b c h1 h2
theorem ltM_irr (a : Mt) : ¬ ltM a a := by unfold ltM; rw [ord_M.self]; omega
theorem ltM_tot (a b : Mt) : ltM a b ∨ a = b ∨ ltM b a := by
 unfold ltM
 have h := ord_M.neg a b
 have z := ord_M.zero a b
 by_cases h0 : cmpM a b = 0
 ·exact .inr (.inl (z.1 h0))
 ·omega
/-- Two ascending lists with the same members are one. -/
theorem asc_eq : ∀ {a b : List Mt}, a.Pairwise ltM → b.Pairwise ltM → (∀ x, x ∈ a ↔ x ∈ b) → a = b
 | [], [], _, _, _ => rfl
 | [], y :: b, _, _, h => by have := (h y).2 (List.mem_cons_self ..); cases this
 | x :: a, [], _, _, h => by have := (h x).1 (List.mem_cons_self ..); cases this
 | x :: a, y :: b, ha, hb, h => by
  rw [List.pairwise_cons] at ha hb
  have e : x = y := by
   rcases List.mem_cons.1 ((h x).1 (List.mem_cons_self ..)) with e | hx
   ·exact e
   ·rcases List.mem_cons.1 ((h y).2 (List.mem_cons_self ..)) with e | hy
    ·exact e.symm
    ·exact (ltM_irr x (ltM_trans (ha.1 y hy) (hb.1 x hx))).elim
  subst e
  rw [asc_eq ha.2 hb.2 fun z => ?_]
  constructor
  ·intro hz
   rcases List.mem_cons.1 ((h z).1 (List.mem_cons_of_mem _ hz)) with e | hz'
   ·subst e; exact (ltM_irr z (ha.1 z hz)).elim
   ·exact hz'
  ·intro hz
   rcases List.mem_cons.1 ((h z).2 (List.mem_cons_of_mem _ hz)) with e | hz'
   ·subst e; exact (ltM_irr z (hb.1 z hz)).elim
   ·exact hz'
/-- Each of those that stand side by side once. -/
def cmpc : List Mt → List Mt
 | [] => []
 | [x] => [x]
 | x :: y :: r => if x = y then cmpc (y :: r) else x :: cmpc (y :: r)
theorem mem_cmpc {m : Mt} : ∀ l : List Mt, m ∈ cmpc l ↔ m ∈ l
 | [] => Iff.rfl
 | [x] => Iff.rfl
 | x :: y :: r => by
  rw [cmpc]
  split
  ·rename_i e
   subst e
   rw [mem_cmpc (x :: r)]
   simp
  ·rw [List.mem_cons, mem_cmpc (y :: r), ← List.mem_cons]
theorem cmpc_asc : ∀ {l : List Mt}, l.Pairwise (fun a b => ¬ ltM b a) → (cmpc l).Pairwise ltM
 | [], _ => List.Pairwise.nil
 | [x], _ => List.pairwise_singleton _ _
 | x :: y :: r, h => by
  rw [cmpc]
  have h' := List.pairwise_cons.1 h
  split
  ·exact cmpc_asc h'.2
  ·rename_i hne
   rw [List.pairwise_cons]
   refine ⟨fun z hz => ?_, cmpc_asc h'.2⟩
   have hxy : ltM x y := by
    rcases ltM_tot x y with k | k | k
    ·exact k
    ·exact (hne k).elim
    ·exact (h'.1 y (List.mem_cons_self ..) k).elim
   rw [mem_cmpc] at hz
   rcases List.mem_cons.1 hz with e | hz
   ·rw [e]; exact hxy
   ·have hyz := (List.pairwise_cons.1 h'.2).1 z hz
    rcases ltM_tot y z with k | k | k
    ·exact ltM_trans hxy k
    ·rw [← k]; exact hxy
    ·exact (hyz k).elim
theorem cmpc_len : ∀ l : List Mt, (cmpc l).length ≤ l.length
 | [] => Nat.le_refl _
 | [x] => Nat.le_refl _
 | x :: y :: r => by
  rw [cmpc]
  have := cmpc_len (y :: r)
  split
  ·exact Nat.le_trans this (Nat.le_succ _)
  ·simp only [List.length_cons] at this ⊢; omega
/-- Put in order. -/
def leB (a b : Mt) : Bool := !decide (cmpM b a < 0)
def srt (l : List Mt) : List Mt := l.mergeSort leB
theorem leB_trans (a b c : Mt) (h1 : leB a b = true) (h2 : leB b c = true) : leB a c = true := by
 unfold leB at *
 simp only [Bool.not_eq_true', decide_eq_false_iff_not] at *
 intro h
 rcases ltM_tot b c with k | k | k
 ·exact h1 (ltM_trans k h)
 ·rw [k] at h1; exact h1 h
 ·exact h2 k
theorem leB_total (a b : Mt) : (leB a b || leB b a) = true := by
 unfold leB
 have h := ord_M.neg a b
 simp
 omega
theorem srt_mem {l : List Mt} {m : Mt} : m ∈ srt l ↔ m ∈ l := List.mem_mergeSort
theorem srt_sorted (l : List Mt) : (srt l).Pairwise (fun a b => ¬ ltM b a) := by
 have h := List.pairwise_mergeSort leB_trans leB_total l
 refine h.imp fun {a b} hab => ?_
 unfold leB at hab
 unfold ltM
 simpa using hab
theorem srt_len (l : List Mt) : (srt l).length = l.length := List.length_mergeSort l
/-! Simplifying. -/
noncomputable def simA (l : List Mt) : Option (List Mt) := if (l.map lit).any (contra (l.map lit)) = true then none else some (cmpc (srt ((l.map lit).filter fun m => !repl (l.map lit) m)))
theorem simA_none {l : List Mt} : simA l = none ↔ ∃ m ∈ l.map lit, contra (l.map lit) m = true := by
 unfold simA
 split
 ·rename_i h; exact ⟨fun _ => List.any_eq_true.1 h, fun _ => rfl⟩
 ·rename_i h; exact ⟨fun e => (by cases e), fun e => absurd (List.any_eq_true.2 e) h⟩
theorem simA_some {l s : List Mt} (h : simA l = some s) : (∀ m ∈ l.map lit, contra (l.map lit) m = false) ∧ (∀ m, m ∈ s ↔ m ∈ l.map lit ∧ repl (l.map lit) m = false) ∧ s.Pairwise ltM ∧ s.length ≤ l.length := by
 unfold simA at h
 split at h
 ·cases h
 ·rename_i hn
  cases h
  refine ⟨by simpa using hn, fun m => ?_, cmpc_asc (srt_sorted _), ?_⟩
  ·rw [mem_cmpc, srt_mem, List.mem_filter]
   simp
  ·refine Nat.le_trans (cmpc_len _) ?_
   rw [srt_len]
   refine Nat.le_trans (List.length_filter_le _ _) ?_
   rw [List.length_map]
   exact Nat.le_refl _
theorem simA_intro {l s : List Mt} (h1 : ∀ m ∈ l.map lit, contra (l.map lit) m = false) (h2 : ∀ m, m ∈ s ↔ m ∈ l.map lit ∧ repl (l.map lit) m = false) (h3 : s.Pairwise ltM) : simA l = some s := by
 cases h : simA l with
 | none =>
  obtain ⟨m, hm, hc⟩ := simA_none.1 h
  rw [h1 m hm] at hc
  cases hc
 | some t =>
  obtain ⟨k1, k2, k3, _⟩ := simA_some h
  rw [asc_eq k3 h3 fun m => (k2 m).trans (h2 m).symm]
theorem repl_iff {l : List Mt} {m : Mt} : repl l m = true ↔ m.k ≠ 1 ∧ ens l m = true := by
 unfold repl
 rw [Bool.and_eq_true, decide_eq_true_iff]
def Val (l : List Mt) : Prop := ∀ m ∈ l, chk1 m = 0
theorem Val.lit {l : List Mt} (h : Val l) : Val (l.map lit) := fun m hm => by
 obtain ⟨x, hx, rfl⟩ := List.mem_map.1 hm
 exact lit_chk (h x hx)
theorem Val.kinds {l : List Mt} (h : Val l) : ∀ m ∈ l, 1 ≤ m.k ∧ m.k ≤ 4 := fun m hm => chk1_kind (h m hm)
theorem simA_val {l s : List Mt} (hv : Val l) (h : simA l = some s) : Val s := fun m hm => hv.lit m ((simA_some h).2.1 m |>.1 hm).1
/-! Implying. -/
theorem impl_iff {l : List Mt} {m : Mt} : impl l m = true ↔ m ∈ l ∨ ens l m = true ∨ (m.k = 2 ∧ ∃ x ∈ l, x.n = m.n ∧ fits x m.v = false) := by
 unfold impl
 rw [Bool.or_eq_true, Bool.or_eq_true, Bool.and_eq_true, decide_eq_true_iff, List.contains_iff_mem, List.any_eq_true, mem_grp]
 constructor
 ·rintro ((h | h) | ⟨h1, x, h2, h3⟩)
  ·exact .inl h.1
  ·exact .inr (.inl h)
  ·exact .inr (.inr ⟨h1, x, (mem_grp.1 h2).1, (mem_grp.1 h2).2, by simpa using h3⟩)
 ·rintro (h | h | ⟨h1, x, h2, h3, h4⟩)
  ·exact .inl (.inl ⟨h, rfl⟩)
  ·exact .inl (.inr h)
  ·exact .inr ⟨h1, x, mem_grp.2 ⟨h2, h3⟩, by simp [h4]⟩
noncomputable def impA (a b : List Mt) : Bool :=
 match simA a with
 | none => true
 | some x => match simA b with
  | none => false
  | some y => y.all (impl x)
end Go.Proofs.YtdeppcddknakjaaGreatDoor.Mx
namespace Go.Proofs.YtdeppcddknakjaaGreatDoor.Mx
open Go.Proofs.YtdeppcddknakjaaGreatDoor.Lab (quo quo1 quo_nil quo_append quo_one letterB take_snocL)
/-- The operator of a kind; a matcher as it is written; a list. -/
def opB (k : Int) : List UInt8 := if k = 1 then [61] else if k = 2 then [33, 61] else if k = 3 then [61, 126] else [33, 126]
def qtd (v : ByteArray) : List UInt8 := [34] ++ quo v.data.toList ++ [34]
def mat1 (m : Mt) : List UInt8 := m.n.data.toList ++ opB m.k ++ qtd m.v
def tailM (l : List Mt) : List UInt8 := l.flatMap fun x => 44 :: mat1 x
def bodyM : List Mt → List UInt8
 | [] => []
 | x :: r => mat1 x ++ tailM r
def txtM (l : List Mt) : List UInt8 := [123] ++ bodyM l ++ [125]
theorem tailM_append (a b : List Mt) : tailM (a ++ b) = tailM a ++ tailM b := by unfold tailM; rw [List.flatMap_append]
theorem tailM_one (x : Mt) : tailM [x] = 44 :: mat1 x := by simp [tailM]
theorem bodyM_snoc {l : List Mt} (x : Mt) (h : l ≠ []) : bodyM (l ++ [x]) = bodyM l ++ [44] ++ mat1 x := by
 cases l with
 | nil => exact absurd rfl h
 | cons y r =>
  rw [List.cons_append, bodyM, bodyM, tailM_append, tailM_one]
  simp
theorem bodyM_one (x : Mt) : bodyM ([] ++ [x]) = mat1 x := by simp [bodyM, tailM]
theorem bodyM_zero {l : List Mt} {k : Nat} (hk : k < l.length) (h : k = 0) : bodyM (l.take (k + 1)) = bodyM (l.take k) ++ mat1 l[k] := by
 rw [take_snocL l hk]
 subst h
 rw [List.take_zero, bodyM_one]
 rfl
theorem bodyM_pos {l : List Mt} {k : Nat} (hk : k < l.length) (h : 0 < k) : bodyM (l.take (k + 1)) = bodyM (l.take k) ++ [44] ++ mat1 l[k] := by
 rw [take_snocL l hk, bodyM_snoc]
 intro e
 have := congrArg List.length e
 rw [List.length_take, List.length_nil] at this
 omega
theorem bodyM_take_le (l : List Mt) (k : Nat) : (bodyM (l.take k)).length ≤ (bodyM l).length := by
 cases l with
 | nil => simp
 | cons y r =>
  cases k with
  | zero => simp [bodyM]
  | succ k =>
   have e : tailM r = tailM (r.take k) ++ tailM (r.drop k) := by rw [← tailM_append, List.take_append_drop]
   rw [List.take_succ_cons, bodyM, bodyM, e]
   simp only [List.length_append]
   omega
theorem txtM_len (l : List Mt) : (txtM l).length = (bodyM l).length + 2 := by unfold txtM; simp only [List.length_append, List.length_singleton]; omega
theorem opB_len (k : Int) : (opB k).length ≤ 2 := by
 unfold opB
 split
 ·simp
 ·split
  ·simp
  ·split <;> simp
theorem mat1_len (x : Mt) : (mat1 x).length ≤ x.n.size + 2 * x.v.size + 4 := by
 unfold mat1 qtd
 have h := Lab.quo_len x.v.data.toList
 have h1 := opB_len x.k
 simp only [List.length_append, List.length_singleton, List.length_cons, List.length_nil, Array.length_toList] at *
 have : x.n.data.size = x.n.size := rfl
 have : x.v.data.size = x.v.size := rfl
 omega
theorem tailM_bd : ∀ (l : List Mt) (N : Nat), (∀ x ∈ l, (mat1 x).length ≤ N) → (tailM l).length ≤ l.length * (N + 1)
 | [], N, _ => by simp [tailM]
 | x :: r, N, h => by
  have h1 := tailM_bd r N (fun y hy => h y (by simp [hy]))
  have h2 := h x (by simp)
  rw [show x :: r = [x] ++ r from rfl, tailM_append, tailM_one, List.length_append, List.length_cons, List.length_append, List.length_singleton, Nat.add_mul]
  omega
theorem txtM_bd (l : List Mt) (N : Nat) (h : ∀ x ∈ l, (mat1 x).length ≤ N) : (txtM l).length ≤ l.length * (N + 1) + 2 := by
 rw [txtM_len]
 cases l with
 | nil => simp [bodyM]
 | cons x r =>
  have h1 := tailM_bd r N (fun y hy => h y (by simp [hy]))
  have h2 := h x (by simp)
  rw [bodyM, List.length_append, List.length_cons, Nat.add_mul]
  omega
/-- A byte behind a backslash; a value and what is behind its quotation mark. -/
def une (c : UInt8) : UInt8 := if c.toNat = 110 then 10 else c
def rdv : List UInt8 → List UInt8 × List UInt8
 | [] => ([], [])
 | [c] => if c.toNat = 34 then ([], []) else ([c], [])
 | c :: d :: r => if c.toNat = 34 then ([], d :: r) else if c.toNat = 92 then (une d :: (rdv r).1, (rdv r).2) else (c :: (rdv (d :: r)).1, (rdv (d :: r)).2)
theorem rdv_end {c : UInt8} (r : List UInt8) (h : c.toNat = 34) : rdv (c :: r) = ([], r) := by
 cases r with
 | nil => rw [rdv, if_pos h]
 | cons d r => rw [rdv, if_pos h]
theorem rdv_plain {c : UInt8} (r : List UInt8) (h : ¬ c.toNat = 34) (h2 : ¬ (c.toNat = 92 ∧ r ≠ [])) : rdv (c :: r) = (c :: (rdv r).1, (rdv r).2) := by
 cases r with
 | nil =>
  have e : rdv [c] = if c.toNat = 34 then ([], []) else ([c], []) := by rw [rdv]
  rw [e, if_neg h]
  rfl
 | cons d r => rw [rdv, if_neg h, if_neg (fun e => h2 ⟨e, by simp⟩)]
theorem rdv_esc {c : UInt8} (d : UInt8) (r : List UInt8) (h : c.toNat = 92) : rdv (c :: d :: r) = (une d :: (rdv r).1, (rdv r).2) := by
 rw [rdv, if_neg (by omega), if_pos h]
theorem rdv_len : ∀ s : List UInt8, (rdv s).1.length + (rdv s).2.length ≤ s.length
 | [] => by simp [rdv]
 | [c] => by
  rw [rdv]
  split <;> simp
 | c :: d :: r => by
  have h1 := rdv_len r
  have h2 := rdv_len (d :: r)
  rw [rdv]
  split
  ·simp
  ·split
   ·simp only [List.length_cons]; omega
   ·simp only [List.length_cons] at *; omega
/-- The kind whose operator stands ahead of a quotation mark, and what is behind it. -/
def opN (r : List UInt8) : Option (Int × List UInt8) :=
 if [61, 34].isPrefixOf r then some (1, r.drop 2) else if [33, 61, 34].isPrefixOf r then some (2, r.drop 3) else if [61, 126, 34].isPrefixOf r then some (3, r.drop 3) else if [33, 126, 34].isPrefixOf r then some (4, r.drop 3) else none
def wordL (s : List UInt8) : List UInt8 := s.takeWhile fun c => letterB c.toNat
def restL (s : List UInt8) : List UInt8 := s.dropWhile fun c => letterB c.toNat
/-- A matcher, and what is behind it. -/
def rdm (s : List UInt8) : Option (Mt × List UInt8) :=
 if wordL s = [] then none else
 match opN (restL s) with
 | none => none
 | some (k, b) => some (⟨k, ⟨(wordL s).toArray⟩, ⟨(rdv b).1.toArray⟩⟩, (rdv b).2)
def rdF : Nat → List UInt8 → List Mt
 | 0, _ => []
 | _ + 1, [] => []
 | n + 1, _ :: s => match rdm s with
  | none => []
  | some (m, r) => m :: rdF n r
def rdA (s : List UInt8) : List Mt := rdF s.length s
theorem opN_len {r b : List UInt8} {k : Int} (h : opN r = some (k, b)) : b.length ≤ r.length := by
 unfold opN at h
 split at h
 ·injection h with h; injection h with _ h; rw [← h, List.length_drop]; omega
 ·split at h
  ·injection h with h; injection h with _ h; rw [← h, List.length_drop]; omega
  ·split at h
   ·injection h with h; injection h with _ h; rw [← h, List.length_drop]; omega
   ·split at h
    ·injection h with h; injection h with _ h; rw [← h, List.length_drop]; omega
    ·cases h
theorem opN_kind {r b : List UInt8} {k : Int} (h : opN r = some (k, b)) : 1 ≤ k ∧ k ≤ 4 := by
 unfold opN at h
 split at h
 ·injection h with h; injection h with h _; omega
 ·split at h
  ·injection h with h; injection h with h _; omega
  ·split at h
   ·injection h with h; injection h with h _; omega
   ·split at h
    ·injection h with h; injection h with h _; omega
    ·cases h
theorem rdm_len {s r : List UInt8} {m : Mt} (h : rdm s = some (m, r)) : r.length ≤ s.length := by
 unfold rdm at h
 split at h
 ·cases h
 ·split at h
  ·cases h
  ·rename_i k b hb
   injection h with h
   injection h with _ h
   have h1 := opN_len hb
   have h2 := rdv_len b
   have h3 : (restL s).length ≤ s.length := List.Sublist.length_le (List.dropWhile_sublist _)
   rw [← h]
   omega
theorem rdF_more : ∀ (n : Nat) (s : List UInt8), s.length ≤ n → rdF n s = rdF s.length s := by
 intro n
 induction n using Nat.strongRecOn with
 | ind n ih =>
  intro s hs
  cases s with
  | nil =>
   cases n with
   | zero => rfl
   | succ n => rfl
  | cons c s =>
   cases n with
   | zero => simp at hs
   | succ n =>
    rw [List.length_cons] at hs ⊢
    unfold rdF
    cases h : rdm s with
    | none => rfl
    | some p =>
     obtain ⟨m, r⟩ := p
     have h1 := rdm_len h
     show m :: rdF n r = m :: rdF s.length r
     rw [ih n (by omega) r (by omega), ih s.length (by omega) r h1]
theorem rdA_nil : rdA [] = [] := rfl
theorem rdA_none {c : UInt8} {s : List UInt8} (h : rdm s = none) : rdA (c :: s) = [] := by
 unfold rdA
 rw [List.length_cons, rdF, h]
theorem rdA_some {c : UInt8} {s r : List UInt8} {m : Mt} (h : rdm s = some (m, r)) : rdA (c :: s) = m :: rdA r := by
 unfold rdA
 rw [List.length_cons, rdF, h]
 show m :: rdF s.length r = _
 rw [rdF_more _ _ (rdm_len h)]
/-- What is read. -/
def GoodM (m : Mt) : Prop := (1 ≤ m.k ∧ m.k ≤ 4) ∧ m.n.data.toList ≠ [] ∧ ∀ c ∈ m.n.data.toList, letterB c.toNat = true
theorem rdm_good {s r : List UInt8} {m : Mt} (h : rdm s = some (m, r)) : GoodM m := by
 unfold rdm at h
 split at h
 ·cases h
 ·rename_i hw
  split at h
  ·cases h
  ·rename_i k b hb
   injection h with h
   injection h with h _
   rw [← h]
   exact ⟨opN_kind hb, hw, fun c hc => List.all_eq_true.1 (List.all_takeWhile (l := s)) c hc⟩
theorem rdF_good : ∀ (n : Nat) (s : List UInt8), ∀ m ∈ rdF n s, GoodM m
 | 0, _, m, h => by cases h
 | n + 1, [], m, h => by cases h
 | n + 1, c :: s, m, h => by
  unfold rdF at h
  split at h
  ·cases h
  ·rename_i x r hx
   rcases List.mem_cons.1 h with rfl | h
   ·exact rdm_good hx
   ·exact rdF_good n r m h
theorem rdA_good (s : List UInt8) : ∀ m ∈ rdA s, GoodM m := rdF_good _ _
end Go.Proofs.YtdeppcddknakjaaGreatDoor.Mx
