/- The contracts of the reference of layer 4 (interval), by the contracts of layer 3's reference. The contracts of the reference of layer 4 (interval): Mul and Div, by the contracts of layer 3's reference. What the specs of layer 4 come to in Lean's rationals. The operations of intervals as functions of four integers each, and what they come to in Lean's rationals. -/
import Derived.Test.YtbiegbnncnjnmaaMIe
import Derived.Test.YtbiegbnncnjnmaaMIh
import Derived.Test.YtbiegbnncnjnmaaMIa
set_option linter.unusedVariables false
set_option linter.unusedSimpArgs false
namespace Go.Proofs.Ytbiegbnncnjnmaa.Iv
open Go.RowKit
open Go.Proofs.Ytbiegbnncnjnmaa.Rat (inI)

theorem rck (n d : Int) (i : inI n) (j : inI d) : Hid (∀ w : World, Calls Try.prog 38 #[.agg #[.int .i64 n, .int .i64 d]] w fun e w' => e = .returned (.int .i64 (cv n d)) ∧ Below w.heap.size w w') := Lib.hid fun w => by
  unfold cv
  by_cases h : Rat.chk n d
  · rw [if_pos h]
    obtain ⟨D, rfl, h⟩ := Rat.chk_nat h
    exact Rat.check_yes n D h w
  · rw [if_neg h]
    exact Rat.check_no n d i j h w
theorem rcm (n1 d1 n2 d2 : Int) (i1 : inI n1) (j1 : inI d1) (i2 : inI n2) (j2 : inI d2) : Hid (∀ w : World, Calls Try.prog 39 #[.agg #[.int .i64 n1, .int .i64 d1], .agg #[.int .i64 n2, .int .i64 d2]] w fun e w' => e = .returned (.int .i64 (Rat.cmpOut n1 d1 n2 d2)) ∧ Below w.heap.size w w') :=
  Lib.hid fun w => Rat.refCompare_any n1 d1 n2 d2 i1 j1 i2 j2 w
theorem radd (n1 d1 n2 d2 : Int) (i1 : inI n1) (j1 : inI d1) (i2 : inI n2) (j2 : inI d2) : Hid (∀ w : World, Calls Try.prog 57 #[.agg #[.int .i64 n1, .int .i64 d1], .agg #[.int .i64 n2, .int .i64 d2]] w fun e w' => e = .returned (.tuple #[.agg #[.int .i64 (opT (· + ·) n1 d1 n2 d2).1, .int .i64 (opT (· + ·) n1 d1 n2 d2).2.1], .int .i64 (opT (· + ·) n1 d1 n2 d2).2.2]) ∧ Below w.heap.size w w') := Lib.hid fun w => by
  rw [← opT_out]
  exact Rat.refAdd_any n1 d1 n2 d2 i1 j1 i2 j2 w
theorem rsub (n1 d1 n2 d2 : Int) (i1 : inI n1) (j1 : inI d1) (i2 : inI n2) (j2 : inI d2) : Hid (∀ w : World, Calls Try.prog 35 #[.agg #[.int .i64 n1, .int .i64 d1], .agg #[.int .i64 n2, .int .i64 d2]] w fun e w' => e = .returned (.tuple #[.agg #[.int .i64 (opT (· - ·) n1 d1 n2 d2).1, .int .i64 (opT (· - ·) n1 d1 n2 d2).2.1], .int .i64 (opT (· - ·) n1 d1 n2 d2).2.2]) ∧ Below w.heap.size w w') := Lib.hid fun w => by
  rw [← opT_out]
  exact Rat.refSub_any n1 d1 n2 d2 i1 j1 i2 j2 w
theorem rmul (n1 d1 n2 d2 : Int) (i1 : inI n1) (j1 : inI d1) (i2 : inI n2) (j2 : inI d2) : Hid (∀ w : World, Calls Try.prog 58 #[.agg #[.int .i64 n1, .int .i64 d1], .agg #[.int .i64 n2, .int .i64 d2]] w fun e w' => e = .returned (.tuple #[.agg #[.int .i64 (opT (· * ·) n1 d1 n2 d2).1, .int .i64 (opT (· * ·) n1 d1 n2 d2).2.1], .int .i64 (opT (· * ·) n1 d1 n2 d2).2.2]) ∧ Below w.heap.size w w') := Lib.hid fun w => by
  rw [← opT_out]
  exact Rat.refMul_any n1 d1 n2 d2 i1 j1 i2 j2 w
theorem rdiv (n1 d1 n2 d2 : Int) (i1 : inI n1) (j1 : inI d1) (i2 : inI n2) (j2 : inI d2) (h : ¬ n2 = 0) : Hid (∀ w : World, Calls Try.prog 59 #[.agg #[.int .i64 n1, .int .i64 d1], .agg #[.int .i64 n2, .int .i64 d2]] w fun e w' => e = .returned (.tuple #[.agg #[.int .i64 (opT (· / ·) n1 d1 n2 d2).1, .int .i64 (opT (· / ·) n1 d1 n2 d2).2.1], .int .i64 (opT (· / ·) n1 d1 n2 d2).2.2]) ∧ Below w.heap.size w w') := Lib.hid fun w => by
  rw [← opT_out]
  have q := Rat.refDiv_any n1 d1 n2 d2 i1 j1 i2 j2 w
  unfold Rat.divOut at q
  rw [if_neg (fun x => h x.2.2)] at q
  exact q
theorem icheck_any (a b c d : Int) (ja : inI a) (jb : inI b) (jc : inI c) (jd : inI d) : Hid (∀ w : World, Calls Try.prog 14 #[.agg #[.int .i64 a, .int .i64 b, .int .i64 c, .int .i64 d]] w fun e w' => e = .returned (.int .i64 (chkI a b c d)) ∧ Below w.heap.size w w') :=
  Lib.hid fun w => icheck_raw a b c d _ _ _ (rck a b ja jb) (rck c d jc jd) (rcm a b c d ja jb jc jd) w
def vI (a b c d p q r s : Int) : Bool := decide (chkI a b c d = 0 ∧ chkI p q r s = 0)
theorem ivalid_any (a b c d p q r s : Int) (ja : inI a) (jb : inI b) (jc : inI c) (jd : inI d) (jp : inI p) (jq : inI q) (jr : inI r) (js : inI s) : Hid (∀ w : World, Calls Try.prog 41 #[.agg #[.int .i64 a, .int .i64 b, .int .i64 c, .int .i64 d], .agg #[.int .i64 p, .int .i64 q, .int .i64 r, .int .i64 s]] w fun e w' => e = .returned (.bool (vI a b c d p q r s)) ∧ Below w.heap.size w w') :=
  Lib.hid fun w => ivalid_raw a b c d p q r s _ _ (icheck_any a b c d ja jb jc jd) (icheck_any p q r s jp jq jr js) w
theorem icontains_any (a b c d p q r s : Int) (ja : inI a) (jb : inI b) (jc : inI c) (jd : inI d) (jp : inI p) (jq : inI q) (jr : inI r) (js : inI s) : Hid (∀ w : World, Calls Try.prog 18 #[.agg #[.int .i64 a, .int .i64 b, .int .i64 c, .int .i64 d], .agg #[.int .i64 p, .int .i64 q, .int .i64 r, .int .i64 s]] w fun e w' => e = .returned (.bool (vI a b c d p q r s && decide (Rat.cmpOut a b p q ≤ 0) && decide (Rat.cmpOut r s c d ≤ 0))) ∧ Below w.heap.size w w') :=
  Lib.hid fun w => icontains_raw a b c d p q r s _ _ _ (ivalid_any a b c d p q r s ja jb jc jd jp jq jr js) (rcm a b p q ja jb jp jq) (rcm r s c d jr js jc jd) w
theorem iwidth_any (a b c d : Int) (ja : inI a) (jb : inI b) (jc : inI c) (jd : inI d) : Hid (∀ w : World, Calls Try.prog 12 #[.agg #[.int .i64 a, .int .i64 b, .int .i64 c, .int .i64 d]] w fun e w' => e = .returned (if chkI a b c d = 0 then .tuple #[.agg #[.int .i64 (opT (· - ·) c d a b).1, .int .i64 (opT (· - ·) c d a b).2.1], .int .i64 (opT (· - ·) c d a b).2.2] else .tuple #[.agg #[.int .i64 0, .int .i64 0], .int .i64 1]) ∧ Below w.heap.size w w') :=
  Lib.hid fun w => iwidth_raw a b c d _ _ _ _ (icheck_any a b c d ja jb jc jd) (rsub c d a b jc jd ja jb) w
/-- The interval that contains a fraction, too. -/
def wid (x : Int × Int × Int × Int) (p q : Int) : Int × Int × Int × Int :=
  (if Rat.cmpOut p q x.1 x.2.1 < 0 then p else x.1, if Rat.cmpOut p q x.1 x.2.1 < 0 then q else x.2.1, if 0 < Rat.cmpOut p q x.2.2.1 x.2.2.2 then p else x.2.2.1, if 0 < Rat.cmpOut p q x.2.2.1 x.2.2.2 then q else x.2.2.2)
theorem wid_in (x : Int × Int × Int × Int) (p q : Int) (h : inI x.1 ∧ inI x.2.1 ∧ inI x.2.2.1 ∧ inI x.2.2.2) (jp : inI p) (jq : inI q) : inI (wid x p q).1 ∧ inI (wid x p q).2.1 ∧ inI (wid x p q).2.2.1 ∧ inI (wid x p q).2.2.2 := by
  obtain ⟨h1, h2, h3, h4⟩ := h
  unfold wid
  refine ⟨?_, ?_, ?_, ?_⟩ <;> simp only <;> split <;> assumption
theorem iwidened_any (x : Int × Int × Int × Int) (p q : Int) (h : inI x.1 ∧ inI x.2.1 ∧ inI x.2.2.1 ∧ inI x.2.2.2) (jp : inI p) (jq : inI q) :
    Hid (∀ w : World, Calls Try.prog 53 #[.agg #[.int .i64 x.1, .int .i64 x.2.1, .int .i64 x.2.2.1, .int .i64 x.2.2.2], .agg #[.int .i64 p, .int .i64 q]] w fun e w' => e = .returned (.agg #[.int .i64 (wid x p q).1, .int .i64 (wid x p q).2.1, .int .i64 (wid x p q).2.2.1, .int .i64 (wid x p q).2.2.2]) ∧ Below w.heap.size w w') := Lib.hid fun w => by
  refine iwidened_raw x.1 x.2.1 x.2.2.1 x.2.2.2 p q (Rat.cmpOut p q x.1 x.2.1) (Rat.cmpOut p q x.2.2.1 x.2.2.2) _ _ _ _ ?_ ?_ (rcm p q x.1 x.2.1 jp jq h.1 h.2.1) (rcm p q x.2.2.1 x.2.2.2 jp jq h.2.2.1 h.2.2.2) w
  · by_cases h1 : Rat.cmpOut p q x.1 x.2.1 < 0
    · exact .inl ⟨h1, if_pos h1, if_pos h1⟩
    · exact .inr ⟨h1, if_neg h1, if_neg h1⟩
  · by_cases h1 : 0 < Rat.cmpOut p q x.2.2.1 x.2.2.2
    · exact .inl ⟨h1, if_pos h1, if_pos h1⟩
    · exact .inr ⟨h1, if_neg h1, if_neg h1⟩
/-- The lesser, the greater one of two fractions. -/
def les (a b p q : Int) : Int × Int := (if Rat.cmpOut a b p q ≤ 0 then a else p, if Rat.cmpOut a b p q ≤ 0 then b else q)
def gre (a b p q : Int) : Int × Int := (if 0 ≤ Rat.cmpOut a b p q then a else p, if 0 ≤ Rat.cmpOut a b p q then b else q)
theorem imin_any (a b c d p q r s : Int) (ja : inI a) (jb : inI b) (jc : inI c) (jd : inI d) (jp : inI p) (jq : inI q) (jr : inI r) (js : inI s) : Hid (∀ w : World, Calls Try.prog 25 #[.agg #[.int .i64 a, .int .i64 b, .int .i64 c, .int .i64 d], .agg #[.int .i64 p, .int .i64 q, .int .i64 r, .int .i64 s]] w fun e w' => e = .returned (if vI a b c d p q r s = true then .agg #[.int .i64 (les a b p q).1, .int .i64 (les a b p q).2, .int .i64 (les c d r s).1, .int .i64 (les c d r s).2] else .agg #[.int .i64 0, .int .i64 0, .int .i64 0, .int .i64 0]) ∧ Below w.heap.size w w') :=
  Lib.hid fun w => imin_raw a b c d p q r s _ _ _ _ _ (ivalid_any a b c d p q r s ja jb jc jd jp jq jr js) (Lib.hid fun w => ilesser_raw a b p q _ (rcm a b p q ja jb jp jq) w) (Lib.hid fun w => ilesser_raw c d r s _ (rcm c d r s jc jd jr js) w) w
theorem imax_any (a b c d p q r s : Int) (ja : inI a) (jb : inI b) (jc : inI c) (jd : inI d) (jp : inI p) (jq : inI q) (jr : inI r) (js : inI s) : Hid (∀ w : World, Calls Try.prog 27 #[.agg #[.int .i64 a, .int .i64 b, .int .i64 c, .int .i64 d], .agg #[.int .i64 p, .int .i64 q, .int .i64 r, .int .i64 s]] w fun e w' => e = .returned (if vI a b c d p q r s = true then .agg #[.int .i64 (gre a b p q).1, .int .i64 (gre a b p q).2, .int .i64 (gre c d r s).1, .int .i64 (gre c d r s).2] else .agg #[.int .i64 0, .int .i64 0, .int .i64 0, .int .i64 0]) ∧ Below w.heap.size w w') :=
  Lib.hid fun w => imax_raw a b c d p q r s _ _ _ _ _ (ivalid_any a b c d p q r s ja jb jc jd jp jq jr js) (Lib.hid fun w => igreater_raw a b p q _ (rcm a b p q ja jb jp jq) w) (Lib.hid fun w => igreater_raw c d r s _ (rcm c d r s jc jd jr js) w) w
theorem ihull_any (a b c d p q r s : Int) (ja : inI a) (jb : inI b) (jc : inI c) (jd : inI d) (jp : inI p) (jq : inI q) (jr : inI r) (js : inI s) : Hid (∀ w : World, Calls Try.prog 23 #[.agg #[.int .i64 a, .int .i64 b, .int .i64 c, .int .i64 d], .agg #[.int .i64 p, .int .i64 q, .int .i64 r, .int .i64 s]] w fun e w' => e = .returned (if vI a b c d p q r s = true then .agg #[.int .i64 (wid (wid (a, b, c, d) p q) r s).1, .int .i64 (wid (wid (a, b, c, d) p q) r s).2.1, .int .i64 (wid (wid (a, b, c, d) p q) r s).2.2.1, .int .i64 (wid (wid (a, b, c, d) p q) r s).2.2.2] else .agg #[.int .i64 0, .int .i64 0, .int .i64 0, .int .i64 0]) ∧ Below w.heap.size w w') :=
  Lib.hid fun w => ihull_raw a b c d p q r s _ _ _ _ _ _ _ _ _ (ivalid_any a b c d p q r s ja jb jc jd jp jq jr js) (iwidened_any (a, b, c, d) p q ⟨ja, jb, jc, jd⟩ jp jq) (iwidened_any (wid (a, b, c, d) p q) r s (wid_in _ p q ⟨ja, jb, jc, jd⟩ jp jq) jr js) w
theorem iadd_any (a b c d p q r s : Int) (ja : inI a) (jb : inI b) (jc : inI c) (jd : inI d) (jp : inI p) (jq : inI q) (jr : inI r) (js : inI s) : Hid (∀ w : World, Calls Try.prog 47 #[.agg #[.int .i64 a, .int .i64 b, .int .i64 c, .int .i64 d], .agg #[.int .i64 p, .int .i64 q, .int .i64 r, .int .i64 s]] w fun e w' => e = .returned (if vI a b c d p q r s = true then (if (opT (· + ·) a b p q).2.2 = 0 then (if (opT (· + ·) c d r s).2.2 = 0 then .tuple #[.agg #[.int .i64 (opT (· + ·) a b p q).1, .int .i64 (opT (· + ·) a b p q).2.1, .int .i64 (opT (· + ·) c d r s).1, .int .i64 (opT (· + ·) c d r s).2.1], .int .i64 0] else .tuple #[.agg #[.int .i64 0, .int .i64 0, .int .i64 0, .int .i64 0], .int .i64 (opT (· + ·) c d r s).2.2]) else .tuple #[.agg #[.int .i64 0, .int .i64 0, .int .i64 0, .int .i64 0], .int .i64 (opT (· + ·) a b p q).2.2]) else .tuple #[.agg #[.int .i64 0, .int .i64 0, .int .i64 0, .int .i64 0], .int .i64 1]) ∧ Below w.heap.size w w') :=
  Lib.hid fun w => iadd_raw a b c d p q r s _ _ _ _ _ _ _ (ivalid_any a b c d p q r s ja jb jc jd jp jq jr js) (radd a b p q ja jb jp jq) (radd c d r s jc jd jr js) w
theorem isub_any (a b c d p q r s : Int) (ja : inI a) (jb : inI b) (jc : inI c) (jd : inI d) (jp : inI p) (jq : inI q) (jr : inI r) (js : inI s) : Hid (∀ w : World, Calls Try.prog 48 #[.agg #[.int .i64 a, .int .i64 b, .int .i64 c, .int .i64 d], .agg #[.int .i64 p, .int .i64 q, .int .i64 r, .int .i64 s]] w fun e w' => e = .returned (if vI a b c d p q r s = true then (if (opT (· - ·) a b r s).2.2 = 0 then (if (opT (· - ·) c d p q).2.2 = 0 then .tuple #[.agg #[.int .i64 (opT (· - ·) a b r s).1, .int .i64 (opT (· - ·) a b r s).2.1, .int .i64 (opT (· - ·) c d p q).1, .int .i64 (opT (· - ·) c d p q).2.1], .int .i64 0] else .tuple #[.agg #[.int .i64 0, .int .i64 0, .int .i64 0, .int .i64 0], .int .i64 (opT (· - ·) c d p q).2.2]) else .tuple #[.agg #[.int .i64 0, .int .i64 0, .int .i64 0, .int .i64 0], .int .i64 (opT (· - ·) a b r s).2.2]) else .tuple #[.agg #[.int .i64 0, .int .i64 0, .int .i64 0, .int .i64 0], .int .i64 1]) ∧ Below w.heap.size w w') :=
  Lib.hid fun w => isub_raw a b c d p q r s _ _ _ _ _ _ _ (ivalid_any a b c d p q r s ja jb jc jd jp jq jr js) (rsub a b r s ja jb jr js) (rsub c d p q jc jd jp jq) w
theorem icompare_any (op a b c d p q r s : Int) (ja : inI a) (jb : inI b) (jc : inI c) (jd : inI d) (jp : inI p) (jq : inI q) (jr : inI r) (js : inI s) : Hid (∀ w : World, Calls Try.prog 29 #[.int .i64 op, .agg #[.int .i64 a, .int .i64 b, .int .i64 c, .int .i64 d], .agg #[.int .i64 p, .int .i64 q, .int .i64 r, .int .i64 s]] w fun e w' => e = .returned (.int .i64 (if vI a b c d p q r s = true then icmp op (Rat.cmpOut c d p q) (Rat.cmpOut r s a b) (Rat.cmpOut a b r s) else -1)) ∧ Below w.heap.size w w') := Lib.hid fun w => by
  have V := ivalid_any a b c d p q r s ja jb jc jd jp jq jr js
  have M1 := rcm c d p q jc jd jp jq
  have M2 := rcm r s a b jr js ja jb
  have M3 := rcm a b r s ja jb jr js
  by_cases hv : vI a b c d p q r s = true
  · rw [if_pos hv]
    rw [hv] at V
    by_cases h5 : op = 5
    · subst h5; exact icompare5 a b c d p q r s _ _ _ V M1 M2 M3 w
    by_cases h6 : op = 6
    · subst h6; exact icompare6 a b c d p q r s _ _ _ V M1 M2 M3 w
    by_cases h7 : op = 7
    · subst h7; exact icompare7 a b c d p q r s _ _ _ V M1 M2 M3 w
    by_cases h8 : op = 8
    · subst h8; exact icompare8 a b c d p q r s _ _ _ V M1 M2 M3 w
    by_cases h9 : op = 9
    · subst h9; exact icompare9 a b c d p q r s _ _ _ V M1 M2 M3 w
    by_cases h10 : op = 10
    · subst h10; exact icompare10 a b c d p q r s _ _ _ V M1 M2 M3 w
    exact icompareOther op h5 h6 h7 h8 h9 h10 a b c d p q r s _ _ _ V M1 M2 M3 w
  · rw [if_neg hv]
    rw [Bool.not_eq_true] at hv
    rw [hv] at V
    exact icompareNo op a b c d p q r s V w
end Go.Proofs.Ytbiegbnncnjnmaa.Iv
namespace Go.Proofs.Ytbiegbnncnjnmaa.Iv
open Go.RowKit
open Go.Proofs.Ytbiegbnncnjnmaa.Rat (inI)

/-- The least interval of the four results of the ends, or the first error. -/
def crn (t : Int → Int → Int → Int → Int × Int × Int) (a b c d p q r s : Int) : (Int × Int × Int × Int) × Int :=
  if (t a b p q).2.2 = 0 then if (t a b r s).2.2 = 0 then if (t c d p q).2.2 = 0 then if (t c d r s).2.2 = 0 then ((wid (wid (wid (wid ((t a b p q).1, (t a b p q).2.1, (t a b p q).1, (t a b p q).2.1) (t a b p q).1 (t a b p q).2.1) (t a b r s).1 (t a b r s).2.1) (t c d p q).1 (t c d p q).2.1) (t c d r s).1 (t c d r s).2.1), 0) else ((0, 0, 0, 0), (t c d r s).2.2) else ((0, 0, 0, 0), (t c d p q).2.2) else ((0, 0, 0, 0), (t a b r s).2.2) else ((0, 0, 0, 0), (t a b p q).2.2)
/-- A quotient, by 0 too. -/
def opD (n1 d1 n2 d2 : Int) : Int × Int × Int := if Rat.chk n1 d1 ∧ Rat.chk n2 d2 ∧ n2 = 0 then (0, 0, 26) else opT (· / ·) n1 d1 n2 d2
theorem opD_in (n1 d1 n2 d2 : Int) : inI (opD n1 d1 n2 d2).1 ∧ inI (opD n1 d1 n2 d2).2.1 := by
  unfold opD
  split
  · exact ⟨⟨by decide, by decide⟩, ⟨by decide, by decide⟩⟩
  · exact opT_in _ _ _ _ _
theorem rdivT (n1 d1 n2 d2 : Int) (i1 : inI n1) (j1 : inI d1) (i2 : inI n2) (j2 : inI d2) : Hid (∀ w : World, Calls Try.prog 59 #[.agg #[.int .i64 n1, .int .i64 d1], .agg #[.int .i64 n2, .int .i64 d2]] w fun e w' => e = .returned (.tuple #[.agg #[.int .i64 (opD n1 d1 n2 d2).1, .int .i64 (opD n1 d1 n2 d2).2.1], .int .i64 (opD n1 d1 n2 d2).2.2]) ∧ Below w.heap.size w w') := Lib.hid fun w => by
  have q := Rat.refDiv_any n1 d1 n2 d2 i1 j1 i2 j2 w
  unfold Rat.divOut at q
  unfold opD
  by_cases h : Rat.chk n1 d1 ∧ Rat.chk n2 d2 ∧ n2 = 0
  · rw [if_pos h] at q ⊢
    exact q
  · rw [if_neg h] at q ⊢
    rw [← opT_out]
    exact q
theorem imul_corners (t : Int → Int → Int → Int → Int × Int × Int) (ht : ∀ n1 d1 n2 d2, inI (t n1 d1 n2 d2).1 ∧ inI (t n1 d1 n2 d2).2.1) (a b c d p q r s : Int) (ja : inI a) (jb : inI b) (jc : inI c) (jd : inI d) (jp : inI p) (jq : inI q) (jr : inI r) (js : inI s)
    (C : ∀ n1 d1 n2 d2, inI n1 → inI d1 → inI n2 → inI d2 → Hid (∀ w : World, Calls Try.prog 58 #[.agg #[.int .i64 n1, .int .i64 d1], .agg #[.int .i64 n2, .int .i64 d2]] w fun e w' => e = .returned (.tuple #[.agg #[.int .i64 (t n1 d1 n2 d2).1, .int .i64 (t n1 d1 n2 d2).2.1], .int .i64 (t n1 d1 n2 d2).2.2]) ∧ Below w.heap.size w w'))
    (w : World) : Calls Try.prog 73 #[.agg #[.int .i64 a, .int .i64 b, .int .i64 c, .int .i64 d], .agg #[.int .i64 p, .int .i64 q, .int .i64 r, .int .i64 s], .bool false] w fun e w' => e = .returned (.tuple #[.agg #[.int .i64 (crn t a b c d p q r s).1.1, .int .i64 (crn t a b c d p q r s).1.2.1, .int .i64 (crn t a b c d p q r s).1.2.2.1, .int .i64 (crn t a b c d p q r s).1.2.2.2], .int .i64 (crn t a b c d p q r s).2]) ∧ Below w.heap.size w w' := by
  have i0 := ht a b p q
  have i1 := ht a b r s
  have i2 := ht c d p q
  have i3 := ht c d r s
  have w1 := wid_in ((t a b p q).1, (t a b p q).2.1, (t a b p q).1, (t a b p q).2.1) _ _ ⟨i0.1, i0.2, i0.1, i0.2⟩ i0.1 i0.2
  have w2 := wid_in _ _ _ w1 i1.1 i1.2
  have w3 := wid_in _ _ _ w2 i2.1 i2.2
  refine imul4_raw a b c d p q r s _ _ _ _ _ _ _ _ _ _ _ _ _ _ _ _ _ _ _ _ _ _ _ _ _ _ _ _ (.tuple #[.agg #[.int .i64 (crn t a b c d p q r s).1.1, .int .i64 (crn t a b c d p q r s).1.2.1, .int .i64 (crn t a b c d p q r s).1.2.2.1, .int .i64 (crn t a b c d p q r s).1.2.2.2], .int .i64 (crn t a b c d p q r s).2]) (Lib.hid fun h => ?_) (Lib.hid fun h0 h => ?_) (Lib.hid fun h0 h1 h => ?_) (Lib.hid fun h0 h1 h2 h => ?_) (Lib.hid fun h0 h1 h2 h3 => ?_) (C a b p q ja jb jp jq) (C a b r s ja jb jr js) (C c d p q jc jd jp jq) (C c d r s jc jd jr js)
    (iwidened_any ((t a b p q).1, (t a b p q).2.1, (t a b p q).1, (t a b p q).2.1) _ _ ⟨i0.1, i0.2, i0.1, i0.2⟩ i0.1 i0.2) (iwidened_any (wid ((t a b p q).1, (t a b p q).2.1, (t a b p q).1, (t a b p q).2.1) (t a b p q).1 (t a b p q).2.1) _ _ w1 i1.1 i1.2) (iwidened_any (wid (wid ((t a b p q).1, (t a b p q).2.1, (t a b p q).1, (t a b p q).2.1) (t a b p q).1 (t a b p q).2.1) (t a b r s).1 (t a b r s).2.1) _ _ w2 i2.1 i2.2) (iwidened_any (wid (wid (wid ((t a b p q).1, (t a b p q).2.1, (t a b p q).1, (t a b p q).2.1) (t a b p q).1 (t a b p q).2.1) (t a b r s).1 (t a b r s).2.1) (t c d p q).1 (t c d p q).2.1) _ _ w3 i3.1 i3.2) w
  · unfold crn; rw [if_neg h]
  · unfold crn; rw [if_pos h0, if_neg h]
  · unfold crn; rw [if_pos h0, if_pos h1, if_neg h]
  · unfold crn; rw [if_pos h0, if_pos h1, if_pos h2, if_neg h]
  · unfold crn; rw [if_pos h0, if_pos h1, if_pos h2, if_pos h3]
theorem idiv_corners (t : Int → Int → Int → Int → Int × Int × Int) (ht : ∀ n1 d1 n2 d2, inI (t n1 d1 n2 d2).1 ∧ inI (t n1 d1 n2 d2).2.1) (a b c d p q r s : Int) (ja : inI a) (jb : inI b) (jc : inI c) (jd : inI d) (jp : inI p) (jq : inI q) (jr : inI r) (js : inI s)
    (C : ∀ n1 d1 n2 d2, inI n1 → inI d1 → inI n2 → inI d2 → Hid (∀ w : World, Calls Try.prog 59 #[.agg #[.int .i64 n1, .int .i64 d1], .agg #[.int .i64 n2, .int .i64 d2]] w fun e w' => e = .returned (.tuple #[.agg #[.int .i64 (t n1 d1 n2 d2).1, .int .i64 (t n1 d1 n2 d2).2.1], .int .i64 (t n1 d1 n2 d2).2.2]) ∧ Below w.heap.size w w'))
    (w : World) : Calls Try.prog 73 #[.agg #[.int .i64 a, .int .i64 b, .int .i64 c, .int .i64 d], .agg #[.int .i64 p, .int .i64 q, .int .i64 r, .int .i64 s], .bool true] w fun e w' => e = .returned (.tuple #[.agg #[.int .i64 (crn t a b c d p q r s).1.1, .int .i64 (crn t a b c d p q r s).1.2.1, .int .i64 (crn t a b c d p q r s).1.2.2.1, .int .i64 (crn t a b c d p q r s).1.2.2.2], .int .i64 (crn t a b c d p q r s).2]) ∧ Below w.heap.size w w' := by
  have i0 := ht a b p q
  have i1 := ht a b r s
  have i2 := ht c d p q
  have i3 := ht c d r s
  have w1 := wid_in ((t a b p q).1, (t a b p q).2.1, (t a b p q).1, (t a b p q).2.1) _ _ ⟨i0.1, i0.2, i0.1, i0.2⟩ i0.1 i0.2
  have w2 := wid_in _ _ _ w1 i1.1 i1.2
  have w3 := wid_in _ _ _ w2 i2.1 i2.2
  refine idiv4_raw a b c d p q r s _ _ _ _ _ _ _ _ _ _ _ _ _ _ _ _ _ _ _ _ _ _ _ _ _ _ _ _ _ _ _ _ _ _ _ _ _ _ _ _ (.tuple #[.agg #[.int .i64 (crn t a b c d p q r s).1.1, .int .i64 (crn t a b c d p q r s).1.2.1, .int .i64 (crn t a b c d p q r s).1.2.2.1, .int .i64 (crn t a b c d p q r s).1.2.2.2], .int .i64 (crn t a b c d p q r s).2]) (Lib.hid fun h => ?_) (Lib.hid fun h0 h => ?_) (Lib.hid fun h0 h1 h => ?_) (Lib.hid fun h0 h1 h2 h => ?_) (Lib.hid fun h0 h1 h2 h3 => ?_) (rmul a b p q ja jb jp jq) (rmul a b r s ja jb jr js) (rmul c d p q jc jd jp jq) (rmul c d r s jc jd jr js) (C a b p q ja jb jp jq) (C a b r s ja jb jr js) (C c d p q jc jd jp jq) (C c d r s jc jd jr js)
    (iwidened_any ((t a b p q).1, (t a b p q).2.1, (t a b p q).1, (t a b p q).2.1) _ _ ⟨i0.1, i0.2, i0.1, i0.2⟩ i0.1 i0.2) (iwidened_any (wid ((t a b p q).1, (t a b p q).2.1, (t a b p q).1, (t a b p q).2.1) (t a b p q).1 (t a b p q).2.1) _ _ w1 i1.1 i1.2) (iwidened_any (wid (wid ((t a b p q).1, (t a b p q).2.1, (t a b p q).1, (t a b p q).2.1) (t a b p q).1 (t a b p q).2.1) (t a b r s).1 (t a b r s).2.1) _ _ w2 i2.1 i2.2) (iwidened_any (wid (wid (wid ((t a b p q).1, (t a b p q).2.1, (t a b p q).1, (t a b p q).2.1) (t a b p q).1 (t a b p q).2.1) (t a b r s).1 (t a b r s).2.1) (t c d p q).1 (t c d p q).2.1) _ _ w3 i3.1 i3.2) w
  · unfold crn; rw [if_neg h]
  · unfold crn; rw [if_pos h0, if_neg h]
  · unfold crn; rw [if_pos h0, if_pos h1, if_neg h]
  · unfold crn; rw [if_pos h0, if_pos h1, if_pos h2, if_neg h]
  · unfold crn; rw [if_pos h0, if_pos h1, if_pos h2, if_pos h3]
theorem imul_any (a b c d p q r s : Int) (ja : inI a) (jb : inI b) (jc : inI c) (jd : inI d) (jp : inI p) (jq : inI q) (jr : inI r) (js : inI s) : Hid (∀ w : World, Calls Try.prog 49 #[.agg #[.int .i64 a, .int .i64 b, .int .i64 c, .int .i64 d], .agg #[.int .i64 p, .int .i64 q, .int .i64 r, .int .i64 s]] w fun e w' => e = .returned (if vI a b c d p q r s = true then .tuple #[.agg #[.int .i64 (crn (opT (· * ·)) a b c d p q r s).1.1, .int .i64 (crn (opT (· * ·)) a b c d p q r s).1.2.1, .int .i64 (crn (opT (· * ·)) a b c d p q r s).1.2.2.1, .int .i64 (crn (opT (· * ·)) a b c d p q r s).1.2.2.2], .int .i64 (crn (opT (· * ·)) a b c d p q r s).2] else .tuple #[.agg #[.int .i64 0, .int .i64 0, .int .i64 0, .int .i64 0], .int .i64 1]) ∧ Below w.heap.size w w') :=
  Lib.hid fun w => imul_raw a b c d p q r s _ _ _ _ _ _ (ivalid_any a b c d p q r s ja jb jc jd jp jq jr js) (Lib.hid fun w => imul_corners (opT (· * ·)) (fun _ _ _ _ => opT_in _ _ _ _ _) a b c d p q r s ja jb jc jd jp jq jr js (fun _ _ _ _ i1 j1 i2 j2 => rmul _ _ _ _ i1 j1 i2 j2) w) w
theorem idiv_any (a b c d p q r s : Int) (ja : inI a) (jb : inI b) (jc : inI c) (jd : inI d) (jp : inI p) (jq : inI q) (jr : inI r) (js : inI s) : Hid (∀ w : World, Calls Try.prog 50 #[.agg #[.int .i64 a, .int .i64 b, .int .i64 c, .int .i64 d], .agg #[.int .i64 p, .int .i64 q, .int .i64 r, .int .i64 s]] w fun e w' => e = .returned (if vI a b c d p q r s = true then (if p = 0 ∧ r = 0 then .tuple #[.agg #[.int .i64 0, .int .i64 0, .int .i64 0, .int .i64 0], .int .i64 26] else if p ≤ 0 ∧ 0 ≤ r then .tuple #[.agg #[.int .i64 0, .int .i64 0, .int .i64 0, .int .i64 0], .int .i64 23] else .tuple #[.agg #[.int .i64 (crn opD a b c d p q r s).1.1, .int .i64 (crn opD a b c d p q r s).1.2.1, .int .i64 (crn opD a b c d p q r s).1.2.2.1, .int .i64 (crn opD a b c d p q r s).1.2.2.2], .int .i64 (crn opD a b c d p q r s).2]) else .tuple #[.agg #[.int .i64 0, .int .i64 0, .int .i64 0, .int .i64 0], .int .i64 1]) ∧ Below w.heap.size w w') :=
  Lib.hid fun w => idiv_raw a b c d p q r s _ _ _ _ _ _ (ivalid_any a b c d p q r s ja jb jc jd jp jq jr js) (Lib.hid fun _ w => idiv_corners opD opD_in a b c d p q r s ja jb jc jd jp jq jr js (fun _ _ _ _ i1 j1 i2 j2 => rdivT _ _ _ _ i1 j1 i2 j2) w) w
end Go.Proofs.Ytbiegbnncnjnmaa.Iv
namespace Go.Proofs.Ytbiegbnncnjnmaa.Iv
open Go.RowKit

theorem wid_val {x : Int × Int × Int × Int} {p q : Int} {L H V : _root_.Rat} (hx : IVal x.1 x.2.1 x.2.2.1 x.2.2.2 L H) (hv : Val p q V) :
    ∃ L' H', IVal (wid x p q).1 (wid x p q).2.1 (wid x p q).2.2.1 (wid x p q).2.2.2 L' H' ∧ L' ≤ L ∧ H ≤ H' ∧ L' ≤ V ∧ V ≤ H' ∧ (L' = L ∨ L' = V) ∧ (H' = H ∨ H' = V) := by
  obtain ⟨hL, hH, hLH⟩ := hx
  have e1 := cmp_val hv hL
  have e2 := cmp_val hv hH
  unfold wid
  rw [e1, e2]
  by_cases h1 : cmpQ V L < 0
  · have g1 := cmpQ_lt.1 h1
    have n2 : ¬ 0 < cmpQ V H := fun h => by
      have := cmpQ_gt.1 h
      exact Rat.not_le.2 g1 (Rat.le_trans hLH (Rat.le_of_lt this))
    simp only [if_pos h1, if_neg n2]
    exact ⟨V, H, ⟨hv, hH, Rat.le_trans (Rat.le_of_lt g1) hLH⟩, Rat.le_of_lt g1, Rat.le_refl, Rat.le_refl, Rat.le_trans (Rat.le_of_lt g1) hLH, .inr rfl, .inl rfl⟩
  · have g1 : L ≤ V := Rat.not_lt.1 fun h => h1 (cmpQ_lt.2 h)
    by_cases h2 : 0 < cmpQ V H
    · have g2 := cmpQ_gt.1 h2
      simp only [if_neg h1, if_pos h2]
      exact ⟨L, V, ⟨hL, hv, g1⟩, Rat.le_refl, Rat.le_of_lt g2, g1, Rat.le_refl, .inl rfl, .inr rfl⟩
    · have g2 : V ≤ H := Rat.not_lt.1 fun h => h2 (cmpQ_gt.2 h)
      simp only [if_neg h1, if_neg h2]
      exact ⟨L, H, ⟨hL, hH, hLH⟩, Rat.le_refl, Rat.le_refl, g1, g2, .inl rfl, .inl rfl⟩
/-- The least interval of four numbers. -/
def Least (P R V0 V1 V2 V3 : _root_.Rat) : Prop := (P ≤ V0 ∧ V0 ≤ R) ∧ (P ≤ V1 ∧ V1 ≤ R) ∧ (P ≤ V2 ∧ V2 ≤ R) ∧ (P ≤ V3 ∧ V3 ≤ R) ∧ (P = V0 ∨ P = V1 ∨ P = V2 ∨ P = V3) ∧ (R = V0 ∨ R = V1 ∨ R = V2 ∨ R = V3)
theorem crn_ok {t : Int → Int → Int → Int → Int × Int × Int} {o : _root_.Rat → _root_.Rat → _root_.Rat} {a b c d p q r s : Int} {L1 H1 L2 H2 : _root_.Rat}
    (ok : ∀ {n1 d1 n2 d2 : Int} {X Y : _root_.Rat}, Val n1 d1 X → Val n2 d2 Y → (t n1 d1 n2 d2).2.2 = 0 → Val (t n1 d1 n2 d2).1 (t n1 d1 n2 d2).2.1 (o X Y))
    (hx : IVal a b c d L1 H1) (hy : IVal p q r s L2 H2) (h : (crn t a b c d p q r s).2 = 0) :
    ((t a b p q).2.2 = 0 ∧ (t a b r s).2.2 = 0 ∧ (t c d p q).2.2 = 0 ∧ (t c d r s).2.2 = 0) ∧ ∃ P R, IVal (crn t a b c d p q r s).1.1 (crn t a b c d p q r s).1.2.1 (crn t a b c d p q r s).1.2.2.1 (crn t a b c d p q r s).1.2.2.2 P R ∧ Least P R (o L1 L2) (o L1 H2) (o H1 L2) (o H1 H2) := by
  unfold crn at h ⊢
  by_cases e0 : (t a b p q).2.2 = 0
  · rw [if_pos e0] at h ⊢
    by_cases e1 : (t a b r s).2.2 = 0
    · rw [if_pos e1] at h ⊢
      by_cases e2 : (t c d p q).2.2 = 0
      · rw [if_pos e2] at h ⊢
        by_cases e3 : (t c d r s).2.2 = 0
        · rw [if_pos e3]
          have v0 := ok hx.1 hy.1 e0
          have v1 := ok hx.1 hy.2.1 e1
          have v2 := ok hx.2.1 hy.1 e2
          have v3 := ok hx.2.1 hy.2.1 e3
          have s0 : IVal ((t a b p q).1, (t a b p q).2.1, (t a b p q).1, (t a b p q).2.1).1 (t a b p q).2.1 (t a b p q).1 (t a b p q).2.1 (o L1 L2) (o L1 L2) := ⟨v0, v0, Rat.le_refl⟩
          obtain ⟨P0, R0, s1, a1, a2, a3, a4, a5, a6⟩ := wid_val (x := ((t a b p q).1, (t a b p q).2.1, (t a b p q).1, (t a b p q).2.1)) s0 v0
          obtain ⟨P1, R1, s2, b1, b2, b3, b4, b5, b6⟩ := wid_val s1 v1
          obtain ⟨P2, R2, s3, c1, c2, c3, c4, c5, c6⟩ := wid_val s2 v2
          obtain ⟨P3, R3, s4, d1, d2, d3, d4, d5, d6⟩ := wid_val s3 v3
          refine ⟨⟨e0, e1, e2, e3⟩, P3, R3, s4, ?_⟩
          have l10 := Rat.le_trans b1 a3
          have l20 := Rat.le_trans c1 l10
          have l21 := Rat.le_trans c1 b3
          have u10 := Rat.le_trans a4 b2
          have u20 := Rat.le_trans u10 c2
          have u21 := Rat.le_trans b4 c2
          refine ⟨⟨Rat.le_trans d1 l20, Rat.le_trans u20 d2⟩, ⟨Rat.le_trans d1 l21, Rat.le_trans u21 d2⟩, ⟨Rat.le_trans d1 c3, Rat.le_trans c4 d2⟩, ⟨d3, d4⟩, ?_, ?_⟩
          · rcases d5 with h | h
            · rcases c5 with h' | h'
              · rcases b5 with h'' | h''
                · rcases a5 with h3 | h3 <;> exact .inl (h.trans (h'.trans (h''.trans h3)))
                · exact .inr (.inl (h.trans (h'.trans h'')))
              · exact .inr (.inr (.inl (h.trans h')))
            · exact .inr (.inr (.inr h))
          · rcases d6 with h | h
            · rcases c6 with h' | h'
              · rcases b6 with h'' | h''
                · rcases a6 with h3 | h3 <;> exact .inl (h.trans (h'.trans (h''.trans h3)))
                · exact .inr (.inl (h.trans (h'.trans h'')))
              · exact .inr (.inr (.inl (h.trans h')))
            · exact .inr (.inr (.inr h))
        · rw [if_neg e3] at h
          exact absurd h e3
      · rw [if_neg e2] at h
        exact absurd h e2
    · rw [if_neg e1] at h
      exact absurd h e1
  · rw [if_neg e0] at h
    exact absurd h e0
/-- Whatever holds the four results of the ends holds the least interval of them. -/
theorem Least.within {P R V0 V1 V2 V3 A B : _root_.Rat} (h : Least P R V0 V1 V2 V3) (h0 : A ≤ V0 ∧ V0 ≤ B) (h1 : A ≤ V1 ∧ V1 ≤ B) (h2 : A ≤ V2 ∧ V2 ≤ B) (h3 : A ≤ V3 ∧ V3 ≤ B) : A ≤ P ∧ R ≤ B := by
  obtain ⟨_, _, _, _, hP, hR⟩ := h
  constructor
  · rcases hP with rfl | rfl | rfl | rfl
    · exact h0.1
    · exact h1.1
    · exact h2.1
    · exact h3.1
  · rcases hR with rfl | rfl | rfl | rfl
    · exact h0.2
    · exact h1.2
    · exact h2.2
    · exact h3.2
/-- The product of two elements is an element of the product. -/
theorem Least.mul {P R L1 H1 L2 H2 A B : _root_.Rat} (h : Least P R (L1 * L2) (L1 * H2) (H1 * L2) (H1 * H2)) (a1 : L1 ≤ A) (a2 : A ≤ H1) (b1 : L2 ≤ B) (b2 : B ≤ H2) : P ≤ A * B ∧ A * B ≤ R :=
  IvMath.in_mul4 a1 a2 b1 b2 h.1 h.2.1 h.2.2.1 h.2.2.2.1
theorem Least.div {P R L1 H1 L2 H2 A B : _root_.Rat} (h : Least P R (L1 / L2) (L1 / H2) (H1 / L2) (H1 / H2)) (h0 : 0 < L2 ∨ H2 < 0) (a1 : L1 ≤ A) (a2 : A ≤ H1) (b1 : L2 ≤ B) (b2 : B ≤ H2) : P ≤ A / B ∧ A / B ≤ R :=
  IvMath.in_div4 h0 a1 a2 b1 b2 h.1 h.2.1 h.2.2.1 h.2.2.2.1
/-- The sign of a fraction is that of its numerator. -/
theorem Val.sign {n d : Int} {X : _root_.Rat} (h : Val n d X) : (n = 0 ↔ X = 0) ∧ (0 < n ↔ 0 < X) ∧ (n < 0 ↔ X < 0) := by
  obtain ⟨D, rfl, c, rfl⟩ := h
  have v := Rat.chk_valid c
  have z : Val 0 ((1 : Nat) : Int) 0 := ⟨1, rfl, by decide, by decide⟩
  obtain ⟨_, _, cz, ez⟩ := z
  have l1 := Rat.toQ_lt (n1 := 0) (D1 := 1) (by decide : Rat.chk 0 ((1 : Nat) : Int)) c
  have l2 := Rat.toQ_lt (n2 := 0) (D2 := 1) c (by decide : Rat.chk 0 ((1 : Nat) : Int))
  rw [show Rat.toQ 0 1 = 0 from by decide] at l1 l2
  have hn := v.num
  refine ⟨⟨fun h => ?_, fun h => ?_⟩, ?_, ?_⟩
  · subst h
    have := v.num
    exact Rat.num_eq_zero.1 this
  · rw [h] at hn
    exact hn.symm
  · rw [l1]
    constructor <;> intro h <;> omega
  · rw [l2]
    constructor <;> intro h <;> omega
end Go.Proofs.Ytbiegbnncnjnmaa.Iv
namespace Go.Proofs.Ytbiegbnncnjnmaa.Iv
open Go.RowKit
open Go.Proofs.Ytbiegbnncnjnmaa.Rat (inI)

abbrev I4 := Int × Int × Int × Int
def V4 (x : I4) (L H : _root_.Rat) : Prop := IVal x.1 x.2.1 x.2.2.1 x.2.2.2 L H
def in4 (x : I4) : Prop := inI x.1 ∧ inI x.2.1 ∧ inI x.2.2.1 ∧ inI x.2.2.2
def ck (x : I4) : Int := chkI x.1 x.2.1 x.2.2.1 x.2.2.2
def ok2 (x y : I4) : Bool := vI x.1 x.2.1 x.2.2.1 x.2.2.2 y.1 y.2.1 y.2.2.1 y.2.2.2
def ct (x y : I4) : Bool := ok2 x y && decide (Rat.cmpOut x.1 x.2.1 y.1 y.2.1 ≤ 0) && decide (Rat.cmpOut y.2.2.1 y.2.2.2 x.2.2.1 x.2.2.2 ≤ 0)
def mn (x y : I4) : I4 := if ok2 x y = true then ((les x.1 x.2.1 y.1 y.2.1).1, (les x.1 x.2.1 y.1 y.2.1).2, (les x.2.2.1 x.2.2.2 y.2.2.1 y.2.2.2).1, (les x.2.2.1 x.2.2.2 y.2.2.1 y.2.2.2).2) else (0, 0, 0, 0)
def mx (x y : I4) : I4 := if ok2 x y = true then ((gre x.1 x.2.1 y.1 y.2.1).1, (gre x.1 x.2.1 y.1 y.2.1).2, (gre x.2.2.1 x.2.2.2 y.2.2.1 y.2.2.2).1, (gre x.2.2.1 x.2.2.2 y.2.2.1 y.2.2.2).2) else (0, 0, 0, 0)
def hu (x y : I4) : I4 := if ok2 x y = true then wid (wid x y.1 y.2.1) y.2.2.1 y.2.2.2 else (0, 0, 0, 0)
def pr (u v : Int × Int × Int) : I4 × Int := if u.2.2 = 0 then (if v.2.2 = 0 then ((u.1, u.2.1, v.1, v.2.1), 0) else ((0, 0, 0, 0), v.2.2)) else ((0, 0, 0, 0), u.2.2)
def ad (x y : I4) : I4 × Int := if ok2 x y = true then pr (opT (· + ·) x.1 x.2.1 y.1 y.2.1) (opT (· + ·) x.2.2.1 x.2.2.2 y.2.2.1 y.2.2.2) else ((0, 0, 0, 0), 1)
def sb (x y : I4) : I4 × Int := if ok2 x y = true then pr (opT (· - ·) x.1 x.2.1 y.2.2.1 y.2.2.2) (opT (· - ·) x.2.2.1 x.2.2.2 y.1 y.2.1) else ((0, 0, 0, 0), 1)
def mu (x y : I4) : I4 × Int := if ok2 x y = true then crn (opT (· * ·)) x.1 x.2.1 x.2.2.1 x.2.2.2 y.1 y.2.1 y.2.2.1 y.2.2.2 else ((0, 0, 0, 0), 1)
def dv (x y : I4) : I4 × Int := if ok2 x y = true then (if y.1 = 0 ∧ y.2.2.1 = 0 then ((0, 0, 0, 0), 26) else if y.1 ≤ 0 ∧ 0 ≤ y.2.2.1 then ((0, 0, 0, 0), 23) else crn opD x.1 x.2.1 x.2.2.1 x.2.2.2 y.1 y.2.1 y.2.2.1 y.2.2.2) else ((0, 0, 0, 0), 1)
def cp (op : Int) (x y : I4) : Int := if ok2 x y = true then icmp op (Rat.cmpOut x.2.2.1 x.2.2.2 y.1 y.2.1) (Rat.cmpOut y.2.2.1 y.2.2.2 x.1 x.2.1) (Rat.cmpOut x.1 x.2.1 y.2.2.1 y.2.2.2) else -1
/-- An element of an interval. -/
def el (n d : Int) (x : I4) : Bool := decide (cv n d = 0) && decide (ck x = 0) && decide (Rat.cmpOut x.1 x.2.1 n d ≤ 0) && decide (Rat.cmpOut n d x.2.2.1 x.2.2.2 ≤ 0)

def rmin (X Y : _root_.Rat) : _root_.Rat := if X ≤ Y then X else Y
def rmax (X Y : _root_.Rat) : _root_.Rat := if Y ≤ X then X else Y
theorem rmin_l (X Y : _root_.Rat) : rmin X Y ≤ X := by
  unfold rmin; split
  · exact Rat.le_refl
  · exact Rat.le_of_lt (Rat.not_le.1 (by assumption))
theorem rmin_r (X Y : _root_.Rat) : rmin X Y ≤ Y := by
  unfold rmin; split
  · assumption
  · exact Rat.le_refl
theorem rmax_l (X Y : _root_.Rat) : X ≤ rmax X Y := by
  unfold rmax; split
  · exact Rat.le_refl
  · exact Rat.le_of_lt (Rat.not_le.1 (by assumption))
theorem rmax_r (X Y : _root_.Rat) : Y ≤ rmax X Y := by
  unfold rmax; split
  · assumption
  · exact Rat.le_refl
theorem le_rmin {A X Y : _root_.Rat} (h1 : A ≤ X) (h2 : A ≤ Y) : A ≤ rmin X Y := by
  unfold rmin; split <;> assumption
theorem rmax_le {A X Y : _root_.Rat} (h1 : X ≤ A) (h2 : Y ≤ A) : rmax X Y ≤ A := by
  unfold rmax; split <;> assumption
theorem rmin_comm (X Y : _root_.Rat) : rmin X Y = rmin Y X := Rat.le_antisymm (le_rmin (rmin_r _ _) (rmin_l _ _)) (le_rmin (rmin_r _ _) (rmin_l _ _))
theorem rmax_comm (X Y : _root_.Rat) : rmax X Y = rmax Y X := Rat.le_antisymm (rmax_le (rmax_r _ _) (rmax_l _ _)) (rmax_le (rmax_r _ _) (rmax_l _ _))
theorem rmin_assoc (X Y Z : _root_.Rat) : rmin (rmin X Y) Z = rmin X (rmin Y Z) :=
  Rat.le_antisymm (le_rmin (Rat.le_trans (rmin_l _ _) (rmin_l _ _)) (le_rmin (Rat.le_trans (rmin_l _ _) (rmin_r _ _)) (rmin_r _ _))) (le_rmin (le_rmin (rmin_l _ _) (Rat.le_trans (rmin_r _ _) (rmin_l _ _))) (Rat.le_trans (rmin_r _ _) (rmin_r _ _)))
theorem rmax_assoc (X Y Z : _root_.Rat) : rmax (rmax X Y) Z = rmax X (rmax Y Z) :=
  Rat.le_antisymm (rmax_le (rmax_le (rmax_l _ _) (Rat.le_trans (rmax_l _ _) (rmax_r _ _))) (Rat.le_trans (rmax_r _ _) (rmax_r _ _))) (rmax_le (Rat.le_trans (rmax_l _ _) (rmax_l _ _)) (rmax_le (Rat.le_trans (rmax_r _ _) (rmax_l _ _)) (rmax_r _ _)))
theorem rmin_self (X : _root_.Rat) : rmin X X = X := by unfold rmin; split <;> rfl
theorem rmax_self (X : _root_.Rat) : rmax X X = X := by unfold rmax; split <;> rfl
theorem rmin_mono {A B C D : _root_.Rat} (h1 : A ≤ B) (h2 : C ≤ D) : rmin A C ≤ rmin B D := le_rmin (Rat.le_trans (rmin_l _ _) h1) (Rat.le_trans (rmin_r _ _) h2)
theorem rmax_mono {A B C D : _root_.Rat} (h1 : A ≤ B) (h2 : C ≤ D) : rmax A C ≤ rmax B D := rmax_le (Rat.le_trans h1 (rmax_l _ _)) (Rat.le_trans h2 (rmax_r _ _))
theorem rmin_rmax (X Y : _root_.Rat) : rmin X (rmax X Y) = X := Rat.le_antisymm (rmin_l _ _) (le_rmin Rat.le_refl (rmax_l _ _))

theorem Val.det {n d : Int} {X Y : _root_.Rat} (h : Val n d X) (h' : Val n d Y) : X = Y := by
  obtain ⟨D, e, _, rfl⟩ := h
  obtain ⟨D', e', _, rfl⟩ := h'
  have : D = D' := by omega
  rw [this]
theorem V4.uniq {x y : I4} {L H : _root_.Rat} (h : V4 x L H) (h' : V4 y L H) : x = y := by
  obtain ⟨a, b, c, d⟩ := x
  obtain ⟨p, q, r, s⟩ := y
  obtain ⟨e1, e2⟩ := h.1.uniq h'.1
  obtain ⟨e3, e4⟩ := h.2.1.uniq h'.2.1
  simp only at e1 e2 e3 e4
  rw [e1, e2, e3, e4]
theorem V4.det {x : I4} {L H L' H' : _root_.Rat} (h : V4 x L H) (h' : V4 x L' H') : L = L' ∧ H = H' := ⟨h.1.det h'.1, h.2.1.det h'.2.1⟩
theorem ck_zero {x : I4} : ck x = 0 ↔ ∃ L H, V4 x L H := chkI_zero
theorem V4.ck {x : I4} {L H : _root_.Rat} (h : V4 x L H) : ck x = 0 := ck_zero.2 ⟨_, _, h⟩
theorem ok2_iff {x y : I4} : ok2 x y = true ↔ ck x = 0 ∧ ck y = 0 := by
  unfold ok2 vI
  rw [decide_eq_true_iff]
  exact Iff.rfl
theorem V4.ok2 {x y : I4} {L H L' H' : _root_.Rat} (h : V4 x L H) (h' : V4 y L' H') : ok2 x y = true := ok2_iff.2 ⟨h.ck, h'.ck⟩
theorem ct_val {x y : I4} {L1 H1 L2 H2 : _root_.Rat} (h : V4 x L1 H1) (h' : V4 y L2 H2) : ct x y = true ↔ L1 ≤ L2 ∧ H2 ≤ H1 := by
  unfold ct
  rw [h.ok2 h', cmp_val h.1 h'.1, cmp_val h'.2.1 h.2.1, Bool.true_and, Bool.and_eq_true, decide_eq_true_iff, decide_eq_true_iff, cmpQ_le, cmpQ_le]
theorem ct_iff {x y : I4} : ct x y = true ↔ ∃ L1 H1 L2 H2, V4 x L1 H1 ∧ V4 y L2 H2 ∧ L1 ≤ L2 ∧ H2 ≤ H1 := by
  constructor
  · intro h
    have h0 : ok2 x y = true := by
      unfold ct at h
      rw [Bool.and_eq_true, Bool.and_eq_true] at h
      exact h.1.1
    obtain ⟨h1, h2⟩ := ok2_iff.1 h0
    obtain ⟨L1, H1, v1⟩ := ck_zero.1 h1
    obtain ⟨L2, H2, v2⟩ := ck_zero.1 h2
    exact ⟨L1, H1, L2, H2, v1, v2, (ct_val v1 v2).1 h⟩
  · rintro ⟨L1, H1, L2, H2, v1, v2, h⟩
    exact (ct_val v1 v2).2 h
theorem les_val {a b p q : Int} {X Y : _root_.Rat} (h : Val a b X) (h' : Val p q Y) : Val (les a b p q).1 (les a b p q).2 (rmin X Y) := by
  unfold les rmin
  rw [cmp_val h h']
  by_cases e : X ≤ Y
  · rw [if_pos e, if_pos (cmpQ_le.2 e)]; simp only [if_pos (cmpQ_le.2 e)]; exact h
  · have e' : ¬ cmpQ X Y ≤ 0 := fun x => e (cmpQ_le.1 x)
    rw [if_neg e, if_neg e']; simp only [if_neg e']; exact h'
theorem gre_val {a b p q : Int} {X Y : _root_.Rat} (h : Val a b X) (h' : Val p q Y) : Val (gre a b p q).1 (gre a b p q).2 (rmax X Y) := by
  unfold gre rmax
  rw [cmp_val h h']
  by_cases e : Y ≤ X
  · rw [if_pos e, if_pos (cmpQ_ge.2 e)]; simp only [if_pos (cmpQ_ge.2 e)]; exact h
  · have e' : ¬ 0 ≤ cmpQ X Y := fun x => e (cmpQ_ge.1 x)
    rw [if_neg e, if_neg e']; simp only [if_neg e']; exact h'
theorem mn_val {x y : I4} {L1 H1 L2 H2 : _root_.Rat} (h : V4 x L1 H1) (h' : V4 y L2 H2) : V4 (mn x y) (rmin L1 L2) (rmin H1 H2) := by
  unfold mn
  rw [if_pos (h.ok2 h')]
  exact ⟨les_val h.1 h'.1, les_val h.2.1 h'.2.1, rmin_mono h.2.2 h'.2.2⟩
theorem mx_val {x y : I4} {L1 H1 L2 H2 : _root_.Rat} (h : V4 x L1 H1) (h' : V4 y L2 H2) : V4 (mx x y) (rmax L1 L2) (rmax H1 H2) := by
  unfold mx
  rw [if_pos (h.ok2 h')]
  exact ⟨gre_val h.1 h'.1, gre_val h.2.1 h'.2.1, rmax_mono h.2.2 h'.2.2⟩
theorem hu_val {x y : I4} {L1 H1 L2 H2 : _root_.Rat} (h : V4 x L1 H1) (h' : V4 y L2 H2) : V4 (hu x y) (rmin L1 L2) (rmax H1 H2) := by
  unfold hu
  rw [if_pos (h.ok2 h')]
  obtain ⟨L, H, s1, a1, a2, a3, a4, a5, a6⟩ := wid_val h h'.1
  obtain ⟨L', H', s2, b1, b2, b3, b4, b5, b6⟩ := wid_val s1 h'.2.1
  have eL : L' = rmin L1 L2 := by
    refine Rat.le_antisymm (le_rmin (Rat.le_trans b1 a1) (Rat.le_trans b1 a3)) ?_
    rcases b5 with e | e
    · rw [e]
      rcases a5 with e' | e'
      · rw [e']; exact rmin_l _ _
      · rw [e']; exact rmin_r _ _
    · rw [e]; exact Rat.le_trans (rmin_r _ _) h'.2.2
  have eH : H' = rmax H1 H2 := by
    refine Rat.le_antisymm ?_ (rmax_le (Rat.le_trans a2 b2) b4)
    rcases b6 with e | e
    · rw [e]
      rcases a6 with e' | e'
      · rw [e']; exact rmax_l _ _
      · rw [e']; exact Rat.le_trans h'.2.2 (rmax_r _ _)
    · rw [e]; exact rmax_r _ _
  rw [← eL, ← eH]
  exact s2
theorem pr_zero {u v : Int × Int × Int} (h : (pr u v).2 = 0) : u.2.2 = 0 ∧ v.2.2 = 0 ∧ (pr u v).1 = (u.1, u.2.1, v.1, v.2.1) := by
  unfold pr at h ⊢
  by_cases h1 : u.2.2 = 0
  · rw [if_pos h1] at h ⊢
    by_cases h2 : v.2.2 = 0
    · rw [if_pos h2]
      exact ⟨h1, h2, rfl⟩
    · rw [if_neg h2] at h
      exact absurd h h2
  · rw [if_neg h1] at h
    exact absurd h h1
theorem ad_val {x y : I4} {L1 H1 L2 H2 : _root_.Rat} (h : V4 x L1 H1) (h' : V4 y L2 H2) (h0 : (ad x y).2 = 0) : V4 (ad x y).1 (L1 + L2) (H1 + H2) := by
  unfold ad at h0 ⊢
  rw [if_pos (h.ok2 h')] at h0 ⊢
  obtain ⟨h1, h2, e⟩ := pr_zero h0
  rw [e]
  exact ⟨opT_ok h.1 h'.1 h1, opT_ok h.2.1 h'.2.1 h2, IvMath.add_mono h.2.2 h'.2.2⟩
theorem sb_val {x y : I4} {L1 H1 L2 H2 : _root_.Rat} (h : V4 x L1 H1) (h' : V4 y L2 H2) (h0 : (sb x y).2 = 0) : V4 (sb x y).1 (L1 - H2) (H1 - L2) := by
  unfold sb at h0 ⊢
  rw [if_pos (h.ok2 h')] at h0 ⊢
  obtain ⟨h1, h2, e⟩ := pr_zero h0
  rw [e]
  exact ⟨opT_ok h.1 h'.2.1 h1, opT_ok h.2.1 h'.1 h2, IvMath.sub_mono h.2.2 h'.2.2⟩
theorem mu_val {x y : I4} {L1 H1 L2 H2 : _root_.Rat} (h : V4 x L1 H1) (h' : V4 y L2 H2) (h0 : (mu x y).2 = 0) : ∃ P R, V4 (mu x y).1 P R ∧ Least P R (L1 * L2) (L1 * H2) (H1 * L2) (H1 * H2) := by
  unfold mu at h0 ⊢
  rw [if_pos (h.ok2 h')] at h0 ⊢
  exact (crn_ok (o := (· * ·)) (fun a b c => opT_ok a b c) h h' h0).2
/-- 0 is no element of the divisor. -/
theorem apart {y : I4} {L2 H2 : _root_.Rat} (h' : V4 y L2 H2) : (0 < L2 ∨ H2 < 0) ↔ ¬ (y.1 ≤ 0 ∧ 0 ≤ y.2.2.1) := by
  have s1 := h'.1.sign
  have s2 := h'.2.1.sign
  constructor
  · rintro (h | h) ⟨a, b⟩
    · have := s1.2.1.2 h; omega
    · have := s2.2.2.2 h; omega
  · intro h
    by_cases a : y.1 ≤ 0
    · right
      exact s2.2.2.1 (by omega)
    · left
      exact s1.2.1.1 (by omega)
theorem opD_eq {n1 d1 n2 d2 : Int} (h : n2 ≠ 0) : opD n1 d1 n2 d2 = opT (· / ·) n1 d1 n2 d2 := by
  unfold opD
  rw [if_neg (fun x => h x.2.2)]
theorem dv_val {x y : I4} {L1 H1 L2 H2 : _root_.Rat} (h : V4 x L1 H1) (h' : V4 y L2 H2) (h0 : (dv x y).2 = 0) : (0 < L2 ∨ H2 < 0) ∧ ∃ P R, V4 (dv x y).1 P R ∧ Least P R (L1 / L2) (L1 / H2) (H1 / L2) (H1 / H2) := by
  unfold dv at h0 ⊢
  rw [if_pos (h.ok2 h')] at h0 ⊢
  by_cases e1 : y.1 = 0 ∧ y.2.2.1 = 0
  · rw [if_pos e1] at h0; cases h0
  rw [if_neg e1] at h0 ⊢
  by_cases e2 : y.1 ≤ 0 ∧ 0 ≤ y.2.2.1
  · rw [if_pos e2] at h0; cases h0
  rw [if_neg e2] at h0 ⊢
  have ap := (apart h').2 e2
  have n1 : y.1 ≠ 0 := fun e => by
    have s1 := h'.1.sign.1.1 e
    rcases ap with h | h
    · rw [s1] at h; exact Rat.lt_irrefl h
    · rw [← s1] at h; exact absurd h (Rat.not_lt.2 h'.2.2)
  have n2 : y.2.2.1 ≠ 0 := fun e => by
    have s1 := h'.2.1.sign.1.1 e
    rcases ap with h | h
    · rw [← s1] at h; exact absurd h (Rat.not_lt.2 h'.2.2)
    · rw [s1] at h; exact Rat.lt_irrefl h
  have ec : crn opD x.1 x.2.1 x.2.2.1 x.2.2.2 y.1 y.2.1 y.2.2.1 y.2.2.2 = crn (opT (· / ·)) x.1 x.2.1 x.2.2.1 x.2.2.2 y.1 y.2.1 y.2.2.1 y.2.2.2 := by
    unfold crn
    rw [opD_eq n1, opD_eq n1, opD_eq n2, opD_eq n2]
  rw [ec] at h0 ⊢
  exact ⟨ap, (crn_ok (o := (· / ·)) (fun a b c => opT_ok a b c) h h' h0).2⟩
theorem el_val {n d : Int} {x : I4} {L H A : _root_.Rat} (h : V4 x L H) (ha : Val n d A) : el n d x = true ↔ L ≤ A ∧ A ≤ H := by
  unfold el
  rw [h.ck, cv_zero.2 ha.chk, cmp_val h.1 ha, cmp_val ha h.2.1]
  simp only [decide_true, Bool.true_and, Bool.and_eq_true, decide_eq_true_iff, cmpQ_le]
theorem el_iff {n d : Int} {x : I4} : el n d x = true ↔ ∃ L H A, V4 x L H ∧ Val n d A ∧ L ≤ A ∧ A ≤ H := by
  constructor
  · intro h
    have h0 := h
    unfold el at h0
    simp only [Bool.and_eq_true, decide_eq_true_iff] at h0
    obtain ⟨L, H, v⟩ := ck_zero.1 h0.1.1.2
    obtain ⟨A, va⟩ := val_of (cv_zero.1 h0.1.1.1)
    exact ⟨L, H, A, v, va, (el_val v va).1 h⟩
  · rintro ⟨L, H, A, v, va, h⟩
    exact (el_val v va).2 h
end Go.Proofs.Ytbiegbnncnjnmaa.Iv
