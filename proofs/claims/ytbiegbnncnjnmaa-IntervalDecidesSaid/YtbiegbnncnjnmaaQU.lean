/- Monotony: the mathematics and the walk of IntervalMonotone. -/
import Derived.Test.YtbiegbnncnjnmaaMQt
import Derived.Test.YtbiegbnncnjnmaaMLe
set_option linter.unusedVariables false
set_option linter.unusedSimpArgs false
namespace Go.Proofs.Ytbiegbnncnjnmaa.Iv
open Go.RowKit
open Go.Proofs.Ytbiegbnncnjnmaa.Rat (inI)

theorem V4.in4 {x : I4} {L R : _root_.Rat} (h : V4 x L R) : in4 x :=
  ⟨(chkB h.1.chk).2.2.2.1, (chkB h.1.chk).2.2.2.2, (chkB h.2.1.chk).2.2.2.1, (chkB h.2.1.chk).2.2.2.2⟩
/-- Errors of fractions. -/
def fe (e : Int) : Prop := e = 0 ∨ e = 14 ∨ e = 1
theorem fe_no {e : Int} (h : fe e) : ¬ e = 26 ∧ ¬ e = 23 := by
  unfold fe at h
  omega
theorem opT_fe (q : _root_.Rat → _root_.Rat → _root_.Rat) (n1 d1 n2 d2 : Int) : fe (opT q n1 d1 n2 d2).2.2 := by
  unfold opT
  split
  · split
    · exact .inl rfl
    · exact .inr (.inl rfl)
  · exact .inr (.inr rfl)
theorem pr_fe {u v : Int × Int × Int} (h1 : fe u.2.2) (h2 : fe v.2.2) : fe (pr u v).2 := by
  unfold pr
  split
  · split
    · exact .inl rfl
    · exact h2
  · exact h1
theorem crn_fe {t : Int → Int → Int → Int → Int × Int × Int} {a b c d p q r s : Int} (h0 : fe (t a b p q).2.2) (h1 : fe (t a b r s).2.2) (h2 : fe (t c d p q).2.2) (h3 : fe (t c d r s).2.2) : fe (crn t a b c d p q r s).2 := by
  unfold crn
  split
  · split
    · split
      · split
        · exact .inl rfl
        · exact h3
      · exact h2
    · exact h1
  · exact h0
theorem ad_fe (x y : I4) : fe (ad x y).2 := by
  unfold ad
  split
  · exact pr_fe (opT_fe _ _ _ _ _) (opT_fe _ _ _ _ _)
  · exact .inr (.inr rfl)
theorem sb_fe (x y : I4) : fe (sb x y).2 := by
  unfold sb
  split
  · exact pr_fe (opT_fe _ _ _ _ _) (opT_fe _ _ _ _ _)
  · exact .inr (.inr rfl)
theorem mu_fe (x y : I4) : fe (mu x y).2 := by
  unfold mu
  split
  · exact crn_fe (opT_fe _ _ _ _ _) (opT_fe _ _ _ _ _) (opT_fe _ _ _ _ _) (opT_fe _ _ _ _ _)
  · exact .inr (.inr rfl)
theorem ends_ne {y : I4} {L2 H2 : _root_.Rat} (h' : V4 y L2 H2) (ap : 0 < L2 ∨ H2 < 0) : y.1 ≠ 0 ∧ y.2.2.1 ≠ 0 := by
  constructor
  · intro e
    have s1 := h'.1.sign.1.1 e
    rcases ap with h | h
    · rw [s1] at h; exact Rat.lt_irrefl h
    · rw [← s1] at h; exact absurd h (Rat.not_lt.2 h'.2.2)
  · intro e
    have s1 := h'.2.1.sign.1.1 e
    rcases ap with h | h
    · rw [← s1] at h; exact absurd h (Rat.not_lt.2 h'.2.2)
    · rw [s1] at h; exact Rat.lt_irrefl h
theorem dv_fe (x : I4) {y : I4} {L2 H2 : _root_.Rat} (h' : V4 y L2 H2) (ap : 0 < L2 ∨ H2 < 0) : fe (dv x y).2 := by
  obtain ⟨n1, n2⟩ := ends_ne h' ap
  unfold dv
  split
  · rw [if_neg (fun h => n1 h.1), if_neg ((apart h').1 ap)]
    refine crn_fe ?_ ?_ ?_ ?_
    · rw [opD_eq n1]; exact opT_fe _ _ _ _ _
    · rw [opD_eq n2]; exact opT_fe _ _ _ _ _
    · rw [opD_eq n1]; exact opT_fe _ _ _ _ _
    · rw [opD_eq n2]; exact opT_fe _ _ _ _ _
  · exact .inr (.inr rfl)
theorem apart_in {L H L' H' : _root_.Rat} (ap : 0 < L ∨ H < 0) (h1 : L ≤ L') (h2 : H' ≤ H) : 0 < L' ∨ H' < 0 := by
  rcases ap with h | h
  · exact .inl (IvMath.lt_le h h1)
  · exact .inr (IvMath.le_lt h2 h)

theorem ad_mono {x y u v : I4} {L1 H1 L2 H2 A1 B1 A2 B2 : _root_.Rat} (vx : V4 x L1 H1) (vy : V4 y L2 H2) (vu : V4 u A1 B1) (vv : V4 v A2 B2) (i1 : L1 ≤ A1) (i2 : B1 ≤ H1) (j1 : L2 ≤ A2) (j2 : B2 ≤ H2) (e : (ad x y).2 = 0) (g : (ad u v).2 = 0) : ct (ad x y).1 (ad u v).1 = true :=
  (ct_val (ad_val vx vy e) (ad_val vu vv g)).2 ⟨IvMath.add_mono i1 j1, IvMath.add_mono i2 j2⟩
theorem sb_mono {x y u v : I4} {L1 H1 L2 H2 A1 B1 A2 B2 : _root_.Rat} (vx : V4 x L1 H1) (vy : V4 y L2 H2) (vu : V4 u A1 B1) (vv : V4 v A2 B2) (i1 : L1 ≤ A1) (i2 : B1 ≤ H1) (j1 : L2 ≤ A2) (j2 : B2 ≤ H2) (e : (sb x y).2 = 0) (g : (sb u v).2 = 0) : ct (sb x y).1 (sb u v).1 = true :=
  (ct_val (sb_val vx vy e) (sb_val vu vv g)).2 ⟨IvMath.sub_mono i1 j2, IvMath.sub_mono i2 j1⟩
theorem mu_mono {x y u v : I4} {L1 H1 L2 H2 A1 B1 A2 B2 : _root_.Rat} (vx : V4 x L1 H1) (vy : V4 y L2 H2) (vu : V4 u A1 B1) (vv : V4 v A2 B2) (i1 : L1 ≤ A1) (i2 : B1 ≤ H1) (j1 : L2 ≤ A2) (j2 : B2 ≤ H2) (e : (mu x y).2 = 0) (g : (mu u v).2 = 0) : ct (mu x y).1 (mu u v).1 = true := by
  obtain ⟨P, R, v1, l1⟩ := mu_val vx vy e
  obtain ⟨P', R', v2, l2⟩ := mu_val vu vv g
  have a1 := Rat.le_trans vu.2.2 i2
  have a2 := Rat.le_trans i1 vu.2.2
  have b1 := Rat.le_trans vv.2.2 j2
  have b2 := Rat.le_trans j1 vv.2.2
  exact (ct_val v1 v2).2 (l2.within (l1.mul i1 a1 j1 b1) (l1.mul i1 a1 b2 j2) (l1.mul a2 i2 j1 b1) (l1.mul a2 i2 b2 j2))
theorem dv_mono {x y u v : I4} {L1 H1 L2 H2 A1 B1 A2 B2 : _root_.Rat} (vx : V4 x L1 H1) (vy : V4 y L2 H2) (vu : V4 u A1 B1) (vv : V4 v A2 B2) (i1 : L1 ≤ A1) (i2 : B1 ≤ H1) (j1 : L2 ≤ A2) (j2 : B2 ≤ H2) (e : (dv x y).2 = 0) (g : (dv u v).2 = 0) : ct (dv x y).1 (dv u v).1 = true := by
  obtain ⟨ap, P, R, v1, l1⟩ := dv_val vx vy e
  obtain ⟨_, P', R', v2, l2⟩ := dv_val vu vv g
  have a1 := Rat.le_trans vu.2.2 i2
  have a2 := Rat.le_trans i1 vu.2.2
  have b1 := Rat.le_trans vv.2.2 j2
  have b2 := Rat.le_trans j1 vv.2.2
  exact (ct_val v1 v2).2 (l2.within (l1.div ap i1 a1 j1 b1) (l1.div ap i1 a1 b2 j2) (l1.div ap a2 i2 j1 b1) (l1.div ap a2 i2 b2 j2))
theorem dv_noerr {x y u v : I4} {L1 H1 L2 H2 A2 B2 : _root_.Rat} (vx : V4 x L1 H1) (vy : V4 y L2 H2) (vv : V4 v A2 B2) (j1 : L2 ≤ A2) (j2 : B2 ≤ H2) (e : (dv x y).2 = 0) : ¬ (dv u v).2 = 26 ∧ ¬ (dv u v).2 = 23 :=
  fe_no (dv_fe u vv (apart_in (dv_val vx vy e).1 j1 j2))
theorem mn_mono {x y u v : I4} {L1 H1 L2 H2 A1 B1 A2 B2 : _root_.Rat} (vx : V4 x L1 H1) (vy : V4 y L2 H2) (vu : V4 u A1 B1) (vv : V4 v A2 B2) (i1 : L1 ≤ A1) (i2 : B1 ≤ H1) (j1 : L2 ≤ A2) (j2 : B2 ≤ H2) : ct (mn x y) (mn u v) = true := (ct_val (mn_val vx vy) (mn_val vu vv)).2 ⟨rmin_mono i1 j1, rmin_mono i2 j2⟩
theorem mx_mono {x y u v : I4} {L1 H1 L2 H2 A1 B1 A2 B2 : _root_.Rat} (vx : V4 x L1 H1) (vy : V4 y L2 H2) (vu : V4 u A1 B1) (vv : V4 v A2 B2) (i1 : L1 ≤ A1) (i2 : B1 ≤ H1) (j1 : L2 ≤ A2) (j2 : B2 ≤ H2) : ct (mx x y) (mx u v) = true := (ct_val (mx_val vx vy) (mx_val vu vv)).2 ⟨rmax_mono i1 j1, rmax_mono i2 j2⟩
theorem hu_mono {x y u v : I4} {L1 H1 L2 H2 A1 B1 A2 B2 : _root_.Rat} (vx : V4 x L1 H1) (vy : V4 y L2 H2) (vu : V4 u A1 B1) (vv : V4 v A2 B2) (i1 : L1 ≤ A1) (i2 : B1 ≤ H1) (j1 : L2 ≤ A2) (j2 : B2 ≤ H2) : ct (hu x y) (hu u v) = true := (ct_val (hu_val vx vy) (hu_val vu vv)).2 ⟨rmin_mono i1 j1, rmax_mono i2 j2⟩
theorem ct_yes {x y : I4} (h : ct x y = true) (hx : in4 x) (hy : in4 y) : Hid (∀ w : World, Calls Try.prog 17 #[.agg #[.int .i64 x.1, .int .i64 x.2.1, .int .i64 x.2.2.1, .int .i64 x.2.2.2], .agg #[.int .i64 y.1, .int .i64 y.2.1, .int .i64 y.2.2.1, .int .i64 y.2.2.2]] w fun e w' => e = .returned (.bool true) ∧ Below w.heap.size w w') := by
  have k := pcontains4 x y hx hy
  rw [h] at k
  exact k
theorem monotone_walk (x y u v : I4) (hx : in4 x) (hy : in4 y) (hu' : in4 u) (hv : in4 v) (w : World) : Calls Try.prog 8 #[.agg #[.int .i64 x.1, .int .i64 x.2.1, .int .i64 x.2.2.1, .int .i64 x.2.2.2], .agg #[.int .i64 y.1, .int .i64 y.2.1, .int .i64 y.2.2.1, .int .i64 y.2.2.2], .agg #[.int .i64 u.1, .int .i64 u.2.1, .int .i64 u.2.2.1, .int .i64 u.2.2.2], .agg #[.int .i64 v.1, .int .i64 v.2.1, .int .i64 v.2.2.1, .int .i64 v.2.2.2]] w fun e w' => e = .returned (.bool true) ∧ Below w.heap.size w w' := by
  have CU := pcontains4 x u hx hu'
  have CV := pcontains4 y v hy hv
  by_cases c1 : ct x u = true
  · by_cases c2 : ct y v = true
    · rw [c1] at CU
      rw [c2] at CV
      obtain ⟨L1, H1, A1, B1, vx, vu, i1, i2⟩ := ct_iff.1 c1
      obtain ⟨L2, H2, A2, B2, vy, vv, j1, j2⟩ := ct_iff.1 c2
      exact nlaw_raw x.1 x.2.1 x.2.2.1 x.2.2.2 y.1 y.2.1 y.2.2.1 y.2.2.2 u.1 u.2.1 u.2.2.1 u.2.2.2 v.1 v.2.1 v.2.2.1 v.2.2.2 _ _ _ _ _ _ _ _ _ _ _ _ _ _ _ _ _ _ _ _ _ _ _ _ _ _ _ _ _ _ _ _ _ _ _ _ _ _ _ _ _ _ _ _ _ _ _ _ _ _ _ _ _ _ _ _ _ _ _ _ _ _ _ _  CU CV
        (arith0 x y hx hy) (arith0 u v hu' hv) (Lib.hid fun w e g => (ct_yes (ad_mono vx vy vu vv i1 i2 j1 j2 e g) ((ad_val vx vy e).in4) ((ad_val vu vv g).in4)).out w) (Lib.hid fun _ => fe_no (ad_fe u v))
        (arith1 x y hx hy) (arith1 u v hu' hv) (Lib.hid fun w e g => (ct_yes (sb_mono vx vy vu vv i1 i2 j1 j2 e g) ((sb_val vx vy e).in4) ((sb_val vu vv g).in4)).out w) (Lib.hid fun _ => fe_no (sb_fe u v))
        (arith2 x y hx hy) (arith2 u v hu' hv) (Lib.hid fun w e g => (ct_yes (mu_mono vx vy vu vv i1 i2 j1 j2 e g) ((let ⟨_, _, k, _⟩ := mu_val vx vy e; k.in4)) ((let ⟨_, _, k, _⟩ := mu_val vu vv g; k.in4))).out w) (Lib.hid fun _ => fe_no (mu_fe u v))
        (arith3 x y hx hy) (arith3 u v hu' hv) (Lib.hid fun w e g => (ct_yes (dv_mono vx vy vu vv i1 i2 j1 j2 e g) ((let ⟨_, _, _, k, _⟩ := dv_val vx vy e; k.in4)) ((let ⟨_, _, _, k, _⟩ := dv_val vu vv g; k.in4))).out w) (Lib.hid fun e => dv_noerr (u := u) vx vy vv j1 j2 e)
        (pmin4 x y hx hy) (pmin4 u v hu' hv) (pmax4 x y hx hy) (pmax4 u v hu' hv) (phull4 x y hx hy) (phull4 u v hu' hv)
        (ct_yes (mn_mono vx vy vu vv i1 i2 j1 j2) (mn_val vx vy).in4 (mn_val vu vv).in4) (ct_yes (mx_mono vx vy vu vv i1 i2 j1 j2) (mx_val vx vy).in4 (mx_val vu vv).in4) (ct_yes (hu_mono vx vy vu vv i1 i2 j1 j2) (hu_val vx vy).in4 (hu_val vu vv).in4) awake_any w
    · rw [Bool.not_eq_true] at c2
      rw [c1] at CU
      rw [c2] at CV
      exact nlaw_out x.1 x.2.1 x.2.2.1 x.2.2.2 y.1 y.2.1 y.2.2.1 y.2.2.2 u.1 u.2.1 u.2.2.1 u.2.2.2 v.1 v.2.1 v.2.2.1 v.2.2.2 true false (.inr ⟨rfl, rfl⟩) CU CV awake_any w
  · rw [Bool.not_eq_true] at c1
    rw [c1] at CU
    exact nlaw_out x.1 x.2.1 x.2.2.1 x.2.2.2 y.1 y.2.1 y.2.2.1 y.2.2.2 u.1 u.2.1 u.2.2.1 u.2.2.2 v.1 v.2.1 v.2.2.1 v.2.2.2 false (ct y v) (.inl rfl) CU CV awake_any w
end Go.Proofs.Ytbiegbnncnjnmaa.Iv
