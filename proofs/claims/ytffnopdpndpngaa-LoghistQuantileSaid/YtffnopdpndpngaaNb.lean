/- Layer 12: the laws LoghistWidths and LoghistBuckets. -/
import Derived.Test.YtffnopdpndpngaaMy
import Derived.Test.YtffnopdpndpngaaNa
set_option linter.unusedVariables false
set_option linter.unusedSimpArgs false
namespace Go.Proofs.Ytffnopdpndpngaa.Lh
open Go.RowKit
/-- A histogram in memory. -/
structure HX (W : World) (g : Nat) (A : Option Addr) (c : Nat) (G : H) : Prop where
  box : HC W g G.p G.c G.s G.mn G.mx A G.bs.length c
  lt : g < W.heap.size
  ls : LS W W.heap.size A G.bs
theorem HX.up {W V : World} {g : Nat} {A : Option Addr} {c : Nat} {G : H} (h : HX W g A c G) (hb : Below W.heap.size W V) : HX V g A c G := ⟨h.box.keep h.lt hb, Nat.lt_of_lt_of_le h.lt hb.size, h.ls.up hb⟩
theorem HX.new {W : World} {A : Option Addr} {c : Nat} {G : H} (h : LS W W.heap.size A G.bs) : HX (W.alloc (.cells #[.int .i64 G.p, .int .i64 G.c, .int .i64 G.s, .int .i64 G.mn, .int .i64 G.mx, .slice A G.bs.length c] 29)) W.heap.size A c G :=
  ⟨HC.new _ _ _ _ _ _ _ _ _ _, by simp, h.up ((Below.refl _ _).alloc (Nat.le_refl _) _)⟩
set_option maxHeartbeats 1000000 in
/-- The reference's Great, of whatever length. -/
theorem grt_any (p c s mn mx : Int) (A : Option Addr) (n k : Nat) (w : World) :
    Calls Try.prog 20 #[hV p c s mn mx A n k] w fun e w' => e = .returned (.bool (decide (40 < n))) ∧ Below w.heap.size w w' := by
  have h1 : decide ((40 : Int) < (n : Int)) = decide (40 < n) := by
    by_cases h : 40 < n
    · rw [decide_eq_true h, decide_eq_true (by omega)]
    · rw [decide_eq_false h, decide_eq_false (by omega)]
  go_enter Try.func20, Try.ntmps20
  go_wp2
  go_ret
  refine ⟨?_, by first | exact (Below.refl _ w).alloc (Nat.le_refl _) _ | exact below_drew ((Below.refl _ w).alloc (Nat.le_refl _) _)⟩
  first | rfl | rw [h1]
theorem width_I {p i : Int} (hp : 0 ≤ p ∧ p ≤ 8) (hin : 0 ≤ i ∧ i ≤ topI p) : loI p i ≤ hiI p i ∧ (hiI p i - loI p i) * 2 ^ p.toNat ≤ loI p i ∧ 0 ≤ loI p i ∧ hiI p i ≤ 1099511627776 := by
  have h1 := hi_ge (p := p.toNat) (i := i.toNat) (by unfold topI at hin; omega)
  have h2 := width p.toNat i.toNat
  have h3 := hiI_le p i
  unfold loI hiI at *
  have h4 : hi p.toNat i.toNat ≤ lo p.toNat i.toNat + 2 ^ kb p.toNat i.toNat - 1 := by unfold hi; omega
  refine ⟨by omega, ?_, by omega, by omega⟩
  have h5 : (hi p.toNat i.toNat - lo p.toNat i.toNat) * 2 ^ p.toNat ≤ (lo p.toNat i.toNat + 2 ^ kb p.toNat i.toNat - 1 - lo p.toNat i.toNat) * 2 ^ p.toNat := Nat.mul_le_mul_right _ (by omega)
  have h6 := Nat.le_trans h5 h2
  have h7 : ((hi p.toNat i.toNat : Nat) : Int) - (lo p.toNat i.toNat : Nat) = ((hi p.toNat i.toNat - lo p.toNat i.toNat : Nat) : Int) := by omega
  rw [h7]
  exact_mod_cast h6
theorem below_I {p i : Int} (h1 : 1 ≤ i) (ht : i ≤ topI p) : hiI p (i - 1) = loI p i - 1 := by
  have h := hi_succ (p := p.toNat) (i := (i - 1).toNat) (by unfold topI at ht; omega)
  rw [show (i - 1).toNat + 1 = i.toNat by omega] at h
  unfold hiI loI
  omega
theorem low_zero {p : Int} : loI p 0 = 0 := by
  unfold loI
  rw [show (0 : Int).toNat = 0 from rfl, lo_zero]
  rfl
theorem high_top {p : Int} : hiI p (topI p) = 1099511627776 := by
  unfold hiI topI
  rw [Int.toNat_natCast, hi_top]
  rfl
theorem top_I {p : Int} (h : p ≤ 8) (h0 : 0 ≤ p) : topI p ≤ 10752 := by
  have := top_le (p := p.toNat) (by omega)
  unfold topI
  omega
/-- What Widths asks of a bucket. -/
structure Wd (p v i lo hi : Int) : Prop where
  a : lo ≤ v
  b : v ≤ hi
  d : 0 ≤ lo
  e : hi ≤ 1099511627776
  f : (hi - lo) * 2 ^ p.toNat ≤ lo
  g : 0 ≤ (hi - lo) * 2 ^ p.toNat
  i0 : 0 ≤ i
  i1 : i ≤ 10752
  z : i = 0 → lo = 0
theorem wd_of {p v : Int} (hp : 0 ≤ p ∧ p ≤ 8) (hv : 0 ≤ v ∧ v ≤ 1099511627776) : Wd p v (ixI p v) (loI p (ixI p v)) (hiI p (ixI p v)) := by
  have r := ixI_range (p := p) hv
  have w := width_I hp r
  have n := ixI_in (p := p) hv
  have t := top_I hp.2 hp.1
  exact ⟨n.1, n.2, w.2.2.1, w.2.2.2, w.2.1, Int.mul_nonneg (by omega) (by exact_mod_cast Nat.zero_le _), r.1, by omega, fun e => by rw [e, low_zero]⟩
set_option maxHeartbeats 4000000 in
theorem widths_walk (p v m : Int) (w : World) : Calls Try.prog 7 #[.int .i64 p, .int .i64 v, .int .i64 m] w fun e w' => e = .returned (.bool true) ∧ Below w.heap.size w w' := by
  have KA := Lib.hid awake_any
  have IX := Lib.hid (fun w => pIndex_any p v w)
  by_cases hv : p < 0 ∨ 8 < p ∨ v < 0 ∨ 1099511627776 < v
  · rw [idxOut, if_pos hv] at IX
    clear hv
    go_enter Try.func7, Try.ntmps7
    go_wp2_with fail
    with_reducible refine (IX.out _).mono ?_
    rintro e w1 ⟨rfl, hb1⟩
    go_wp2_with fail
    with_reducible refine (KA.out _).mono ?_
    rintro e w2 ⟨rfl, hb2⟩
    have BB := Lib.hid (hb1.trans (hb2.mono hb1.size))
    clear hb1 hb2
    go_wp2
    go_ret
    exact ⟨rfl, BB.out⟩
  · rw [idxOut, if_neg hv] at IX
    have hp : 0 ≤ p ∧ p ≤ 8 := by omega
    have hv1 : 0 ≤ v ∧ v ≤ 1099511627776 := by omega
    have wd := wd_of hp hv1
    have hr := ixI_range (p := p) hv1
    have hb0 := fun w => pBounds_any p (ixI p v) w
    have hbm := fun w => pBounds_any p (ixI p v - 1) w
    have hbp := fun w => pBounds_any p (ixI p v + 1) w
    unfold bndOut at hb0 hbm hbp
    rw [if_neg (by omega)] at hb0
    have hM : ∃ x y z : Int, (if p < 0 ∨ 8 < p ∨ ixI p v - 1 < 0 ∨ topI p < ixI p v - 1 then Value.tuple #[.int .i64 0, .int .i64 0, .int .i64 2] else .tuple #[.int .i64 (loI p (ixI p v - 1)), .int .i64 (hiI p (ixI p v - 1)), .int .i64 0]) = .tuple #[.int .i64 x, .int .i64 y, .int .i64 z] ∧ (0 < ixI p v → z = 0 ∧ y = loI p (ixI p v) - 1) := by
      by_cases h : 0 < ixI p v
      · rw [if_neg (by omega)]
        exact ⟨_, _, _, rfl, fun _ => ⟨rfl, below_I h hr.2⟩⟩
      · rw [if_pos (by omega)]
        exact ⟨_, _, _, rfl, fun h2 => (h h2).elim⟩
    have hP : ∃ x y z : Int, (if p < 0 ∨ 8 < p ∨ ixI p v + 1 < 0 ∨ topI p < ixI p v + 1 then Value.tuple #[.int .i64 0, .int .i64 0, .int .i64 2] else .tuple #[.int .i64 (loI p (ixI p v + 1)), .int .i64 (hiI p (ixI p v + 1)), .int .i64 0]) = .tuple #[.int .i64 x, .int .i64 y, .int .i64 z] ∧ ((z = 0 ∧ x = hiI p (ixI p v) + 1) ∨ (z = 2 ∧ hiI p (ixI p v) = 1099511627776)) := by
      by_cases h : topI p < ixI p v + 1
      · rw [if_pos (by omega)]
        refine ⟨_, _, _, rfl, .inr ⟨rfl, ?_⟩⟩
        rw [show ixI p v = topI p by omega, high_top]
      · rw [if_neg (by omega)]
        refine ⟨_, _, _, rfl, .inl ⟨rfl, ?_⟩⟩
        have := below_I (p := p) (i := ixI p v + 1) (by omega) (by omega)
        rw [show ixI p v + 1 - 1 = ixI p v by omega] at this
        omega
    have hK : ∃ k z : Int, idxOut p m = .tuple #[.int .i64 k, .int .i64 z] ∧ (z ≠ 0 ∨ ((v ≤ m → ixI p v ≤ k) ∧ (m ≤ v → k ≤ ixI p v))) := by
      unfold idxOut
      by_cases h : p < 0 ∨ 8 < p ∨ m < 0 ∨ 1099511627776 < m
      · rw [if_pos h]
        exact ⟨_, _, rfl, .inl (by decide)⟩
      · rw [if_neg h]
        exact ⟨_, _, rfl, .inr ⟨fun h => ixI_mono h, fun h => ixI_mono h⟩⟩
    obtain ⟨xm, ym, zm, em, fm⟩ := hM
    obtain ⟨xp, yp, zp, ep, fp⟩ := hP
    obtain ⟨kk, kz, ek, fk⟩ := hK
    have hmr := fun w => pIndex_any p m w
    simp only [em] at hbm
    simp only [ep] at hbp
    simp only [ek] at hmr
    have H0 := Lib.hid hb0
    have HM := Lib.hid hbm
    have HP := Lib.hid hbp
    have HR := Lib.hid hmr
    clear hb0 hbm hbp hmr em ep ek hr hv hv1
    generalize loI p (ixI p v) = lw at *
    generalize hiI p (ixI p v) = hg at *
    generalize ixI p v = i at *
    obtain ⟨wa, wb, wdd, we, wf, wg, wi0, wi1, wz⟩ := wd
    have ws : hg - lw ≤ 1099511627776 := by omega
    have ws0 : 0 ≤ hg - lw := by omega
    have FM := Lib.hid fm
    have FP := Lib.hid fp
    have FK := Lib.hid fk
    clear fm fp fk
    go_enter Try.func7, Try.ntmps7
    go_wp2_with fail
    with_reducible refine (IX.out _).mono ?_
    rintro e w1 ⟨rfl, hb⟩
    have BB := Lib.hid hb
    clear hb
    go_wp2_with fail
    with_reducible refine (H0.out _).mono ?_
    rintro e w2 ⟨rfl, hb⟩
    have BB := Lib.hid (BB.out.trans (hb.mono BB.out.size))
    clear hb
    go_wp2_with fail
    with_reducible refine (HM.out _).mono ?_
    rintro e wn ⟨rfl, hb⟩
    have BB := Lib.hid (BB.out.trans (hb.mono BB.out.size))
    clear hb
    by_cases hi1 : 0 < i
    · obtain ⟨rfl, rfl⟩ := FM.out hi1
      go_wp2_with fail
      with_reducible refine (HP.out _).mono ?_
      rintro e wn ⟨rfl, hb⟩
      have BB := Lib.hid (BB.out.trans (hb.mono BB.out.size))
      clear hb
      rcases FP.out with ⟨rfl, rfl⟩ | ⟨rfl, rfl⟩
      · skip
        go_wp2_with fail
        with_reducible refine (HR.out _).mono ?_
        rintro e wn ⟨rfl, hb⟩
        have BB := Lib.hid (BB.out.trans (hb.mono BB.out.size))
        clear hb
        rcases FK.out with hk | ⟨hk1, hk2⟩
        · go_wp2_with fail
          with_reducible refine (KA.out _).mono ?_
          rintro e wn ⟨rfl, hb⟩
          have BB := Lib.hid (BB.out.trans (hb.mono BB.out.size))
          clear hb
          go_wp2
          go_ret
          exact ⟨rfl, BB.out⟩
        · by_cases hkz : kz = 0
          · subst hkz
            by_cases hlt : v < m
            · have h1 := hk1 (by omega)
              have h2 : ¬ m ≤ v := by omega
              go_wp2_with fail
              with_reducible refine (KA.out _).mono ?_
              rintro e wn ⟨rfl, hb⟩
              have BB := Lib.hid (BB.out.trans (hb.mono BB.out.size))
              clear hb
              go_wp2
              go_ret
              exact ⟨rfl, BB.out⟩
            by_cases hgt : m < v
            · have h1 := hk2 (by omega)
              have h2 : ¬ v ≤ m := by omega
              go_wp2_with fail
              with_reducible refine (KA.out _).mono ?_
              rintro e wn ⟨rfl, hb⟩
              have BB := Lib.hid (BB.out.trans (hb.mono BB.out.size))
              clear hb
              go_wp2
              go_ret
              exact ⟨rfl, BB.out⟩
            · have h0 : m = v := by omega
              subst h0
              have h1 := hk1 (Int.le_refl _)
              have h2 := hk2 (Int.le_refl _)
              go_wp2_with fail
              with_reducible refine (KA.out _).mono ?_
              rintro e wn ⟨rfl, hb⟩
              have BB := Lib.hid (BB.out.trans (hb.mono BB.out.size))
              clear hb
              go_wp2
              go_ret
              exact ⟨rfl, BB.out⟩
          · go_wp2_with fail
            with_reducible refine (KA.out _).mono ?_
            rintro e wn ⟨rfl, hb⟩
            have BB := Lib.hid (BB.out.trans (hb.mono BB.out.size))
            clear hb
            go_wp2
            go_ret
            exact ⟨rfl, BB.out⟩
      · skip
        go_wp2_with fail
        with_reducible refine (HR.out _).mono ?_
        rintro e wn ⟨rfl, hb⟩
        have BB := Lib.hid (BB.out.trans (hb.mono BB.out.size))
        clear hb
        rcases FK.out with hk | ⟨hk1, hk2⟩
        · go_wp2_with fail
          with_reducible refine (KA.out _).mono ?_
          rintro e wn ⟨rfl, hb⟩
          have BB := Lib.hid (BB.out.trans (hb.mono BB.out.size))
          clear hb
          go_wp2
          go_ret
          exact ⟨rfl, BB.out⟩
        · by_cases hkz : kz = 0
          · subst hkz
            by_cases hlt : v < m
            · have h1 := hk1 (by omega)
              have h2 : ¬ m ≤ v := by omega
              go_wp2_with fail
              with_reducible refine (KA.out _).mono ?_
              rintro e wn ⟨rfl, hb⟩
              have BB := Lib.hid (BB.out.trans (hb.mono BB.out.size))
              clear hb
              go_wp2
              go_ret
              exact ⟨rfl, BB.out⟩
            by_cases hgt : m < v
            · have h1 := hk2 (by omega)
              have h2 : ¬ v ≤ m := by omega
              go_wp2_with fail
              with_reducible refine (KA.out _).mono ?_
              rintro e wn ⟨rfl, hb⟩
              have BB := Lib.hid (BB.out.trans (hb.mono BB.out.size))
              clear hb
              go_wp2
              go_ret
              exact ⟨rfl, BB.out⟩
            · have h0 : m = v := by omega
              subst h0
              have h1 := hk1 (Int.le_refl _)
              have h2 := hk2 (Int.le_refl _)
              go_wp2_with fail
              with_reducible refine (KA.out _).mono ?_
              rintro e wn ⟨rfl, hb⟩
              have BB := Lib.hid (BB.out.trans (hb.mono BB.out.size))
              clear hb
              go_wp2
              go_ret
              exact ⟨rfl, BB.out⟩
          · go_wp2_with fail
            with_reducible refine (KA.out _).mono ?_
            rintro e wn ⟨rfl, hb⟩
            have BB := Lib.hid (BB.out.trans (hb.mono BB.out.size))
            clear hb
            go_wp2
            go_ret
            exact ⟨rfl, BB.out⟩
    · have hi2 : i = 0 := by omega
      have hi3 := wz hi2
      subst hi2
      subst hi3
      simp only [Int.zero_add] at HP
      go_wp2_with fail
      with_reducible refine (HP.out _).mono ?_
      rintro e wn ⟨rfl, hb⟩
      have BB := Lib.hid (BB.out.trans (hb.mono BB.out.size))
      clear hb
      rcases FP.out with ⟨rfl, rfl⟩ | ⟨rfl, rfl⟩
      · skip
        go_wp2_with fail
        with_reducible refine (HR.out _).mono ?_
        rintro e wn ⟨rfl, hb⟩
        have BB := Lib.hid (BB.out.trans (hb.mono BB.out.size))
        clear hb
        rcases FK.out with hk | ⟨hk1, hk2⟩
        · go_wp2_with fail
          with_reducible refine (KA.out _).mono ?_
          rintro e wn ⟨rfl, hb⟩
          have BB := Lib.hid (BB.out.trans (hb.mono BB.out.size))
          clear hb
          go_wp2
          go_ret
          exact ⟨rfl, BB.out⟩
        · by_cases hkz : kz = 0
          · subst hkz
            by_cases hlt : v < m
            · have h1 := hk1 (by omega)
              have h2 : ¬ m ≤ v := by omega
              go_wp2_with fail
              with_reducible refine (KA.out _).mono ?_
              rintro e wn ⟨rfl, hb⟩
              have BB := Lib.hid (BB.out.trans (hb.mono BB.out.size))
              clear hb
              go_wp2
              go_ret
              exact ⟨rfl, BB.out⟩
            by_cases hgt : m < v
            · have h1 := hk2 (by omega)
              have h2 : ¬ v ≤ m := by omega
              go_wp2_with fail
              with_reducible refine (KA.out _).mono ?_
              rintro e wn ⟨rfl, hb⟩
              have BB := Lib.hid (BB.out.trans (hb.mono BB.out.size))
              clear hb
              go_wp2
              go_ret
              exact ⟨rfl, BB.out⟩
            · have h0 : m = v := by omega
              subst h0
              have h1 := hk1 (Int.le_refl _)
              have h2 := hk2 (Int.le_refl _)
              go_wp2_with fail
              with_reducible refine (KA.out _).mono ?_
              rintro e wn ⟨rfl, hb⟩
              have BB := Lib.hid (BB.out.trans (hb.mono BB.out.size))
              clear hb
              go_wp2
              go_ret
              exact ⟨rfl, BB.out⟩
          · go_wp2_with fail
            with_reducible refine (KA.out _).mono ?_
            rintro e wn ⟨rfl, hb⟩
            have BB := Lib.hid (BB.out.trans (hb.mono BB.out.size))
            clear hb
            go_wp2
            go_ret
            exact ⟨rfl, BB.out⟩
      · skip
        go_wp2_with fail
        with_reducible refine (HR.out _).mono ?_
        rintro e wn ⟨rfl, hb⟩
        have BB := Lib.hid (BB.out.trans (hb.mono BB.out.size))
        clear hb
        rcases FK.out with hk | ⟨hk1, hk2⟩
        · go_wp2_with fail
          with_reducible refine (KA.out _).mono ?_
          rintro e wn ⟨rfl, hb⟩
          have BB := Lib.hid (BB.out.trans (hb.mono BB.out.size))
          clear hb
          go_wp2
          go_ret
          exact ⟨rfl, BB.out⟩
        · by_cases hkz : kz = 0
          · subst hkz
            by_cases hlt : v < m
            · have h1 := hk1 (by omega)
              have h2 : ¬ m ≤ v := by omega
              go_wp2_with fail
              with_reducible refine (KA.out _).mono ?_
              rintro e wn ⟨rfl, hb⟩
              have BB := Lib.hid (BB.out.trans (hb.mono BB.out.size))
              clear hb
              go_wp2
              go_ret
              exact ⟨rfl, BB.out⟩
            by_cases hgt : m < v
            · have h1 := hk2 (by omega)
              have h2 : ¬ v ≤ m := by omega
              go_wp2_with fail
              with_reducible refine (KA.out _).mono ?_
              rintro e wn ⟨rfl, hb⟩
              have BB := Lib.hid (BB.out.trans (hb.mono BB.out.size))
              clear hb
              go_wp2
              go_ret
              exact ⟨rfl, BB.out⟩
            · have h0 : m = v := by omega
              subst h0
              have h1 := hk1 (Int.le_refl _)
              have h2 := hk2 (Int.le_refl _)
              go_wp2_with fail
              with_reducible refine (KA.out _).mono ?_
              rintro e wn ⟨rfl, hb⟩
              have BB := Lib.hid (BB.out.trans (hb.mono BB.out.size))
              clear hb
              go_wp2
              go_ret
              exact ⟨rfl, BB.out⟩
          · go_wp2_with fail
            with_reducible refine (KA.out _).mono ?_
            rintro e wn ⟨rfl, hb⟩
            have BB := Lib.hid (BB.out.trans (hb.mono BB.out.size))
            clear hb
            go_wp2
            go_ret
            exact ⟨rfl, BB.out⟩
end Go.Proofs.Ytffnopdpndpngaa.Lh
