/- The mathematics and the walk of IntervalLattice. -/
import Derived.Test.YtbiegbnncnjnmaaQU
import Derived.Test.YtbiegbnncnjnmaaQXb
set_option linter.unusedVariables false
set_option linter.unusedSimpArgs false
namespace Go.Proofs.Ytbiegbnncnjnmaa.Iv
open Go.RowKit
open Go.Proofs.Ytbiegbnncnjnmaa.Rat (inI)

theorem hu_comm {x y : I4} {L1 H1 L2 H2 : _root_.Rat} (vx : V4 x L1 H1) (vy : V4 y L2 H2) : hu y x = hu x y := by
  have a := hu_val vy vx
  rw [rmin_comm L2, rmax_comm H2] at a
  exact a.uniq (hu_val vx vy)
theorem hu_assoc {x y z : I4} {L1 H1 L2 H2 L3 H3 : _root_.Rat} (vx : V4 x L1 H1) (vy : V4 y L2 H2) (vz : V4 z L3 H3) : hu x (hu y z) = hu (hu x y) z := by
  have a := hu_val (hu_val vx vy) vz
  rw [rmin_assoc, rmax_assoc] at a
  exact (hu_val vx (hu_val vy vz)).uniq a
theorem hu_self {x : I4} {L1 H1 : _root_.Rat} (vx : V4 x L1 H1) : hu x x = x := by
  have a := hu_val vx vx
  rw [rmin_self, rmax_self] at a
  exact a.uniq vx
theorem mn_comm {x y : I4} {L1 H1 L2 H2 : _root_.Rat} (vx : V4 x L1 H1) (vy : V4 y L2 H2) : mn y x = mn x y := by
  have a := mn_val vy vx
  rw [rmin_comm L2, rmin_comm H2] at a
  exact a.uniq (mn_val vx vy)
theorem mn_assoc {x y z : I4} {L1 H1 L2 H2 L3 H3 : _root_.Rat} (vx : V4 x L1 H1) (vy : V4 y L2 H2) (vz : V4 z L3 H3) : mn x (mn y z) = mn (mn x y) z := by
  have a := mn_val (mn_val vx vy) vz
  rw [rmin_assoc, rmin_assoc] at a
  exact (mn_val vx (mn_val vy vz)).uniq a
theorem mn_self {x : I4} {L1 H1 : _root_.Rat} (vx : V4 x L1 H1) : mn x x = x := by
  have a := mn_val vx vx
  rw [rmin_self, rmin_self] at a
  exact a.uniq vx
theorem mx_comm {x y : I4} {L1 H1 L2 H2 : _root_.Rat} (vx : V4 x L1 H1) (vy : V4 y L2 H2) : mx y x = mx x y := by
  have a := mx_val vy vx
  rw [rmax_comm L2, rmax_comm H2] at a
  exact a.uniq (mx_val vx vy)
theorem mx_assoc {x y z : I4} {L1 H1 L2 H2 L3 H3 : _root_.Rat} (vx : V4 x L1 H1) (vy : V4 y L2 H2) (vz : V4 z L3 H3) : mx x (mx y z) = mx (mx x y) z := by
  have a := mx_val (mx_val vx vy) vz
  rw [rmax_assoc, rmax_assoc] at a
  exact (mx_val vx (mx_val vy vz)).uniq a
theorem mx_self {x : I4} {L1 H1 : _root_.Rat} (vx : V4 x L1 H1) : mx x x = x := by
  have a := mx_val vx vx
  rw [rmax_self, rmax_self] at a
  exact a.uniq vx
theorem mn_mx {x y : I4} {L1 H1 L2 H2 : _root_.Rat} (vx : V4 x L1 H1) (vy : V4 y L2 H2) : mn x (mx x y) = x := by
  have a := mn_val vx (mx_val vx vy)
  rw [rmin_rmax, rmin_rmax] at a
  exact a.uniq vx
theorem ct_hu {x y z : I4} {L1 H1 L2 H2 L3 H3 : _root_.Rat} (vx : V4 x L1 H1) (vy : V4 y L2 H2) (vz : V4 z L3 H3) : ct z (hu x y) = (ct z x && ct z y) := by
  rw [Bool.eq_iff_iff, Bool.and_eq_true, ct_val vz (hu_val vx vy), ct_val vz vx, ct_val vz vy]
  constructor
  · rintro ⟨a, b⟩
    exact ⟨⟨Rat.le_trans a (rmin_l _ _), Rat.le_trans (rmax_l _ _) b⟩, ⟨Rat.le_trans a (rmin_r _ _), Rat.le_trans (rmax_r _ _) b⟩⟩
  · rintro ⟨⟨a, b⟩, ⟨c, d⟩⟩
    exact ⟨le_rmin a c, rmax_le b d⟩
theorem lattice_walk (x y z : I4) (hx : in4 x) (hy : in4 y) (hz : in4 z) (w : World) : Calls Try.prog 10 #[.agg #[.int .i64 x.1, .int .i64 x.2.1, .int .i64 x.2.2.1, .int .i64 x.2.2.2], .agg #[.int .i64 y.1, .int .i64 y.2.1, .int .i64 y.2.2.1, .int .i64 y.2.2.2], .agg #[.int .i64 z.1, .int .i64 z.2.1, .int .i64 z.2.2.1, .int .i64 z.2.2.2]] w fun e w' => e = .returned (.bool true) ∧ Below w.heap.size w w' := by
  have K1 := pcheck4 x hx
  have K2 := pcheck4 y hy
  have K3 := pcheck4 z hz
  by_cases c1 : ck x = 0
  · rw [c1] at K1
    by_cases c2 : ck y = 0
    · rw [c2] at K2
      by_cases c3 : ck z = 0
      · rw [c3] at K3
        obtain ⟨L1, H1, vx⟩ := ck_zero.1 c1
        obtain ⟨L2, H2, vy⟩ := ck_zero.1 c2
        obtain ⟨L3, H3, vz⟩ := ck_zero.1 c3
        have hum := (hu_val vx vy).in4
        have huk := (hu_val vy vz).in4
        have hub := phull4 y x hy hx
        rw [hu_comm vx vy] at hub
        have hue := phull4 x (hu y z) hx huk
        rw [hu_assoc vx vy vz] at hue
        have huf := phull4 x x hx hx
        rw [hu_self vx] at huf
        have hug := pcheck4 (hu x y) hum
        rw [(hu_val vx vy).ck] at hug
        have mnm := (mn_val vx vy).in4
        have mnk := (mn_val vy vz).in4
        have mnb := pmin4 y x hy hx
        rw [mn_comm vx vy] at mnb
        have mne := pmin4 x (mn y z) hx mnk
        rw [mn_assoc vx vy vz] at mne
        have mnf := pmin4 x x hx hx
        rw [mn_self vx] at mnf
        have mng := pcheck4 (mn x y) mnm
        rw [(mn_val vx vy).ck] at mng
        have mxm := (mx_val vx vy).in4
        have mxk := (mx_val vy vz).in4
        have mxb := pmax4 y x hy hx
        rw [mx_comm vx vy] at mxb
        have mxe := pmax4 x (mx y z) hx mxk
        rw [mx_assoc vx vy vz] at mxe
        have mxf := pmax4 x x hx hx
        rw [mx_self vx] at mxf
        have mxg := pcheck4 (mx x y) mxm
        rw [(mx_val vx vy).ck] at mxg
        have N1 := ct_yes ((ct_val (hu_val vx vy) vx).2 ⟨rmin_l _ _, rmax_l _ _⟩) hum hx
        have N2 := ct_yes ((ct_val (hu_val vx vy) vy).2 ⟨rmin_r _ _, rmax_r _ _⟩) hum hy
        have N3 := pcontains4 z (hu x y) hz hum
        rw [ct_hu vx vy vz] at N3
        have ME := pmin4 x (mx x y) hx mxm
        rw [mn_mx vx vy] at ME
        exact tlaw_raw x.1 x.2.1 x.2.2.1 x.2.2.2 y.1 y.2.1 y.2.2.1 y.2.2.2 z.1 z.2.1 z.2.2.1 z.2.2.2 _ _ _ _ _ _ _ _ _ _ _ _ _ _ _ _ _ _ _ _ _ _ _ _ _ _ _ _ _ _ _ _ _ _ _ _  (ct z x) (ct z y) K1 K2 K3
          (phull4 x y hx hy) hub (phull4 (hu x y) z hum hz) (phull4 y z hy hz) hue huf hug (pmin4 x y hx hy) mnb (pmin4 (mn x y) z mnm hz) (pmin4 y z hy hz) mne mnf mng (pmax4 x y hx hy) mxb (pmax4 (mx x y) z mxm hz) (pmax4 y z hy hz) mxe mxf mxg N1 N2 N3 (pcontains4 z x hz hx) (pcontains4 z y hz hy) ME awake_any w
      · exact tlaw_out3 x.1 x.2.1 x.2.2.1 x.2.2.2 y.1 y.2.1 y.2.2.1 y.2.2.2 z.1 z.2.1 z.2.2.1 z.2.2.2 _ c3 K1 K2 K3 awake_any w
    · exact tlaw_out2 x.1 x.2.1 x.2.2.1 x.2.2.2 y.1 y.2.1 y.2.2.1 y.2.2.2 z.1 z.2.1 z.2.2.1 z.2.2.2 _ c2 K1 K2 awake_any w
  · exact tlaw_out1 x.1 x.2.1 x.2.2.1 x.2.2.2 y.1 y.2.1 y.2.2.1 y.2.2.2 z.1 z.2.1 z.2.2.1 z.2.2.2 _ c1 K1 awake_any w
end Go.Proofs.Ytbiegbnncnjnmaa.Iv
