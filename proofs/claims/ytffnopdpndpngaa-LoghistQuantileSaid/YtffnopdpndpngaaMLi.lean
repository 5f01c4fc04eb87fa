/- Layer 12, ahead: the reference's power, index. Layer 12, ahead: the reference's bounds, Index, Bounds. Layer 12, ahead: the reference's Index, Bounds. Layer 12, ahead: histograms in memory; the reference's Great. -/
import Derived.Test.YtffnopdpndpngaaProg
import Derived.Test.YtffnopdpndpngaaMLh
import Derived.WalkKit
import Derived.WalkSpells
import Derived.WalkLawsBesides
import Derived.Lib.VarintMem
import Derived.IntWalk
import Derived.KernelRfl
import Derived.BigRegion
import Derived.StillTailTactics
import Derived.Outline
import Derived.Deep.QuietTactic
import Derived.BigQuiet
import Derived.OwnWalk
import Derived.Below
import Derived.Laws.OwnMore
import Derived.Deep.Draws
set_option linter.unusedVariables false
set_option linter.unusedSimpArgs false
namespace Go.Proofs.Ytffnopdpndpngaa.Lh
open Go.RowKit
set_option maxHeartbeats 1000000 in
theorem power_any (n : Nat) (hn : n ≤ 61) (w : World) :
    Calls Try.prog 63 #[.int .i64 n] w fun e w' => e = .returned (.int .i64 ((2 ^ n : Nat) : Int)) ∧ Below w.heap.size w w' := by
  go_enter Try.func63, Try.ntmps63
  go_wp2
  go_loopw [3, 4] (fun vo vi wr => ∃ k P : Nat, k ≤ n ∧ vo = .int .i64 P ∧ vi = .int .i64 k ∧ P ≤ 2305843009213693952 ∧ Hid (P = 2 ^ k) ∧ Hid (Below w.heap.size w wr)) (fun _ vi _ => n - (intOf vi).toNat)
  case atStart => exact ⟨0, 1, by omega, rfl, rfl, by omega, rfl, Below.refl _ _⟩
  case round =>
    obtain ⟨k, P, hk, rfl, rfl, hP, HP, HB⟩ := hrel
    by_cases hlt : k < n
    · have HQ : Hid (2 * P = 2 ^ (k + 1)) := by show _ = _; rw [HP.out, Nat.pow_succ]; omega
      have hQ : 2 * P ≤ 2305843009213693952 := by
        rw [HQ.out]
        exact Nat.le_trans ((Nat.pow_le_pow_iff_right (by decide)).mpr (show k + 1 ≤ 61 by omega)) (by decide)
      go_wp2
      go_roundw
      case rel => exact ⟨k + 1, 2 * P, by omega, by go_num, by go_num, hQ, HQ, HB⟩
      case measure => simp [intOf]; omega
    · have e : k = n := by omega
      subst e
      have HP2 : Hid ((P : Int) = ((2 ^ k : Nat) : Int)) := by show _ = _; rw [HP.out]
      clear HP
      go_wp2
      go_ret
      exact ⟨by rw [HP2.out]; rfl, HB.out⟩
theorem pow8 {p : Nat} (h : p ≤ 8) : 2 ^ p ≤ 256 := Nat.le_trans ((Nat.pow_le_pow_iff_right (by decide)).mpr h) (by decide)
def Ind (p v k x : Nat) : Prop := x = v / 2 ^ k ∧ (k = 0 ∨ 2 * 2 ^ p ≤ v / 2 ^ (k - 1))
theorem Ind.start (p v : Nat) : Ind p v 0 v := ⟨by rw [Nat.pow_zero, Nat.div_one], .inl rfl⟩
theorem Ind.next {p v k x : Nat} (h : Ind p v k x) (h2 : 2 * 2 ^ p ≤ x) : Ind p v (k + 1) (x / 2) := by
  refine ⟨?_, .inr ?_⟩
  · rw [h.1, Nat.div_div_eq_div_mul, Nat.pow_succ]
  · rw [Nat.add_sub_cancel, ← h.1]; exact h2
theorem Ind.small {p v k x : Nat} (h : Ind p v k x) (h2 : 2 * 2 ^ p ≤ x) (hv : v ≤ 1099511627776) : k + 1 ≤ 40 := by
  have h3 := h.1
  have h4 : 1 ≤ 2 ^ p := pow_pos2 p
  have h5 : 2 ≤ v / 2 ^ k := by omega
  rw [Nat.le_div_iff_mul_le (pow_pos2 k)] at h5
  have h6 : 2 ^ (k + 1) ≤ 2 ^ 40 := by rw [Nat.pow_succ]; omega
  exact (Nat.pow_le_pow_iff_right (by decide)).mp h6
theorem Ind.done {p v k x : Nat} (h : Ind p v k x) (h2 : ¬ 2 * 2 ^ p ≤ x) : ix p v = k * 2 ^ p + x := by
  obtain ⟨h3, h4⟩ := h
  have h5 := kv_least (p := p) (v := v) (k := k) (by omega) h4
  unfold ix
  rw [h5, h3]
set_option maxHeartbeats 1000000 in
theorem index_any (p v : Nat) (hp : p ≤ 8) (hv : v ≤ 1099511627776) (w : World) :
    Calls Try.prog 40 #[.int .i64 p, .int .i64 v] w fun e w' => e = .returned (.int .i64 ((ix p v : Nat) : Int)) ∧ Below w.heap.size w w' := by
  obtain ⟨P, hP⟩ : ∃ P, 2 ^ p = P := ⟨_, rfl⟩
  have hP8 := pow8 hp
  have hP1 := pow_pos2 p
  rw [hP] at hP8 hP1
  have C : Hid (∀ w : World, Calls Try.prog 63 #[.int .i64 p] w fun e w' => e = .returned (.int .i64 (P : Int)) ∧ Below w.heap.size w w') := by
    intro w
    rw [← hP]
    exact power_any p (by omega) w
  have HP := Lib.hid hP
  clear hP
  go_enter Try.func40, Try.ntmps40
  go_wp2
  go_loopw [5, 6] (fun vk vx wr => ∃ k x : Nat, vk = .int .i64 k ∧ vx = .int .i64 x ∧ k ≤ 40 ∧ x ≤ 1099511627776 ∧ Hid (Ind p v k x) ∧ Hid (Below w.heap.size w wr)) (fun _ vx _ => (intOf vx).toNat)
  case atStart => exact ⟨0, v, rfl, rfl, by omega, hv, Ind.start p v, by first | exact Below.refl _ _ | exact below_drew (Below.refl _ _)⟩
  case round =>
    obtain ⟨k, x, rfl, rfl, hk, hx, HI, HB⟩ := hrel
    by_cases hlt : 2 * P ≤ x
    · have hs : k + 1 ≤ 40 := HI.out.small (by rw [HP.out]; exact hlt) hv
      have HN : Hid (Ind p v (k + 1) (x / 2)) := HI.out.next (by rw [HP.out]; exact hlt)
      have hx2 : (x : Int) / 2 = ((x / 2 : Nat) : Int) := by simp
      have HX := Lib.hid hx2
      clear hx2
      go_wp2_with (go_at_call 63; (with_reducible refine (C.out _).mono ?_); rintro e w1 ⟨rfl, hb1⟩; have HB1 := Lib.hid (HB.out.trans (hb1.mono HB.out.size)); clear hb1)
      go_roundw
      case rel => exact ⟨k + 1, x / 2, by go_num, by first | go_num | (rw [HX.out]) | (go_num; rw [HX.out]), hs, by omega, HN, HB1⟩
      case measure => simp [intOf]; omega
    · have HD : Hid (ix p v = k * P + x) := by show _ = _; rw [HI.out.done (by rw [HP.out]; exact hlt), HP.out]
      have hkp : k * P ≤ 40 * 256 := Nat.mul_le_mul hk hP8
      have h1 : (k : Int) * (P : Int) = ((k * P : Nat) : Int) := by simp
      have h2 : 0 ≤ (k : Int) * (P : Int) := by omega
      have h3 : (k : Int) * (P : Int) ≤ 10240 := by omega
      have HK : Hid ((k : Int) * (P : Int) + x = ((ix p v : Nat) : Int)) := by show _ = _; rw [HD.out]; omega
      clear h1 hkp HD HI
      go_wp2_with (go_at_call 63; (with_reducible refine (C.out _).mono ?_); rintro e w1 ⟨rfl, hb1⟩; have HB := Lib.hid (HB.out.trans (hb1.mono HB.out.size)); clear hb1)
      go_ret
      exact ⟨by rw [← HK.out]; rfl, HB.out⟩
end Go.Proofs.Ytffnopdpndpngaa.Lh
namespace Go.Proofs.Ytffnopdpndpngaa.Lh
open Go.RowKit
theorem bounds_more {p i k : Nat} (h : k < kb p i) : 2 * 2 ^ p ≤ i - k * 2 ^ p ∧ k * 2 ^ p ≤ i := by
  obtain ⟨g0, g1, g2⟩ := kb_spec p i
  have h1 : (k + 1) * 2 ^ p ≤ kb p i * 2 ^ p := Nat.mul_le_mul_right _ h
  rw [Nat.add_mul, Nat.one_mul] at h1
  generalize k * 2 ^ p = a at *
  generalize kb p i * 2 ^ p = b at *
  rcases g2 with g2 | g2
  · omega
  · omega
set_option maxHeartbeats 1000000 in
theorem bounds_any (p i : Nat) (hp : p ≤ 8) (hi : i ≤ top p) (w : World) :
    Calls Try.prog 41 #[.int .i64 p, .int .i64 i] w fun e w' => e = .returned (.tuple #[.int .i64 ((lo p i : Nat) : Int), .int .i64 ((Lh.hi p i : Nat) : Int)]) ∧ Below w.heap.size w w' := by
  have hi2 := top_le hp
  have hkb := kb_le hi
  have hlo := lo_top.mp hi
  obtain ⟨g0, g1, g2⟩ := kb_spec p i
  have hmore := fun k => @bounds_more p i k
  have hlo2 : lo p i = (i - kb p i * 2 ^ p) * 2 ^ kb p i := rfl
  have hhi : Lh.hi p i = min (lo p i + 2 ^ kb p i - 1) 1099511627776 := rfl
  generalize Lh.hi p i = h9 at *
  generalize lo p i = l9 at *
  generalize hKe : kb p i = K at *
  have CQ := fun w => power_any K (by omega) w
  have hQ1 := pow_pos2 K
  have hQ2 : 2 ^ K ≤ 1099511627776 := Nat.le_trans ((Nat.pow_le_pow_iff_right (by decide)).mpr hkb) (by decide)
  generalize 2 ^ K = Q at *
  have CP := fun w => power_any p (by omega) w
  have hP1 := pow_pos2 p
  have hP8 := pow8 hp
  generalize 2 ^ p = P at *
  have CP := Lib.hid CP
  have CQ := Lib.hid CQ
  have hKP : K * P ≤ i := g0
  have HM := Lib.hid hmore
  have G1 := Lib.hid g1
  have HL := Lib.hid hlo2
  have HH := Lib.hid hhi
  clear hmore hlo2 hhi g0 g1 g2 hKe
  go_enter Try.func41, Try.ntmps41
  have HB : Hid (Below w.heap.size w w) := Below.refl _ _
  have hK0 : 0 ≤ (K : Int) * (P : Int) := Int.mul_nonneg (by omega) (by omega)
  go_wp2_with (go_at_call 63; (with_reducible refine (CP.out _).mono ?_); rintro e w1 ⟨rfl, hb1⟩; have HB := Lib.hid (HB.out.trans (hb1.mono HB.out.size)); clear hb1)
  go_loopw [7] (fun vk wr => ∃ k : Nat, vk = .int .i64 k ∧ k ≤ K ∧ Hid (Below w.heap.size w wr)) (fun vk _ => K - (intOf vk).toNat)
  case atStart => exact ⟨0, rfl, by omega, by first | exact HB.out | exact below_drew HB.out⟩
  case round =>
    clear HB
    obtain ⟨k, rfl, hk, HB⟩ := hrel
    by_cases hlt : k < K
    · obtain ⟨h1, h2⟩ := HM.out k hlt
      have h3 : ((k * P : Nat) : Int) = (k : Int) * (P : Int) := by simp
      have h4 : 0 ≤ (k : Int) * (P : Int) := by omega
      have h5 : (k : Int) * (P : Int) ≤ i := by omega
      have h6 : 2 * (P : Int) ≤ (i : Int) - (k : Int) * (P : Int) := by omega
      clear h3 h1 h2
      go_wp2
      go_roundw
      case rel => exact ⟨k + 1, by go_num, by omega, HB⟩
      case measure => simp [intOf]; omega
    · have e : k = K := by omega
      subst e
      have h3 : ((k * P : Nat) : Int) = (k : Int) * (P : Int) := by simp
      have h1 := G1.out
      have h5 : (k : Int) * (P : Int) ≤ i := by omega
      have h6 : ¬ 2 * (P : Int) ≤ (i : Int) - (k : Int) * (P : Int) := by omega
      have h7 : ((i : Int) - (k : Int) * (P : Int)) * (Q : Int) = (l9 : Int) := by
        rw [HL.out, Int.natCast_mul, Int.natCast_sub hKP, h3]
      have h8 : 0 ≤ ((i : Int) - (k : Int) * (P : Int)) * (Q : Int) := by omega
      have h10 : ((i : Int) - (k : Int) * (P : Int)) * (Q : Int) ≤ 1099511627776 := by omega
      have H7 := Lib.hid h7
      by_cases hb : 1099511627776 < l9 + Q - 1
      · have HH2 : Hid ((h9 : Int) = 1099511627776) := by show _ = _; rw [HH.out]; omega
        have h11 : 1099511627776 < ((i : Int) - (k : Int) * (P : Int)) * (Q : Int) + (Q : Int) - 1 := by omega
        clear h3 h1 h7 hb hKP
        go_wp2_with (go_at_call 63; (with_reducible refine (CQ.out _).mono ?_); rintro e w1 ⟨rfl, hb1⟩; have HB := Lib.hid (HB.out.trans (hb1.mono HB.out.size)); clear hb1)
        go_ret2
        exact ⟨by rw [← H7.out, HH2.out]; rfl, HB.out⟩
      · have HH2 : Hid (((i : Int) - (k : Int) * (P : Int)) * (Q : Int) + (Q : Int) - 1 = (h9 : Int)) := by show _ = _; rw [h7, HH.out]; omega
        have h11 : ¬ 1099511627776 < ((i : Int) - (k : Int) * (P : Int)) * (Q : Int) + (Q : Int) - 1 := by omega
        clear h3 h1 h7 hb hKP
        go_wp2_with (go_at_call 63; (with_reducible refine (CQ.out _).mono ?_); rintro e w1 ⟨rfl, hb1⟩; have HB := Lib.hid (HB.out.trans (hb1.mono HB.out.size)); clear hb1)
        go_ret2
        exact ⟨by rw [← H7.out, ← HH2.out]; rfl, HB.out⟩
end Go.Proofs.Ytffnopdpndpngaa.Lh
namespace Go.Proofs.Ytffnopdpndpngaa.Lh
open Go.RowKit
def idxOut (p v : Int) : Value := if p < 0 ∨ 8 < p ∨ v < 0 ∨ 1099511627776 < v then .tuple #[.int .i64 0, .int .i64 2] else .tuple #[.int .i64 (ixI p v), .int .i64 0]
def bndOut (p i : Int) : Value := if p < 0 ∨ 8 < p ∨ i < 0 ∨ topI p < i then .tuple #[.int .i64 0, .int .i64 0, .int .i64 2] else .tuple #[.int .i64 (loI p i), .int .i64 (hiI p i), .int .i64 0]
set_option maxHeartbeats 1000000 in
theorem refIndex_any (p v : Int) (w : World) :
    Calls Try.prog 13 #[.int .i64 p, .int .i64 v] w fun e w' => e = .returned (idxOut p v) ∧ Below w.heap.size w w' := by
  by_cases h1 : p < 0
  · rw [idxOut, if_pos (by omega)]
    go_enter Try.func13, Try.ntmps13
    go_wp2
    go_ret2
    exact ⟨rfl, by first | exact Below.refl _ _ | exact below_drew (Below.refl _ _)⟩
  by_cases h2 : 8 < p
  · rw [idxOut, if_pos (by omega)]
    go_enter Try.func13, Try.ntmps13
    go_wp2
    go_ret2
    exact ⟨rfl, by first | exact Below.refl _ _ | exact below_drew (Below.refl _ _)⟩
  by_cases h3 : v < 0
  · rw [idxOut, if_pos (by omega)]
    go_enter Try.func13, Try.ntmps13
    go_wp2
    go_ret2
    exact ⟨rfl, by first | exact Below.refl _ _ | exact below_drew (Below.refl _ _)⟩
  by_cases h4 : 1099511627776 < v
  · rw [idxOut, if_pos (by omega)]
    go_enter Try.func13, Try.ntmps13
    go_wp2
    go_ret2
    exact ⟨rfl, by first | exact Below.refl _ _ | exact below_drew (Below.refl _ _)⟩
  · rw [idxOut, if_neg (by omega)]
    have C := Lib.hid (fun w => index_any p.toNat v.toNat (by omega) (by omega) w)
    rw [show ((p.toNat : Nat) : Int) = p by omega, show ((v.toNat : Nat) : Int) = v by omega] at C
    have HE : Hid (((ix p.toNat v.toNat : Nat) : Int) = ixI p v) := rfl
    rw [HE.out] at C
    clear HE
    generalize ixI p v = z at *
    have HB : Hid (Below w.heap.size w w) := Below.refl _ _
    go_enter Try.func13, Try.ntmps13
    go_wp2_with (go_at_call 40; (with_reducible refine (C.out _).mono ?_); rintro e w1 ⟨rfl, hb1⟩; have HB := Lib.hid (HB.out.trans (hb1.mono HB.out.size)); clear hb1)
    go_ret2
    exact ⟨rfl, HB.out⟩
set_option maxHeartbeats 1000000 in
theorem refBounds_any (p i : Int) (w : World) :
    Calls Try.prog 15 #[.int .i64 p, .int .i64 i] w fun e w' => e = .returned (bndOut p i) ∧ Below w.heap.size w w' := by
  by_cases h1 : p < 0
  · rw [bndOut, if_pos (by omega)]
    go_enter Try.func15, Try.ntmps15
    go_wp2
    go_ret3
    exact ⟨rfl, by first | exact Below.refl _ _ | exact below_drew (Below.refl _ _)⟩
  by_cases h2 : 8 < p
  · rw [bndOut, if_pos (by omega)]
    go_enter Try.func15, Try.ntmps15
    go_wp2
    go_ret3
    exact ⟨rfl, by first | exact Below.refl _ _ | exact below_drew (Below.refl _ _)⟩
  by_cases h3 : i < 0
  · rw [bndOut, if_pos (by omega)]
    go_enter Try.func15, Try.ntmps15
    go_wp2
    go_ret3
    exact ⟨rfl, by first | exact Below.refl _ _ | exact below_drew (Below.refl _ _)⟩
  have C := Lib.hid (fun w => index_any p.toNat 1099511627776 (by omega) (by omega) w)
  rw [show ((p.toNat : Nat) : Int) = p by omega, show ((1099511627776 : Nat) : Int) = 1099511627776 from rfl] at C
  have HE : Hid (((ix p.toNat 1099511627776 : Nat) : Int) = topI p) := rfl
  rw [HE.out] at C
  clear HE
  have HB : Hid (Below w.heap.size w w) := Below.refl _ _
  by_cases h4 : topI p < i
  · rw [bndOut, if_pos (by omega)]
    generalize topI p = z at *
    go_enter Try.func15, Try.ntmps15
    go_wp2_with (go_at_call 40; (with_reducible refine (C.out _).mono ?_); rintro e w1 ⟨rfl, hb1⟩; have HB := Lib.hid (HB.out.trans (hb1.mono HB.out.size)); clear hb1)
    go_ret3
    exact ⟨rfl, HB.out⟩
  · rw [bndOut, if_neg (by omega)]
    have D := Lib.hid (fun w => bounds_any p.toNat i.toNat (by omega) (by unfold topI at h4; omega) w)
    rw [show ((p.toNat : Nat) : Int) = p by omega, show ((i.toNat : Nat) : Int) = i by omega] at D
    have HE : Hid (((lo p.toNat i.toNat : Nat) : Int) = loI p i) := rfl
    have HF : Hid (((hi p.toNat i.toNat : Nat) : Int) = hiI p i) := rfl
    rw [HE.out, HF.out] at D
    clear HE HF
    generalize topI p = z at *
    generalize loI p i = z1 at *
    generalize hiI p i = z2 at *
    go_enter Try.func15, Try.ntmps15
    go_wp2_with (first | (go_at_call 40; (with_reducible refine (C.out _).mono ?_); rintro e w1 ⟨rfl, hb1⟩; have HB := Lib.hid (HB.out.trans (hb1.mono HB.out.size)); clear hb1) | (go_at_call 41; (with_reducible refine (D.out _).mono ?_); rintro e w2 ⟨rfl, hb1⟩; have HB := Lib.hid (HB.out.trans (hb1.mono HB.out.size)); clear hb1))
    go_ret3
    exact ⟨rfl, HB.out⟩
end Go.Proofs.Ytffnopdpndpngaa.Lh
namespace Go.Proofs.Ytffnopdpndpngaa.Lh
open Go.RowKit
def inI (z : Int) : Prop := -9223372036854775808 ≤ z ∧ z ≤ 9223372036854775807
/-- The slice at A reads as the buckets l; it lies below block N. -/
def LS (w : World) (N : Nat) (A : Option Addr) (l : List B) : Prop :=
  l ≠ [] → ∃ b off, A = some ⟨b, off, none⟩ ∧ b < N ∧ ∀ j (h : j < l.length), w.cell? ⟨b, off + j * 2, none⟩ = some (.int .i64 l[j].1) ∧ w.cell? ⟨b, off + j * 2 + 1, none⟩ = some (.int .i64 l[j].2)
theorem LS.at_ {w : World} {N : Nat} {A : Option Addr} {l : List B} (h : LS w N A l) {k : Nat} (hk : k < l.length) :
    ∃ b off, A = some ⟨b, off, none⟩ ∧ b < N ∧ w.cell? ⟨b, off + k * 2, none⟩ = some (.int .i64 l[k].1) ∧ w.cell? ⟨b, off + k * 2 + 1, none⟩ = some (.int .i64 l[k].2) := by
  obtain ⟨b, off, e, hb, hc⟩ := h (by intro e; rw [e] at hk; simp at hk)
  exact ⟨b, off, e, hb, hc k hk⟩
theorem LS.keep {w w' : World} {N : Nat} {A : Option Addr} {l : List B} (h : LS w N A l) (hk : ∀ p : Addr, p.block < N → w'.cell? p = w.cell? p) : LS w' N A l := fun hne => by
  obtain ⟨b, off, e, hb, hc⟩ := h hne
  exact ⟨b, off, e, hb, fun j hj => ⟨(hk _ hb).trans (hc j hj).1, (hk _ hb).trans (hc j hj).2⟩⟩
theorem LS.below {w w' : World} {N : Nat} {A : Option Addr} {l : List B} (h : LS w N A l) (hb : Below N w w') : LS w' N A l := h.keep fun _ hp => hb.cell hp
theorem LS.more {w : World} {N N' : Nat} {A : Option Addr} {l : List B} (h : LS w N A l) (hN : N ≤ N') : LS w N' A l := fun hne => by
  obtain ⟨b, off, e, hb, hc⟩ := h hne
  exact ⟨b, off, e, by omega, hc⟩
theorem LS.nil (w : World) (N : Nat) (A : Option Addr) : LS w N A [] := fun h => absurd rfl h
theorem bel_drew {N : Nat} {a w : World} (h : Below N a w) : Below N a w.drew := ⟨h.os, h.tape, h.output, h.size, h.block⟩
theorem bel_drewN {N : Nat} {a w : World} (h : Below N a w) (n : Nat) : Below N a (w.drewN n) := ⟨h.os, h.tape, h.output, h.size, h.block⟩
/-- A histogram as a value. -/
abbrev hV (p c s mn mx : Int) (A : Option Addr) (n k : Nat) : Value := .agg #[.int .i64 p, .int .i64 c, .int .i64 s, .int .i64 mn, .int .i64 mx, .slice A n k]
/-- Its six cells at a block. -/
def HC (w : World) (g : Nat) (p c s mn mx : Int) (A : Option Addr) (n k : Nat) : Prop :=
  w.cell? ⟨g, 0, none⟩ = some (.int .i64 p) ∧ w.cell? ⟨g, 1, none⟩ = some (.int .i64 c) ∧ w.cell? ⟨g, 2, none⟩ = some (.int .i64 s) ∧ w.cell? ⟨g, 3, none⟩ = some (.int .i64 mn) ∧ w.cell? ⟨g, 4, none⟩ = some (.int .i64 mx) ∧ w.cell? ⟨g, 5, none⟩ = some (.slice A n k)
theorem HC.new (w : World) (t : TypeId) (p c s mn mx : Int) (A : Option Addr) (n k : Nat) : HC (w.alloc (.cells #[.int .i64 p, .int .i64 c, .int .i64 s, .int .i64 mn, .int .i64 mx, .slice A n k] t)) w.heap.size p c s mn mx A n k := by
  refine ⟨?_, ?_, ?_, ?_, ?_, ?_⟩ <;> simp
theorem HC.keep {w w' : World} {g N : Nat} {p c s mn mx : Int} {A : Option Addr} {n k : Nat} (h : HC w g p c s mn mx A n k) (hg : g < N) (hb : Below N w w') : HC w' g p c s mn mx A n k := by
  obtain ⟨h0, h1, h2, h3, h4, h5⟩ := h
  exact ⟨(hb.cell (p := ⟨g, 0, none⟩) hg).trans h0, (hb.cell (p := ⟨g, 1, none⟩) hg).trans h1, (hb.cell (p := ⟨g, 2, none⟩) hg).trans h2, (hb.cell (p := ⟨g, 3, none⟩) hg).trans h3, (hb.cell (p := ⟨g, 4, none⟩) hg).trans h4, (hb.cell (p := ⟨g, 5, none⟩) hg).trans h5⟩
set_option maxHeartbeats 1000000 in
theorem great_any (p c s mn mx : Int) (A : Option Addr) (n k : Nat) (hn : n ≤ 140737488355328) (w : World) :
    Calls Try.prog 20 #[hV p c s mn mx A n k] w fun e w' => e = .returned (.bool (decide (40 < n))) ∧ Below w.heap.size w w' := by
  go_enter Try.func20, Try.ntmps20
  go_wp2
  go_ret
  refine ⟨?_, by first | exact (Below.refl _ w).alloc (Nat.le_refl _) _ | exact below_drew ((Below.refl _ w).alloc (Nat.le_refl _) _)⟩
  by_cases h : 40 < n <;> simp [h] <;> omega
end Go.Proofs.Ytffnopdpndpngaa.Lh
