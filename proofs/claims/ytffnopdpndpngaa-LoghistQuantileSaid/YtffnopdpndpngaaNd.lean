/- Layer 12: the laws' few and rank. -/
import Derived.Test.YtffnopdpndpngaaNb
set_option linter.unusedVariables false
set_option linter.unusedSimpArgs false
namespace Go.Proofs.Ytffnopdpndpngaa.Lh
open Go.RowKit
theorem ret_bool {a b : Bool} (h : a = b) : Ending.returned (.bool a) = Ending.returned (.bool b) := by rw [h]
def badI (x : Int) : Bool := decide (x < 0) || decide (1099511627776 < x)
def FoundI (l : List Int) (k : Int) : Prop := 0 ≤ k ↔ l.any badI = true
theorem FoundI.yes {l : List Int} {k : Nat} {x : Int} (h : x ∈ l) (h2 : badI x = true) : FoundI l (k : Int) := ⟨fun _ => List.any_eq_true.2 ⟨_, h, h2⟩, fun _ => by omega⟩
theorem FoundI.no {l : List Int} (h : l.any badI = false) : FoundI l (-1) := ⟨fun h => absurd h (by decide), fun h2 => by rw [h] at h2; cases h2⟩
def fewB (l : List Int) : Bool := decide (l.length ≤ 20) && !(l.any badI)
theorem few_val {l : List Int} (h : fewB l = true) : l.length ≤ 20 ∧ Val l := by
  unfold fewB at h
  rw [Bool.and_eq_true, decide_eq_true_eq] at h
  refine ⟨h.1, fun v hv => ?_⟩
  have h2 := List.any_eq_false.1 (by simpa using h.2 : l.any badI = false) v hv
  unfold badI at h2
  simp only [Bool.or_eq_true, decide_eq_true_eq, not_or] at h2
  omega
theorem bad_any (x : Int) (w : World) : Calls Try.prog 58 #[.int .i64 x] w fun e w' => e = .returned (.bool (badI x)) ∧ w = w' := by
  by_cases h1 : x < 0
  · have HE : Hid (badI x = true) := by show _ = _; unfold badI; rw [decide_eq_true h1, Bool.true_or]
    go_enter Try.func58, Try.ntmps58
    go_wp2
    go_ret
    rw [HE.out]
    exact ⟨rfl, rfl⟩
  · have HE : Hid (badI x = decide (1099511627776 < x)) := by show _ = _; unfold badI; rw [decide_eq_false h1, Bool.false_or]
    go_enter Try.func58, Try.ntmps58
    go_wp2
    go_ret
    rw [HE.out]
    exact ⟨rfl, rfl⟩
set_option maxHeartbeats 2000000 in
set_option maxRecDepth 100000 in
theorem findI_any (l : List Int) (hl : l.length ≤ 1000000) (A : Option Addr) (c : Nat) (w : World) (hI : LI w w.heap.size A l) :
    Calls Try.prog 81 #[.slice A l.length c, .func (.func 58) #[] #[]] w fun e w' => (∃ k : Int, e = .returned (.int .i64 k) ∧ FoundI l k ∧ -1 ≤ k) ∧ w = w' := by
  have HX := Lib.hid hI
  clear hI
  go_enter Try.func81, Try.ntmps81
  go_wp2
  go_loop [8] (fun vi => ∃ k : Nat, k ≤ l.length ∧ vi = .int .i64 k ∧ Hid (∀ j (h : j < l.length), j < k → badI l[j] = false)) (fun vi => l.length - (intOf vi).toNat)
  case atStart => exact ⟨0, Nat.zero_le _, rfl, Lib.hid (fun j _ h => by omega)⟩
  case round =>
    obtain ⟨k, hk, rfl, HP⟩ := hrel
    by_cases hlt : k < l.length
    · obtain ⟨b, o, rfl, hb, hcell⟩ := HX.out.at_ hlt
      have hi : (k : Int) < l.length := by omega
      have HM : Hid (l[k] ∈ l) := Lib.hid (List.getElem_mem hlt)
      have HC := Lib.hid (bad_any l[k] w)
      cases hz : badI l[k] with
      | false =>
        have HP2 : Hid (∀ j (h : j < l.length), j < k + 1 → badI l[j] = false) := Lib.hid fun j h hj => by
          by_cases e : j = k
          · subst e; exact hz
          · exact HP.out j h (by omega)
        rw [hz] at HC
        generalize l[k] = x at *
        clear hz HP
        go_wp2_with fail
        refine HC.out.mono ?_
        rintro e w1 ⟨rfl, rfl⟩
        go_wp2
        go_round
        case rel => exact ⟨k + 1, by omega, by go_num, HP2⟩
        case measure => simp [intOf]; omega
      | true =>
        have HF : Hid (FoundI l (k : Int)) := Lib.hid (FoundI.yes HM.out hz)
        rw [hz] at HC
        generalize l[k] = x at *
        clear hz HP
        go_wp2_with fail
        refine HC.out.mono ?_
        rintro e w1 ⟨rfl, rfl⟩
        go_wp2
        go_ret
        exact ⟨⟨k, rfl, HF.out, by omega⟩, rfl⟩
    · have HF : Hid (FoundI l (-1)) := Lib.hid (FoundI.no (List.any_eq_false.2 fun x hx => by
        obtain ⟨j, hj, rfl⟩ := List.mem_iff_getElem.1 hx
        rw [HP.out j hj (by omega)]
        simp))
      clear HP
      go_wp2
      go_ret
      exact ⟨⟨-1, rfl, HF.out, by decide⟩, rfl⟩
set_option maxHeartbeats 2000000 in
theorem anyI_any (l : List Int) (hl : l.length ≤ 1000000) (A : Option Addr) (c : Nat) (w : World) (hI : LI w w.heap.size A l) :
    Calls Try.prog 57 #[.slice A l.length c, .func (.func 58) #[] #[]] w fun e w' => e = .returned (.bool (l.any badI)) ∧ w = w' := by
  have HM := Lib.hid (findI_any l hl A c w hI)
  go_enter Try.func57, Try.ntmps57
  go_wp2_with fail
  refine HM.out.mono ?_
  rintro e w4 ⟨⟨k, rfl, hk, hk1⟩, rfl⟩
  have HK := Lib.hid hk
  clear hk
  go_wp2
  go_ret
  exact ⟨ret_bool (Bool.eq_iff_iff.2 (by rw [decide_eq_true_iff]; exact HK.out)), rfl⟩
set_option maxHeartbeats 2000000 in
theorem few_any (l : List Int) (A : Option Addr) (c : Nat) (w : World) (hI : LI w w.heap.size A l) :
    Calls Try.prog 34 #[.slice A l.length c] w fun e w' => e = .returned (.bool (fewB l)) ∧ Below w.heap.size w w' := by
  by_cases h : l.length ≤ 20
  · have HM := Lib.hid (anyI_any l (by omega) A c w hI)
    have HE : Hid (fewB l = !(l.any badI)) := by show _ = _; unfold fewB; rw [decide_eq_true h, Bool.true_and]
    generalize l.any badI = z at *
    have h1 : (l.length : Int) ≤ 20 := by omega
    go_enter Try.func34, Try.ntmps34
    go_wp2_with fail
    refine HM.out.mono ?_
    rintro e w4 ⟨rfl, rfl⟩
    go_wp2
    go_ret
    rw [HE.out]
    exact ⟨rfl, Below.refl _ _⟩
  · have HE : Hid (fewB l = false) := by show _ = _; unfold fewB; rw [decide_eq_false h, Bool.false_and]
    have h1 : ¬ (l.length : Int) ≤ 20 := by omega
    go_enter Try.func34, Try.ntmps34
    go_wp2
    go_ret
    rw [HE.out]
    exact ⟨rfl, Below.refl _ _⟩
/-- What rank takes. -/
def RkOk (n d : Int) : Prop := Rat.chk n d ∧ 0 ≤ n ∧ n ≤ d ∧ d ≤ 1073741824
instance (n d : Int) : Decidable (RkOk n d) := by unfold RkOk; infer_instance
theorem rank_tdiv {n d c : Int} (hd : 0 < d) (h0 : 0 ≤ n) (hc : 0 ≤ c) : (n * c + d - 1).tdiv d = (n * c + d - 1) / d := by
  have := Int.mul_nonneg h0 hc
  exact Int.tdiv_eq_ediv_of_nonneg (by omega)
set_option maxHeartbeats 4000000 in
theorem rank_any (n d c : Int) (hn : inI n) (hd : inI d) (w : World) :
    Calls Try.prog 33 #[.agg #[.int .i64 n, .int .i64 d], .int .i64 c] w fun e w' => (∃ r : Int, e = .returned (.tuple #[.int .i64 r, .bool (decide (RkOk n d))]) ∧ (RkOk n d → 0 ≤ c → c ≤ 1048576 → r = rankN n d c)) ∧ Below w.heap.size w w' := by
  have CK := Lib.hid (fun w => Rat.check_any n d w hn hd)
  unfold Rat.rat at CK
  have B0 : Hid (Below w.heap.size w (w.alloc (.cells #[.int .i64 n, .int .i64 d] 42))) := (Below.refl _ w).alloc (Nat.le_refl _) _
  have X0 : Hid ((w.alloc (.cells #[.int .i64 n, .int .i64 d] 42)).cell? ⟨w.heap.size, 0, none⟩ = some (.int .i64 n) ∧ (w.alloc (.cells #[.int .i64 n, .int .i64 d] 42)).cell? ⟨w.heap.size, 1, none⟩ = some (.int .i64 d)) := ⟨by simp, by simp⟩
  by_cases h1 : Rat.chk n d
  · simp only [if_pos h1] at CK
    have hd1 := h1.1.1
    have hd0 : ¬ d = 0 := by omega
    by_cases h2 : n < 0
    · have hno : ¬ RkOk n d := fun h => by have := h.2.1; omega
      rw [decide_eq_false (show ¬ RkOk n d from hno)]
      refine (?_ : Calls _ _ _ _ (fun e w' => (e = .returned (.tuple #[.int .i64 0, .bool false])) ∧ Below w.heap.size w w')).mono fun e w' h => ⟨⟨0, h.1, fun h2 => absurd h2 (hno)⟩, h.2⟩
      go_enter Try.func33, Try.ntmps33
      go_wp2_with (go_at_call 52; (with_reducible refine (CK.out _).mono ?_); rintro e w2 ⟨rfl, hb⟩; have HB := Lib.hid (B0.out.trans (hb.mono B0.out.size)); have x0 := (hb.cell (p := ⟨w.heap.size, 0, none⟩) (by simp)).trans X0.out.1; have x1 := (hb.cell (p := ⟨w.heap.size, 1, none⟩) (by simp)).trans X0.out.2; clear hb)
      go_ret2
      exact ⟨rfl, HB.out⟩
    by_cases h3 : d < n
    · have hno : ¬ RkOk n d := fun h => by have := h.2.2.1; omega
      rw [decide_eq_false (show ¬ RkOk n d from hno)]
      refine (?_ : Calls _ _ _ _ (fun e w' => (e = .returned (.tuple #[.int .i64 0, .bool false])) ∧ Below w.heap.size w w')).mono fun e w' h => ⟨⟨0, h.1, fun h2 => absurd h2 (hno)⟩, h.2⟩
      go_enter Try.func33, Try.ntmps33
      go_wp2_with (go_at_call 52; (with_reducible refine (CK.out _).mono ?_); rintro e w2 ⟨rfl, hb⟩; have HB := Lib.hid (B0.out.trans (hb.mono B0.out.size)); have x0 := (hb.cell (p := ⟨w.heap.size, 0, none⟩) (by simp)).trans X0.out.1; have x1 := (hb.cell (p := ⟨w.heap.size, 1, none⟩) (by simp)).trans X0.out.2; clear hb)
      go_ret2
      exact ⟨rfl, HB.out⟩
    by_cases h4 : 1073741824 < d
    · have hno : ¬ RkOk n d := fun h => by have := h.2.2.2; omega
      rw [decide_eq_false (show ¬ RkOk n d from hno)]
      refine (?_ : Calls _ _ _ _ (fun e w' => (e = .returned (.tuple #[.int .i64 0, .bool false])) ∧ Below w.heap.size w w')).mono fun e w' h => ⟨⟨0, h.1, fun h2 => absurd h2 (hno)⟩, h.2⟩
      go_enter Try.func33, Try.ntmps33
      go_wp2_with (go_at_call 52; (with_reducible refine (CK.out _).mono ?_); rintro e w2 ⟨rfl, hb⟩; have HB := Lib.hid (B0.out.trans (hb.mono B0.out.size)); have x0 := (hb.cell (p := ⟨w.heap.size, 0, none⟩) (by simp)).trans X0.out.1; have x1 := (hb.cell (p := ⟨w.heap.size, 1, none⟩) (by simp)).trans X0.out.2; clear hb)
      go_ret2
      exact ⟨rfl, HB.out⟩
    have hok : RkOk n d := ⟨h1, by omega, by omega, by omega⟩
    rw [decide_eq_true hok]
    by_cases h5 : 0 ≤ c ∧ c ≤ 1048576
    · have ha := Int.mul_nonneg (show 0 ≤ n by omega) h5.1
      have hb : n * c ≤ 1073741824 * 1048576 := Int.mul_le_mul (by omega) h5.2 h5.1 (by omega)
      have HR : Hid (max 1 ((n * c + d - 1).tdiv d) = rankN n d c) := by show _ = _; rw [rank_tdiv (by omega) (by omega) h5.1, rankN_ceil (by omega)]
      have hq : 0 ≤ (n * c + d - 1).tdiv d ∧ (n * c + d - 1).tdiv d ≤ 1125899906842624 + d := by
        rw [rank_tdiv (by omega) (by omega) h5.1]
        have e1 := Int.ediv_nonneg (show 0 ≤ n * c + d - 1 by omega) (show 0 ≤ d by omega)
        have e2 : (n * c + d - 1) / d ≤ n * c + d - 1 := Int.ediv_le_self _ (by omega)
        omega
      refine (?_ : Calls _ _ _ _ (fun e w' => (e = .returned (.tuple #[.int .i64 (max 1 ((n * c + d - 1).tdiv d)), .bool true])) ∧ Below w.heap.size w w')).mono fun e w' h => ⟨⟨_, h.1, fun _ _ _ => HR.out⟩, h.2⟩
      generalize hz : n * c = z at *
      have w1 : wrap64 z = z := by unfold wrap64; omega
      have w2 : wrap64 (z + d) = z + d := by unfold wrap64; omega
      have w3 : wrap64 (z + d - 1) = z + d - 1 := by unfold wrap64; omega
      have w4 : wrap64 ((z + d - 1).tdiv d) = (z + d - 1).tdiv d := by unfold wrap64; omega
      clear HR h1 hok
      go_enter Try.func33, Try.ntmps33
      go_wp2_with (go_at_call 52; (with_reducible refine (CK.out _).mono ?_); rintro e w2 ⟨rfl, hb⟩; have HB := Lib.hid (B0.out.trans (hb.mono B0.out.size)); have x0 := (hb.cell (p := ⟨w.heap.size, 0, none⟩) (by simp)).trans X0.out.1; have x1 := (hb.cell (p := ⟨w.heap.size, 1, none⟩) (by simp)).trans X0.out.2; clear hb)
      go_ret2
      exact ⟨rfl, HB.out⟩
    · refine (?_ : Calls _ _ _ _ (fun e w' => (∃ r : Int, e = .returned (.tuple #[.int .i64 r, .bool true])) ∧ Below w.heap.size w w')).mono fun e w' h => ⟨h.1.elim fun r hr => ⟨r, hr, fun _ g1 g2 => absurd ⟨g1, g2⟩ h5⟩, h.2⟩
      clear h1 hok
      go_enter Try.func33, Try.ntmps33
      go_wp2_with (go_at_call 52; (with_reducible refine (CK.out _).mono ?_); rintro e w2 ⟨rfl, hb⟩; have HB := Lib.hid (B0.out.trans (hb.mono B0.out.size)); have x0 := (hb.cell (p := ⟨w.heap.size, 0, none⟩) (by simp)).trans X0.out.1; have x1 := (hb.cell (p := ⟨w.heap.size, 1, none⟩) (by simp)).trans X0.out.2; clear hb)
      go_ret2
      exact ⟨⟨_, rfl⟩, HB.out⟩
  · simp only [if_neg h1] at CK
    have hno : ¬ RkOk n d := fun h => h1 h.1
    rw [decide_eq_false (show ¬ RkOk n d from hno)]
    refine (?_ : Calls _ _ _ _ (fun e w' => (e = .returned (.tuple #[.int .i64 0, .bool false])) ∧ Below w.heap.size w w')).mono fun e w' h => ⟨⟨0, h.1, fun h2 => absurd h2 (hno)⟩, h.2⟩
    go_enter Try.func33, Try.ntmps33
    go_wp2_with (go_at_call 52; (with_reducible refine (CK.out _).mono ?_); rintro e w2 ⟨rfl, hb⟩; have HB := Lib.hid (B0.out.trans (hb.mono B0.out.size)); have x0 := (hb.cell (p := ⟨w.heap.size, 0, none⟩) (by simp)).trans X0.out.1; have x1 := (hb.cell (p := ⟨w.heap.size, 1, none⟩) (by simp)).trans X0.out.2; clear hb)
    go_ret2
    exact ⟨rfl, HB.out⟩
end Go.Proofs.Ytffnopdpndpngaa.Lh
