/- Layer 11: where a sample stands: the program's binary search. -/
import Derived.LoopNIn
import Derived.LoopIn
import Derived.Deep.LoopGhost
import Derived.Test.YtobipbedkkmlcaaTaA
import Derived.Test.YtobipbedkkmlcaaSrV
set_option linter.unusedVariables false
set_option linter.unusedSimpArgs false
namespace Go.Proofs.Ytobipbedkkmlcaa.Sr
open Go.RowKit
def cmpI (a b : Int) : Int := if a < b then -1 else if b < a then 1 else 0
theorem cmpI_ne {a b : Int} (h : a ≠ b) : cmpI a b ≠ 0 := by
  unfold cmpI
  split
  · omega
  · rw [if_pos (by omega)]
    omega
theorem nanI_any (a : Int) (w : World) : Calls Try.prog 55 #[.int .i64 a] w fun e w' => e = .returned (.bool false) ∧ w = w' := by
  go_enter Try.func55, Try.ntmps55
  go_wp2
  go_ret
  exact ⟨ret_bool (by simp), rfl⟩
set_option maxHeartbeats 1000000 in
theorem cmpI_any (a b : Int) (w : World) : Calls Try.prog 44 #[.int .i64 a, .int .i64 b] w fun e w' => e = .returned (.int .i64 (cmpI a b)) ∧ w = w' := by
  by_cases h1 : a < b
  · have HE : Hid (cmpI a b = -1) := if_pos h1
    have e1 := decide_eq_true h1
    clear h1
    go_enter Try.func44, Try.ntmps44
    go_wp2_with (go_at_call 55; (with_reducible refine (nanI_any _ _).mono ?_); rintro e w' ⟨rfl, rfl⟩)
    go_ret
    exact ⟨ret_int HE.out.symm, rfl⟩
  · have e1 := decide_eq_false h1
    by_cases h2 : b < a
    · have HE : Hid (cmpI a b = 1) := (if_neg h1).trans (if_pos h2)
      have e2 := decide_eq_true h2
      clear h1 h2
      go_enter Try.func44, Try.ntmps44
      go_wp2_with (go_at_call 55; (with_reducible refine (nanI_any _ _).mono ?_); rintro e w' ⟨rfl, rfl⟩)
      go_ret
      exact ⟨ret_int HE.out.symm, rfl⟩
    · have HE : Hid (cmpI a b = 0) := (if_neg h1).trans (if_neg h2)
      have e2 := decide_eq_false h2
      clear h1 h2
      go_enter Try.func44, Try.ntmps44
      go_wp2_with (go_at_call 55; (with_reducible refine (nanI_any _ _).mono ?_); rintro e w' ⟨rfl, rfl⟩)
      go_ret
      exact ⟨ret_int HE.out.symm, rfl⟩
set_option maxHeartbeats 1000000 in
/-- The closure: a time held against that of a sample. -/
theorem at_any (b off bt bl c n : Nat) (A : Option Addr) (hA : A = some ⟨b, off, none⟩) (t z : Int) (k : Nat) (hk : k < n) (hn : n ≤ 100000) (W : World) (h1 : W.cell? ⟨bt, 0, none⟩ = some (.int .i64 t)) (h2 : W.cell? ⟨bl, 0, none⟩ = some (.slice A n c)) (h3 : W.cell? ⟨b, off + k * 2, none⟩ = some (.int .i64 z)) :
    Calls Try.prog 52 #[.int .i64 k, .pointer (some ⟨bt, 0, none⟩), .pointer (some ⟨bl, 0, none⟩)] W fun e w' => e = .returned (.int .i64 (cmpI t z)) ∧ ∃ q, w' = W.drewN q := by
  subst hA
  have CQ : Hid (∀ w : World, Calls Try.prog 44 #[.int .i64 t, .int .i64 z] w fun e w' => e = .returned (.int .i64 (cmpI t z)) ∧ w' = w) := Lib.hid fun w => (cmpI_any t z w).mono fun _ _ ⟨a, b⟩ => ⟨a, b.symm⟩
  go_enter Try.func52, Try.ntmps52
  go_wp2
  go_quiet ((go_at_call 44; refine Calls.quiet_of_same (CQ.out _)))
  go_wp2
  go_ret
  exact ⟨rfl, _, rfl⟩
theorem asc_at {l : List S} (h : Asc l) {i j : Nat} (hij : i ≤ j) (hj : j < l.length) : (l[i]'(by omega)).1 ≤ l[j].1 := by
  rcases Nat.lt_or_ge i j with h1 | h1
  · have := List.pairwise_iff_getElem.1 h i j (by omega) hj h1
    omega
  · obtain rfl : i = j := by omega
    exact Int.le_refl _
def tm (l : List S) (k : Nat) : Int := (l[k]?.map Prod.fst).getD 0
theorem tm_at {l : List S} {k : Nat} (h : k < l.length) : tm l k = l[k].1 := by unfold tm; rw [List.getElem?_eq_getElem h]; rfl
theorem plc_found {l : List S} (ha : Asc l) {t : Int} {k : Nat} (hk : k ≤ l.length) (h1 : ∀ i, i < k → tm l i < t) (h2 : ∀ i, k ≤ i → i < l.length → t ≤ tm l i) : plc l t = k := by
  refine plc_is hk (fun i hi y hy => ?_) (fun y hy => ?_)
  · have hl : i < l.length := by omega
    rw [List.getElem?_eq_getElem hl] at hy
    cases hy
    rw [← tm_at hl]
    exact h1 i hi
  · have hl : k < l.length := (List.getElem?_eq_some_iff.1 hy).1
    rw [List.getElem?_eq_getElem hl] at hy
    cases hy
    rw [← tm_at hl]
    exact h2 k (Nat.le_refl _) hl
theorem LS.tm {w : World} {B : Nat} {A : Option Addr} {l : List S} (h : LS w B A l) {k : Nat} (hk : k < l.length) : ∃ b off, A = some ⟨b, off, none⟩ ∧ w.cell? ⟨b, off + k * 2, none⟩ = some (.int .i64 (tm l k)) := by
  obtain ⟨b, off, e, hb, h1, h2⟩ := h.at_ hk
  exact ⟨b, off, e, by rw [tm_at hk]; exact h1⟩
set_option maxHeartbeats 4000000 in
set_option maxRecDepth 1000000 in
theorem bin_any (l : List S) (hl : l.length ≤ 100000) (ha : Asc l) (t : Int) (A : Option Addr) (c B bt bl : Nat) (W : World) (h1 : W.cell? ⟨bt, 0, none⟩ = some (.int .i64 t)) (h2 : W.cell? ⟨bl, 0, none⟩ = some (.slice A l.length c)) (hL : LS W B A l) :
    Calls Try.prog 51 #[.int .i64 l.length, .func (.func 52) #[] #[.pointer (some ⟨bt, 0, none⟩), .pointer (some ⟨bl, 0, none⟩)]] W fun e w' => e = .returned (.tuple #[.int .i64 (plc l t : Nat), .bool (hit l t).isSome]) ∧ ∃ q, w' = W.drewN q := by
  obtain ⟨n, hn⟩ : ∃ n, l.length = n := ⟨_, rfl⟩
  have C : Hid (∀ (k q : Nat), k < n → Calls Try.prog 52 #[.int .i64 k, .pointer (some ⟨bt, 0, none⟩), .pointer (some ⟨bl, 0, none⟩)] (W.drewN q) fun e w' => e = .returned (.int .i64 (cmpI t (tm l k))) ∧ ∃ q', w' = (W.drewN q).drewN q') := Lib.hid fun k q hk => by
    obtain ⟨b, off, e, h3⟩ := hL.tm (k := k) (by omega)
    exact at_any b off bt bl c n A e t _ k hk (by omega) _ h1 (by rw [← hn]; exact h2) h3
  have S := Lib.hid (fun i j (hij : i ≤ j) (hj : j < n) => by
    have h := asc_at ha (i := i) (j := j) hij (by omega)
    rw [← tm_at (by omega), ← tm_at (by omega)] at h
    exact h)
  have SF : Hid (∀ k, k ≤ n → (∀ i, i < k → tm l i < t) → (∀ i, k ≤ i → i < n → t ≤ tm l i) → plc l t = k) := Lib.hid fun k hk h1 h2 => plc_found ha (by omega) h1 (fun i h3 h4 => h2 i h3 (by omega))
  have HE : Hid (plc l t = n → (hit l t).isSome = false) := Lib.hid fun h => by rw [hit_end (by omega)]; rfl
  have HY : Hid (∀ k, plc l t = k → k < n → tm l k = t → (hit l t).isSome = true) := Lib.hid fun k h hk e => by
    have hk' : k < l.length := by omega
    rw [tm_at hk'] at e
    rw [hit_at h hk' e]
    rfl
  have HN : Hid (∀ k, plc l t = k → k < n → tm l k ≠ t → (hit l t).isSome = false) := Lib.hid fun k h hk e => by
    have hk' : k < l.length := by omega
    rw [tm_at hk'] at e
    rw [hit_not h hk' e]
    rfl
  rw [hn]
  have hn2 : n ≤ 100000 := by omega
  clear h1 h2 hL ha hn hl
  generalize plc l t = P at *
  generalize (hit l t).isSome = H at *
  generalize tm l = f at *
  go_enter Try.func51, Try.ntmps51
  go_wp2
  go_loopg [4, 6] n (fun g s4 s6 wr => ∃ lo hi q : Nat, s4 = .int .i64 lo ∧ s6 = .int .i64 hi ∧ lo ≤ hi ∧ hi ≤ n ∧ hi - lo ≤ g ∧ wr = W.drewN q ∧ Hid (∀ i, i < lo → f i < t) ∧ Hid (∀ i, hi ≤ i → i < n → t ≤ f i))
  case atStart => exact ⟨0, n, 0, rfl, rfl, Nat.zero_le _, Nat.le_refl _, by omega, rfl, Lib.hid fun t ht => absurd ht (Nat.not_lt_zero _), Lib.hid fun t h1 h2 => by omega⟩
  case round =>
    obtain ⟨lo, hi, q, rfl, rfl, hlh, hin, hg, rfl, I1, I2⟩ := hrel
    by_cases hlt : lo < hi
    · have CK := Lib.hid (C.out ((lo + hi) / 2) q (by omega))
      rw [show (((lo + hi) / 2 : Nat) : Int) = ((lo : Int) + (hi : Int)) / 2 by omega] at CK
      by_cases hyx : f ((lo + hi) / 2) < t
      · have hcmp : cmpI t (f ((lo + hi) / 2)) = 1 := (if_neg (by omega)).trans (if_pos hyx)
        rw [hcmp] at CK
        have HYX := Lib.hid hyx
        clear hcmp hyx C
        go_wp2_with (go_at_call 52; (with_reducible refine (CK.out).mono ?_); rintro e w' ⟨rfl, q', rfl⟩)
        go_roundg (hi - ((lo + hi) / 2 + 1))
        case measure => omega
        case rel =>
          refine ⟨(lo + hi) / 2 + 1, hi, _, by rw [show ((lo : Int) + (hi : Int)) / 2 + 1 = (((lo + hi) / 2 + 1 : Nat) : Int) by omega], rfl, by omega, hin, Nat.le_refl _, rfl, Lib.hid fun i hi' => ?_, I2⟩
          have := S.out i ((lo + hi) / 2) (by omega) (by omega)
          have := HYX.out
          omega
      · have hcmp : ¬ 0 < cmpI t (f ((lo + hi) / 2)) := by
          unfold cmpI
          rw [if_neg hyx]
          split <;> omega
        have HYX := Lib.hid hyx
        generalize cmpI t (f ((lo + hi) / 2)) = cz at *
        clear hyx C
        go_wp2_with (go_at_call 52; (with_reducible refine (CK.out).mono ?_); rintro e w' ⟨rfl, q', rfl⟩)
        go_roundg ((lo + hi) / 2 - lo)
        case measure => omega
        case rel =>
          refine ⟨lo, (lo + hi) / 2, _, rfl, by rw [show ((lo : Int) + (hi : Int)) / 2 = (((lo + hi) / 2 : Nat) : Int) by omega], by omega, by omega, Nat.le_refl _, rfl, I1, Lib.hid fun i hi' htn => ?_⟩
          have := S.out ((lo + hi) / 2) i hi' htn
          have := HYX.out
          omega
    · have : hi = lo := by omega
      subst this
      have E := Lib.hid (SF.out hi hin I1.out I2.out)
      clear I1 I2 S SF
      by_cases hn : hi < n
      · have CK := Lib.hid (C.out hi q hn)
        by_cases hyx : f hi = t
        · have hcmp : cmpI t (f hi) = 0 := by unfold cmpI; rw [if_neg (by omega), if_neg (by omega)]
          have HF := Lib.hid (HY.out hi E.out hn hyx)
          rw [hcmp] at CK
          clear hcmp hyx C HE HY HN
          go_wp2_with (go_at_call 52; (with_reducible refine (CK.out).mono ?_); rintro e w' ⟨rfl, q', rfl⟩)
          go_ret2
          rw [E.out, HF.out]
          exact ⟨rfl, _, rfl⟩
        · have hcmp : cmpI t (f hi) ≠ 0 := cmpI_ne (fun e => hyx e.symm)
          have hcz : (cmpI t (f hi) == 0) = false := by rw [beq_eq_false_iff_ne]; exact hcmp
          have HF := Lib.hid (HN.out hi E.out hn hyx)
          generalize cmpI t (f hi) = cz at *
          clear hcmp hyx C HE HY HN
          go_wp2_with (go_at_call 52; (with_reducible refine (CK.out).mono ?_); rintro e w' ⟨rfl, q', rfl⟩)
          go_ret2
          rw [E.out, HF.out]
          exact ⟨rfl, _, rfl⟩
      · obtain rfl : hi = n := by omega
        have HF := Lib.hid (HE.out E.out)
        clear C HE HY HN
        go_wp2
        go_ret2
        rw [E.out, HF.out]
        exact ⟨rfl, _, rfl⟩
set_option maxHeartbeats 1000000 in
theorem find_any (l : List S) (hl : l.length ≤ 100000) (ha : Asc l) (t : Int) (A : Option Addr) (c : Nat) (w : World) (hL : LS w w.heap.size A l) :
    Calls Try.prog 40 #[.slice A l.length c, .int .i64 t] w fun e w' => e = .returned (.tuple #[.int .i64 (plc l t : Nat), .bool (hit l t).isSome]) ∧ Below w.heap.size w w' := by
  have B0 : Hid (∀ o1 o2 q, Below w.heap.size w (((w.alloc o1).alloc o2).drewN q)) := Lib.hid fun o1 o2 q => below_drewN (((Below.refl _ w).alloc (Nat.le_refl _) o1).alloc (by simp) o2) q
  have hW : ∀ W, W = (w.alloc (.cells #[.slice A l.length c] 22)).alloc (.cells #[.int .i64 t] 3) → Calls Try.prog 51 #[.int .i64 l.length, .func (.func 52) #[] #[.pointer (some ⟨w.heap.size + 1, 0, none⟩), .pointer (some ⟨w.heap.size, 0, none⟩)]] W fun e w' => e = .returned (.tuple #[.int .i64 (plc l t : Nat), .bool (hit l t).isSome]) ∧ ∃ q, w' = W.drewN q := by
    intro W hW
    refine bin_any l hl ha t A c w.heap.size _ _ W ?_ ?_ ?_
    · subst hW; go_simp
    · subst hW; go_simp
    · subst hW; exact hL.below (B0.out _ _ 0)
  have CF := Lib.hid (hW _ rfl)
  clear hW hL
  go_enter Try.func40, Try.ntmps40
  go_wp2_with (go_at_call 51; (with_reducible refine CF.out.mono ?_); rintro e w' ⟨rfl, q, rfl⟩)
  go_ret2
  exact ⟨rfl, B0.out _ _ _⟩
end Go.Proofs.Ytobipbedkkmlcaa.Sr
