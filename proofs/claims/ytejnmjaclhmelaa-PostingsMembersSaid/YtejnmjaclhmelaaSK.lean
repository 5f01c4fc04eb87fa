/- Layer 8: the program's Seek. -/
import Derived.Test.YtejnmjaclhmelaaSG
import Derived.Deep.LoopGhost
import Derived.Deep.Draws
set_option linter.unusedVariables false
set_option linter.unusedSimpArgs false
namespace Go.Proofs.Ytejnmjaclhmelaa.Po
open Go.RowKit
theorem nan1_any (x : Int) (w : World) : Calls Try.prog 63 #[.int .i64 x] w fun e w' => e = .returned (.bool false) ∧ w' = w := by
  go_enter Try.func63, Try.ntmps63
  go_wp2
  go_ret
  exact ⟨by simp, rfl⟩
theorem nan2_any (x : Int) (w : World) : Calls Try.prog 55 #[.int .i64 x] w fun e w' => e = .returned (.bool false) ∧ w' = w := by
  go_enter Try.func55, Try.ntmps55
  go_wp2
  go_ret
  exact ⟨by simp, rfl⟩
theorem less_any (x y : Int) (w : World) : Calls Try.prog 54 #[.int .i64 x, .int .i64 y] w fun e w' => e = .returned (.bool (decide (x < y))) ∧ w' = w := by
  go_enter Try.func54, Try.ntmps54
  go_wp2_with (go_at_call 63; refine (nan1_any _ _).mono ?_; rintro e w' ⟨rfl, rfl⟩)
  go_ret
  exact ⟨rfl, rfl⟩
theorem asc_at {l : List Int} (h : asc l) {a b : Nat} (hab : a ≤ b) (hb : b < l.length) : l[a]?.getD 0 ≤ l[b]?.getD 0 := by
  rw [List.getElem?_eq_getElem hb, List.getElem?_eq_getElem (show a < l.length by omega)]
  rcases Nat.eq_or_lt_of_le hab with rfl | hlt
  · exact Int.le_refl _
  · have := List.pairwise_iff_getElem.1 h a b (by omega) hb hlt
    exact Int.le_of_lt this
theorem seek_found {l : List Int} (h : asc l) {x : Int} {k : Nat} (hk : k ≤ l.length) (h1 : ∀ t, t < k → l[t]?.getD 0 < x) (h2 : ∀ t, k ≤ t → t < l.length → x ≤ l[t]?.getD 0) : seekN l x = k :=
  seekN_is h hk (fun j hj hjk => by
    have := h1 j hjk
    rwa [List.getElem?_eq_getElem hj] at this) (fun j hj hjk => by
    have := h2 j hjk hj
    rwa [List.getElem?_eq_getElem hj] at this)
set_option maxHeartbeats 4000000 in
set_option maxRecDepth 1000000 in
theorem bin_any (zs : List Int) (hl : zs.length ≤ 1000000) (hv : asc zs) (x : Int) (sv : Value) (w : World) (hI0 : Ints w.heap.size w sv zs) :
    Calls Try.prog 43 #[sv, .int .i64 x] w fun e w' => (∃ q : Bool, e = .returned (.tuple #[.int .i64 (seekN zs x : Nat), .bool q])) ∧ Below w.heap.size w w' := by
  have hI := hI0.at
  obtain ⟨a, cap, rfl, hcx⟩ := hI
  have HX := Lib.hid hcx
  clear hcx hI0
  have S := Lib.hid (fun a b => @asc_at zs hv a b)
  have SF := Lib.hid (fun k => @seek_found zs hv x k)
  obtain ⟨n, hn⟩ : ∃ n, zs.length = n := ⟨_, rfl⟩
  rw [hn] at S SF HX hl ⊢
  have HN := Lib.hid hn
  clear hn hv
  go_enter Try.func43, Try.ntmps43
  go_wp2
  go_loopg [7, 8] n (fun g s7 s8 wr => ∃ lo hi q : Nat, s7 = .int .i64 lo ∧ s8 = .int .i64 hi ∧ lo ≤ hi ∧ hi ≤ n ∧ hi - lo ≤ g ∧ wr = w.drewN q ∧ Hid (∀ t, t < lo → zs[t]?.getD 0 < x) ∧ Hid (∀ t, hi ≤ t → t < n → x ≤ zs[t]?.getD 0))
  case atStart => exact ⟨0, n, 0, rfl, rfl, Nat.zero_le _, Nat.le_refl _, by omega, rfl, Lib.hid fun t ht => absurd ht (Nat.not_lt_zero _), Lib.hid fun t h1 h2 => by omega⟩
  case round =>
    obtain ⟨lo, hi, q, rfl, rfl, hlh, hin, hg, rfl, I1, I2⟩ := hrel
    by_cases hlt : lo < hi
    · obtain ⟨b, off, rfl, hb, hc⟩ := HX.out (by intro e; have := HN.out; rw [e] at this; simp at this; omega)
      have cm : w.cell? ⟨b, off + (lo + hi) / 2, none⟩ = some (.int .i64 (zs[(lo + hi) / 2]?.getD 0)) := hc _ (by have := HN.out; omega)
      clear hc HX
      generalize hy : zs[(lo + hi) / 2]?.getD 0 = y at cm
      have Y := Lib.hid hy
      clear hy
      by_cases hyx : y < x
      · go_wp2_with (first | (go_at_call 54; refine (less_any _ _ _).mono ?_; rintro e w' ⟨rfl, rfl⟩) | (go_at_call 55; refine (nan2_any _ _).mono ?_; rintro e w' ⟨rfl, rfl⟩))
        go_roundg (hi - ((lo + hi) / 2 + 1))
        case measure => omega
        case rel =>
          refine ⟨(lo + hi) / 2 + 1, hi, _, by rw [show ((lo : Int) + (hi : Int)) / 2 + 1 = (((lo + hi) / 2 + 1 : Nat) : Int) by omega], rfl, by omega, hin, Nat.le_refl _, rfl, Lib.hid fun t ht => ?_, I2⟩
          have := S.out t ((lo + hi) / 2) (by omega) (by have := HN.out; omega)
          rw [Y.out] at this
          omega
      · go_wp2_with (first | (go_at_call 54; refine (less_any _ _ _).mono ?_; rintro e w' ⟨rfl, rfl⟩) | (go_at_call 55; refine (nan2_any _ _).mono ?_; rintro e w' ⟨rfl, rfl⟩))
        go_roundg ((lo + hi) / 2 - lo)
        case measure => omega
        case rel =>
          refine ⟨lo, (lo + hi) / 2, _, rfl, by rw [show ((lo : Int) + (hi : Int)) / 2 = (((lo + hi) / 2 : Nat) : Int) by omega], by omega, by omega, Nat.le_refl _, rfl, I1, Lib.hid fun t ht htn => ?_⟩
          have := S.out ((lo + hi) / 2) t ht (by have := HN.out; omega)
          rw [Y.out] at this
          omega
    · have : hi = lo := by omega
      subst this
      have E := Lib.hid (SF.out hi hin I1.out (by have := HN.out; intro t h1 h2; exact I2.out t h1 (by omega)))
      have HB : ∀ q', Below w.heap.size w (w.drewN q') := fun q' => below_drewP (Below.refl _ _) q'
      have HBB := Lib.hid HB
      clear HB I1 I2 S SF
      by_cases hn : hi < n
      · obtain ⟨b, off, rfl, hb, hc⟩ := HX.out (by intro e; have := HN.out; rw [e] at this; simp at this; omega)
        have cl : w.cell? ⟨b, off + hi, none⟩ = some (.int .i64 (zs[hi]?.getD 0)) := hc _ (by have := HN.out; omega)
        clear hc HX
        generalize hy : zs[hi]?.getD 0 = y at cl
        clear hy
        by_cases hyx : y = x
        · go_wp2_with (first | (go_at_call 54; refine (less_any _ _ _).mono ?_; rintro e w' ⟨rfl, rfl⟩) | (go_at_call 55; refine (nan2_any _ _).mono ?_; rintro e w' ⟨rfl, rfl⟩))
          go_ret2
          rw [E.out]
          exact ⟨⟨_, rfl⟩, HBB.out _⟩
        · go_wp2_with (first | (go_at_call 54; refine (less_any _ _ _).mono ?_; rintro e w' ⟨rfl, rfl⟩) | (go_at_call 55; refine (nan2_any _ _).mono ?_; rintro e w' ⟨rfl, rfl⟩))
          go_ret2
          rw [E.out]
          exact ⟨⟨_, rfl⟩, HBB.out _⟩
      · clear HX
        go_wp2_with (first | (go_at_call 54; refine (less_any _ _ _).mono ?_; rintro e w' ⟨rfl, rfl⟩) | (go_at_call 55; refine (nan2_any _ _).mono ?_; rintro e w' ⟨rfl, rfl⟩))
        go_ret2
        rw [E.out]
        exact ⟨⟨_, rfl⟩, HBB.out _⟩
set_option maxHeartbeats 2000000 in
theorem gSeek_any (zs : List Int) (hl : zs.length ≤ 1000000) (sv : Value) (x : Int) (w : World) (hI : Ints w.heap.size w sv zs) :
    Calls Try.prog 23 #[sv, .int .i64 x] w fun e w' => e = .returned (.int .i64 (seekO zs x : Nat)) ∧ Below w.heap.size w w' := by
  have CX := Lib.hid (gInvalid_any zs hl sv w hI)
  by_cases h0 : chk zs = 0
  · have CB : Hid (∀ v, Below w.heap.size w v → Calls Try.prog 43 #[sv, .int .i64 x] v fun e w' => (∃ q : Bool, e = .returned (.tuple #[.int .i64 (seekN zs x : Nat), .bool q])) ∧ Below v.heap.size v w') := Lib.hid fun v hb => bin_any zs hl (chk_zero.1 h0).2 x sv v (hI.onto hb)
    have HE := Lib.hid (seekO_ok (x := x) h0)
    rw [h0, show ((0 : Int) != 0) = false from rfl] at CX
    clear h0
    obtain ⟨a, ca, rfl, _⟩ := hI
    go_enter Try.func23, Try.ntmps23
    go_wp2_with fail
    refine CX.out.mono ?_
    rintro e w1 ⟨rfl, hb1⟩
    have B1 := Lib.hid hb1
    clear hb1
    go_wp2_with fail
    refine (CB.out _ B1.out).mono ?_
    rintro e w2 ⟨⟨q, rfl⟩, hb2⟩
    have B2 := Lib.hid (B1.out.trans (hb2.mono B1.out.size))
    clear hb2
    go_wp2
    go_ret
    rw [HE.out]
    exact ⟨rfl, B2.out⟩
  · have HE := Lib.hid (seekO_bad (x := x) h0)
    rw [bne_yes h0] at CX
    clear h0
    obtain ⟨a, ca, rfl, _⟩ := hI
    go_enter Try.func23, Try.ntmps23
    go_wp2_with fail
    refine CX.out.mono ?_
    rintro e w1 ⟨rfl, hb1⟩
    have B1 := Lib.hid hb1
    clear hb1
    go_wp2
    go_ret
    rw [HE.out]
    exact ⟨rfl, B1.out⟩
end Go.Proofs.Ytejnmjaclhmelaa.Po
