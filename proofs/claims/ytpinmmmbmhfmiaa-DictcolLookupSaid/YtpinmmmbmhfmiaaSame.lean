/- The contracts of slices.Equal and Same: two lists of numbers compared. -/
import Derived.Test.YtpinmmmbmhfmiaaEnc
import Derived.Deep.QuietTactic
import Derived.BigQuiet
namespace Go.Proofs.Ytpinmmmbmhfmiaa
open Go.RowKit

/-- Whether two lists are equal, as a Bool that the walk doesn't open. -/
def sameB (xs ys : List Int) : Bool := decide (xs = ys)
theorem sameB_len {xs ys : List Int} (h : xs.length ≠ ys.length) : sameB xs ys = false := decide_eq_false (fun e => h (by rw [e]))
theorem sameB_at {xs ys : List Int} {k : Nat} (h : xs[k]?.getD 0 ≠ ys[k]?.getD 0) : sameB xs ys = false := decide_eq_false (fun e => h (by rw [e]))
theorem sameB_all {xs ys : List Int} (hl : xs.length = ys.length) (h : ∀ j, j < xs.length → xs[j]?.getD 0 = ys[j]?.getD 0) : sameB xs ys = true :=
  decide_eq_true (List.ext_getElem hl (fun j h1 h2 => by have := h j h1; simpa [List.getElem?_eq_getElem h1, List.getElem?_eq_getElem h2] using this))

theorem below_drewN {B : Nat} {a w : World} (h : Below B a w) (n : Nat) : Below B a (w.drewN n) := ⟨h.os, h.tape, h.output, h.size, h.block⟩

set_option maxHeartbeats 1000000 in
set_option maxRecDepth 100000 in
theorem same_any (n₀ : Nat) (xs ys : List Int) (hx : xs.length ≤ 20000) (sx sy : Value) (w : World) (hn : n₀ ≤ w.heap.size) (hX : IntsAt n₀ w sx xs) (hY : IntsAt n₀ w sy ys) :
    Calls Try.prog 26 #[sx, sy] w fun e w' => e = .returned (.bool (sameB xs ys)) ∧ Below w.heap.size w w' := by
  obtain ⟨a, cap, rfl, hcx⟩ := hX
  obtain ⟨b, cap2, rfl, hcy⟩ := hY
  have HX := Lib.hid hcx
  have HY := Lib.hid hcy
  clear hcx hcy
  by_cases hlen : xs.length = ys.length
  · have hne : ((xs.length : Int) != ys.length) = false := by rw [hlen]; simp
    have HL := Lib.hid hlen
    have hle1 : xs.length ≤ ys.length := by omega
    have hle2 : ys.length ≤ xs.length := by omega
    clear hlen
    go_enter Try.func26, Try.ntmps26
    go_wp2
    go_loopw [5] (fun vi wr => ∃ k : Nat, k ≤ xs.length ∧ vi = .int .i64 k ∧ (∀ j, j < k → xs[j]?.getD 0 = ys[j]?.getD 0) ∧ Below w.heap.size w wr)
      (fun vi _ => xs.length - (intOf vi).toNat)
    case atStart => exact ⟨0, Nat.zero_le _, rfl, by omega, Below.refl _ _⟩
    case round =>
      obtain ⟨k, hk, rfl, hp, hB⟩ := hrel
      have HP := Lib.hid hp
      have HB := Lib.hid hB
      clear hp hB
      by_cases hlt : k < xs.length
      · obtain ⟨b1, o1, rfl, hb1, hc1⟩ := HX.out (List.ne_nil_of_length_pos (by omega))
        obtain ⟨b2, o2, rfl, hb2, hc2⟩ := HY.out (List.ne_nil_of_length_pos (by omega))
        have hcell1 := (HB.out.cell (p := ⟨b1, o1 + k, none⟩) (by simp; omega)).trans (hc1 k hlt)
        have hcell2 := (HB.out.cell (p := ⟨b2, o2 + k, none⟩) (by simp; omega)).trans (hc2 k (by omega))
        have HE := fun h => @sameB_at xs ys k h
        have HQ : ∀ j, j < k + 1 → xs[j]?.getD 0 = ys[j]?.getD 0 ∨ j = k := fun j hj => if h : j < k then .inl (HP.out j h) else .inr (by omega)
        generalize hxx : xs[k]?.getD 0 = x at *
        generalize hyy : ys[k]?.getD 0 = y at *
        have HE2 := Lib.hid HE
        have HQ2 := Lib.hid HQ
        have Hx := Lib.hid hxx
        have Hy := Lib.hid hyy
        have hi1 : (k : Int) < xs.length := by omega
        have hi2 : (k : Int) < ys.length := by omega
        clear HE HQ hc1 hc2 hxx hyy HX HY HL
        by_cases hxy : x = y
        · have hne2 : (x != y) = false := by rw [hxy]; simp
          have Hxy := Lib.hid hxy
          clear hxy
          go_wp2
          go_quiet (fail)
          go_wp2
          go_roundw
          case rel =>
            refine ⟨k + 1, by omega, by go_num, fun j hj => ?_, below_drewN HB.out _⟩
            rcases HQ2.out j hj with h | rfl
            · exact h
            · rw [Hx.out, Hy.out, Hxy.out]
          case measure => simp [intOf]; omega
        · have hne2 : (x != y) = true := by rw [bne_iff_ne]; exact hxy
          have HE3 := Lib.hid (HE2.out hxy)
          clear hxy
          go_wp2
          go_quiet (fail)
          go_wp2
          go_ret
          exact ⟨by rw [HE3.out]; rfl, below_drewN HB.out _⟩
      · have HE3 := Lib.hid (sameB_all HL.out (fun j hj => HP.out j (by omega)))
        clear HX HY HL HP
        go_wp2
        go_ret
        exact ⟨by rw [HE3.out]; rfl, HB.out⟩
  · have hne : ((xs.length : Int) != ys.length) = true := by rw [bne_iff_ne]; omega
    have HE3 := Lib.hid (sameB_len hlen)
    clear hlen
    go_enter Try.func26, Try.ntmps26
    go_wp2
    go_ret
    exact ⟨by rw [HE3.out]; rfl, Below.refl _ _⟩
end Go.Proofs.Ytpinmmmbmhfmiaa
