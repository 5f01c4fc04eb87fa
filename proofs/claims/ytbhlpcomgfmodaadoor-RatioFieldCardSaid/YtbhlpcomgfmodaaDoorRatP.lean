/- The contracts of the reference of layer 3: decimal. -/
import Derived.Test.YtbhlpcomgfmodaaDoorRatA
import Derived.Lib.ConvBytes
import Derived.Deep.RegionHeld3
set_option linter.unusedVariables false
set_option linter.unusedSimpArgs false
namespace Go.Proofs.YtbhlpcomgfmodaaDoor.Rat
open Go.RowKit

/-- The decimal digits of a number. -/
def dig (n : Nat) : UInt8 := (48 + n % 10).toUInt8
def decL (n : Nat) : List UInt8 := if h : n < 10 then [dig n] else decL (n / 10) ++ [dig n]
termination_by n
decreasing_by omega
theorem decL_small {n : Nat} (h : n < 10) : decL n = [dig n] := by rw [decL, dif_pos h]
theorem decL_big {n : Nat} (h : ¬ n < 10) : decL n = decL (n / 10) ++ [dig n] := by rw [decL, dif_neg h]
theorem dig_toNat (n : Nat) : (dig n).toNat = 48 + n % 10 := by
  unfold dig
  rw [show (48 + n % 10).toUInt8.toNat = (48 + n % 10) % 256 by simp [Nat.toUInt8, UInt8.toNat_ofNat']]
  omega
theorem conv1 (c : UInt8) (W : World) (g : Nat) (h : W.cell? ⟨g, 0, none⟩ = some (.int .u8 (c.toNat : Int))) : (convert 76 9 (.slice (some ⟨g, 0, none⟩) 1 1)).run Tryd.prog W = .ok (.string ⟨#[c]⟩) W := by
  refine run_convert_bytes_back W 76 9 5 ⟨g, 0, none⟩ 1 [c] Tryd.underlying76 Tryd.underlying5 Tryd.underlying9 fun j hj => ?_
  have hj0 : j = 0 := by simpa using hj
  subst hj0
  exact h

set_option maxHeartbeats 1000000 in
theorem decimal_small (n : Nat) (hn : n < 10) (w : World) :
    Calls Tryd.prog 41 #[.int .i64 n] w fun e w' => e = .returned (.string ⟨(decL n).toArray⟩) ∧ Below w.heap.size w w' := by
  rw [decL_small hn]
  have hc : ∀ W : World, (convert 76 9 (.slice (some ⟨W.heap.size, 0, none⟩) 1 1)).run Tryd.prog (W.alloc (.cells #[.int .u8 (48 + (n : Int))] 5)) = .ok (.string ⟨#[dig n]⟩) (W.alloc (.cells #[.int .u8 (48 + (n : Int))] 5)) := fun W => by
    refine conv1 (dig n) _ _ ?_
    rw [World.cell?_alloc_at _ _ _ _ rfl, dig_toNat]
    have e : ((48 + n % 10 : Nat) : Int) = 48 + (n : Int) := by omega
    rw [e]; rfl
  go_enter Tryd.func41, Tryd.ntmps41
  go_wp2
  go_ret
  exact ⟨rfl, (Below.refl _ _).alloc (Nat.le_refl _) _⟩

theorem decL_len : ∀ (k n : Nat), n < 10 ^ (k + 1) → (decL n).length ≤ k + 1
  | 0, n, h => by rw [decL_small (by simpa using h)]; simp
  | k + 1, n, h => by
    by_cases h1 : n < 10
    · rw [decL_small h1]; simp
    · rw [decL_big h1, List.length_append]
      have := decL_len k (n / 10) (by rw [Nat.pow_succ] at h; omega)
      simp; omega
theorem conv_after {c : UInt8} {v : Int} (hv : v = (c.toNat : Int)) {W W2 : World} (hb : Below (W.alloc (.cells #[.int .u8 v] 5)).heap.size (W.alloc (.cells #[.int .u8 v] 5)) W2) :
    (convert 76 9 (.slice (some ⟨W.heap.size, 0, none⟩) 1 1)).run Tryd.prog W2 = .ok (.string ⟨#[c]⟩) W2 := by
  refine conv1 c _ _ ?_
  rw [hb.cell (by simp), World.cell?_alloc_at _ _ _ _ rfl, hv]
  rfl
theorem conv_afterd {c : UInt8} {v : Int} (hv : v = (c.toNat : Int)) {W W2 : World} (hb : Below (W.alloc (.cells #[.int .u8 v] 5)).drew.heap.size (W.alloc (.cells #[.int .u8 v] 5)).drew W2) :
    (convert 76 9 (.slice (some ⟨W.heap.size, 0, none⟩) 1 1)).run Tryd.prog W2 = .ok (.string ⟨#[c]⟩) W2 :=
  conv_after (W := W) hv ⟨hb.os, hb.tape, hb.output, hb.size, hb.block⟩
/-- The world has grown. -/
def Gr (w W : World) : Prop := Below w.heap.size w W
theorem Gr.step {w W W2 : World} (hb : Below W.heap.size W W2) (h : Gr w W) : Gr w W2 := Below.trans h (hb.mono h.size)
theorem Gr.drew {w W : World} (h : Gr w W) : Gr w W.drew := Below.drew h
theorem Gr.alloc {w W : World} (o : Obj) (h : Gr w W) : Gr w (W.alloc o) := Below.alloc h h.size o

set_option maxHeartbeats 2000000 in
set_option maxRecDepth 100000 in
theorem decimal_any : ∀ (n : Nat), n ≤ 9223372036854775807 → ∀ (w : World),
    Calls Tryd.prog 41 #[.int .i64 n] w fun e w' => e = .returned (.string ⟨(decL n).toArray⟩) ∧ Below w.heap.size w w' := by
  intro n
  induction n using Nat.strongRecOn with
  | ind n ih =>
    intro hn w
    by_cases h10 : n < 10
    · exact decimal_small n h10 w
    · have hq := fun w => ih (n / 10) (by omega) (by omega) w
      rw [decL_big h10]
      have hl := decL_len 18 (n / 10) (by omega)
      have hms : (⟨(decL (n / 10)).toArray⟩ : ByteArray).size = (decL (n / 10)).length := by
        show (decL (n / 10)).toArray.size = _
        simp
      have hap : (⟨(decL (n / 10) ++ [dig n]).toArray⟩ : ByteArray) = ⟨(decL (n / 10)).toArray⟩ ++ ⟨#[dig n]⟩ := by
        apply ByteArray.ext
        simp
      rw [hap]
      rw [← hms] at hl
      have hd := dig_toNat n
      generalize (⟨(decL (n / 10)).toArray⟩ : ByteArray) = s1 at *
      have Q := Lib.hid hq
      have hv : (48 + ((n % 10 : Nat) : Int)) = ((dig n).toNat : Int) := by omega
      have HV := Lib.hid hv
      have hc : ∀ W : World, (convert 76 9 (.slice (some ⟨W.heap.size, 0, none⟩) 1 1)).run Tryd.prog (W.alloc (.cells #[.int .u8 (48 + ((n % 10 : Nat) : Int))] 5)) = .ok (.string ⟨#[dig n]⟩) (W.alloc (.cells #[.int .u8 (48 + ((n % 10 : Nat) : Int))] 5)) := fun W => by
        refine conv1 (dig n) _ _ ?_
        rw [World.cell?_alloc_at _ _ _ _ rfl, hv]
        rfl
      have hcd : ∀ W : World, (convert 76 9 (.slice (some ⟨W.heap.size, 0, none⟩) 1 1)).run Tryd.prog (W.alloc (.cells #[.int .u8 (48 + ((n % 10 : Nat) : Int))] 5)).drew = .ok (.string ⟨#[dig n]⟩) (W.alloc (.cells #[.int .u8 (48 + ((n % 10 : Nat) : Int))] 5)).drew := fun W => by
        refine conv1 (dig n) _ _ ?_
        show (W.alloc _).cell? _ = _
        rw [World.cell?_alloc_at _ _ _ _ rfl, hv]
        rfl
      have t1 : (n : Int).tdiv 10 = ((n / 10 : Nat) : Int) := by rw [Int.tdiv_eq_ediv_of_nonneg (by omega)]; omega
      have t2 : (n : Int).tmod 10 = ((n % 10 : Nat) : Int) := by rw [Int.tmod_eq_emod_of_nonneg (by omega)]; omega
      have hr : n % 10 < 10 := Nat.mod_lt _ (by decide)
      have hm : n / 10 ≤ n := Nat.div_le_self _ _
      clear hq hap hms ih hd hv
      generalize dig n = dg at *
      generalize n / 10 = m at *
      generalize n % 10 = r at *
      have v1 : IntKind.i64.wrap (m : Int) = m := IntWalk.i64_in _ (by omega)
      have v2 : IntKind.i64.wrap (48 + (r : Int)) = 48 + (r : Int) := IntWalk.i64_in _ (by omega)
      have v3 : IntKind.u8.wrap (48 + (r : Int)) = 48 + (r : Int) := IntWalk.u8_in _ (by omega)
      go_enter Tryd.func41, Tryd.ntmps41
      go_wp2
      go_region_with (go_at_call 41; refine (Q.out _).mono ?_; rintro e w' ⟨rfl, hb⟩; first | (have nb := conv_after HV.out hb) | (have nb := conv_afterd HV.out hb) | skip)
      all_goals go_wp2
      all_goals go_ret
      all_goals first | exact ⟨rfl, Gr.alloc _ (Gr.step hb (Gr.drew (Below.refl _ _ : Gr w w)))⟩ | exact ⟨rfl, Gr.step hb (Gr.drew (Gr.alloc _ (Below.refl _ _ : Gr w w)))⟩
end Go.Proofs.YtbhlpcomgfmodaaDoor.Rat
