/- Layer 12: the reference's Same and New. -/
import Derived.Laws.StructEq
import Derived.Deep.QuietTactic
import Derived.Deep.RegionWith
import Derived.BigQuiet
import Derived.Test.YtffnopdpndpngaaMx
set_option linter.unusedVariables false
set_option linter.unusedSimpArgs false
namespace Go.Proofs.Ytffnopdpndpngaa.Lh
open Go.RowKit
theorem neq_bkt (a b c d : Int) (w : World) : (binOp .neq 65 (.agg #[.int .i64 a, .int .i64 b]) (.agg #[.int .i64 c, .int .i64 d])).run Try.prog w = .ok (.bool (!(a == c && b == d))) w := by
  have u3 := Try.underlying3
  have hS : Try.prog.underlying 65 = some (.struct (Try.prog.fieldsOf 65)) := by kernel_rfl
  have hp : Try.prog.stoodInHeld 65 = false := by kernel_rfl
  rw [run_neq_struct, show (10000 : Nat) = 9999 + 1 from rfl, run_equalIn_agg w 9999 65 _ _ hS hp]
  simp only [Program.fieldsOf, Try.underlying65]
  go_simp
  by_cases h1 : a = c <;> by_cases h2 : b = d <;> simp [h1, h2]
set_option maxHeartbeats 4000000 in
/-- Equal histograms. -/
theorem same_any (G : H) (hn : G.bs.length ≤ 100000) (A1 A2 : Option Addr) (c1 c2 : Nat) (w : World) (h1 : LS w w.heap.size A1 G.bs) (h2 : LS w w.heap.size A2 G.bs) :
    Calls Try.prog 18 #[hV G.p G.c G.s G.mn G.mx A1 G.bs.length c1, hV G.p G.c G.s G.mn G.mx A2 G.bs.length c2] w fun e w' => e = .returned (.bool true) ∧ Below w.heap.size w w' := by
  obtain ⟨p, c, s, mn, mx, l⟩ := G
  dsimp only at hn h1 h2 ⊢
  obtain ⟨W1, hW1⟩ : ∃ W1, W1 = (w.alloc (.cells #[.int .i64 p, .int .i64 c, .int .i64 s, .int .i64 mn, .int .i64 mx, .slice A1 l.length c1] 29)).alloc (.cells #[.int .i64 p, .int .i64 c, .int .i64 s, .int .i64 mn, .int .i64 mx, .slice A2 l.length c2] 29) := ⟨_, rfl⟩
  have B0 : Hid (Below w.heap.size w W1) := by show Below _ _ _; rw [hW1]; exact ((Below.refl _ w).alloc (Nat.le_refl _) _).alloc (by simp) _
  have C0 : HC W1 w.heap.size p c s mn mx A1 l.length c1 := by
    rw [hW1]
    exact (HC.new w 29 p c s mn mx A1 l.length c1).keep (Nat.lt_succ_self _) ((Below.refl _ _).alloc (by simp) _)
  have D0 : HC W1 (w.heap.size + 1) p c s mn mx A2 l.length c2 := by
    rw [hW1]
    have h := HC.new (w.alloc (.cells #[.int .i64 p, .int .i64 c, .int .i64 s, .int .i64 mn, .int .i64 mx, .slice A1 l.length c1] 29)) 29 p c s mn mx A2 l.length c2
    simpa only [World.size_alloc] using h
  have L1 := Lib.hid (h1.below B0.out)
  have L2 := Lib.hid (h2.below B0.out)
  have HW1 := Lib.hid hW1.symm
  obtain ⟨x0, x1, x2, x3, x4, x5⟩ := C0
  obtain ⟨y0, y1, y2, y3, y4, y5⟩ := D0
  clear hW1 h1 h2
  go_enter Try.func18, Try.ntmps18
  go_wp2
  rw [HW1.out]
  clear HW1
  go_loopw [5] (fun i wr => ∃ k : Nat, k ≤ l.length ∧ i = .int .i64 k ∧ Hid (∃ n, wr = W1.drewN n)) (fun i _ => l.length - (intOf i).toNat)
  case atStart => exact ⟨0, by omega, rfl, 0, rfl⟩
  case round =>
    obtain ⟨k, hk, rfl, hwr⟩ := hrel
    obtain ⟨n, rfl⟩ := hwr.out
    clear hwr
    by_cases hlt : k < l.length
    · obtain ⟨bl, off, rfl, hbl, g1, g2⟩ := L1.out.at_ hlt
      obtain ⟨bl2, off2, rfl, hbl2, g3, g4⟩ := L2.out.at_ hlt
      have hne := fun w => neq_bkt l[k].1 l[k].2 l[k].1 l[k].2 w
      simp only [beq_self_eq_true, Bool.and_self, Bool.not_true] at hne
      go_wp2
      go_quiet (fail)
      go_wp2
      go_roundw
      case rel => exact ⟨k + 1, by omega, by go_num, _, rfl⟩
      case measure => simp [intOf]; omega
    · go_wp2
      go_ret
      exact ⟨rfl, bel_drewN B0.out n⟩
set_option maxHeartbeats 1000000 in
theorem refNew_any (p : Int) (w : World) :
    Calls Try.prog 17 #[.int .i64 p] w (HOut w (if p < 0 ∨ 8 < p then (zeroH, 2) else (newH p, 0))) := by
  by_cases h : p < 0 ∨ 8 < p
  · rw [if_pos h]
    by_cases h1 : p < 0
    · go_enter Try.func17, Try.ntmps17
      go_wp2
      refine bodyPost_ret (v := .tuple #[hV 0 0 0 0 0 none 0 0, .int .i64 2]) (by simp [results, Try.f17, go_sem]) rfl ?_
      exact HOut.zero 2 ((Below.refl _ _).alloc (Nat.le_refl _) _)
    · have h2 : 8 < p := by omega
      clear h
      go_enter Try.func17, Try.ntmps17
      go_wp2
      refine bodyPost_ret (v := .tuple #[hV 0 0 0 0 0 none 0 0, .int .i64 2]) (by simp [results, Try.f17, go_sem]) rfl ?_
      exact HOut.zero 2 ((Below.refl _ _).alloc (Nat.le_refl _) _)
  · rw [if_neg h]
    go_enter Try.func17, Try.ntmps17
    go_wp2
    refine bodyPost_ret (v := .tuple #[hV p 0 0 0 0 none 0 0, .int .i64 0]) (by simp [results, Try.f17, go_sem]) rfl ?_
    exact ⟨none, 0, rfl, LS.nil _ _ _, fun h => (h rfl).elim, (Below.refl _ _).alloc (Nat.le_refl _) _⟩
end Go.Proofs.Ytffnopdpndpngaa.Lh
