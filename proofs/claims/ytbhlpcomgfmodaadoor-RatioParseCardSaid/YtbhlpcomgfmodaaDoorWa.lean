/- The walks of the laws of layer 3: Parse. -/
import Derived.Test.YtbhlpcomgfmodaaDoorPX
import Derived.Test.YtbhlpcomgfmodaaDoorPY
import Derived.Test.YtbhlpcomgfmodaaDoorRatW
set_option linter.unusedVariables false
set_option linter.unusedSimpArgs false
namespace Go.Proofs.YtbhlpcomgfmodaaDoor.Pro
open Go.RowKit

theorem parseOut_form (s : ByteArray) : ∃ a b x : Int, Rat.parseOut s = .tuple #[.agg #[.int .i64 a, .int .i64 b], .int .i64 x] := by
  unfold Rat.parseOut Rat.outP
  split
  · exact ⟨_, _, _, rfl⟩
  · exact ⟨_, _, _, rfl⟩
set_option maxHeartbeats 1000000 in
set_option maxRecDepth 100000 in
theorem parse_walk (s : ByteArray) (hs : s.size ≤ maxLen) (w : World) (hl : Laid w) :
    Calls Tryd.prog 5 #[.string s] w fun e w' => e = .returned (.bool true) ∧ Below w.heap.size w w' := by
  have hm : maxLen = 9223372036854775807 := by unfold maxLen; rfl
  rw [hm] at hs
  have HL := Lib.hid hl
  clear hl hm
  by_cases h1 : 100 < s.size
  · go_enter Tryd.func5, Tryd.ntmps5
    go_wp2_with fail
    with_reducible refine (awake_any _ HL.out.t10).mono ?_
    rintro e w1 ⟨rfl, hb1⟩
    have H1 := Lib.hid hb1
    clear hb1
    go_wp2
    go_ret
    exact ⟨rfl, H1.out⟩
  · have A := fun w h => parse_any s (by omega) w h
    have B := fun w => Rat.refParse_any s (by omega) w
    obtain ⟨a, b, x, ho⟩ := parseOut_form s
    rw [ho] at A B
    have HA := Lib.hid A
    have HB := Lib.hid B
    clear A B ho
    go_enter Tryd.func5, Tryd.ntmps5
    go_wp2_with fail
    with_reducible refine (HA.out _ HL.out).mono ?_
    rintro e w1 ⟨rfl, hb1⟩
    have T1 := Lib.hid (((Has.start w).step hb1).alloc #[.int .i64 a, .int .i64 b] 23)
    clear hb1
    go_upto_region 4 with fail
    generalize w1.alloc (.cells #[.int .i64 a, .int .i64 b] 23) = y1 at *
    generalize w1.heap.size = g1 at *
    go_wp2_with fail
    with_reducible refine (HB.out _).mono ?_
    rintro e w2 ⟨rfl, hb2⟩
    have T2 := Lib.hid ((T1.out.step hb2).alloc #[.int .i64 a, .int .i64 b] 23)
    clear hb2 T1
    go_upto_region 5 with fail
    generalize w2.alloc (.cells #[.int .i64 a, .int .i64 b] 23) = y2 at *
    generalize w2.heap.size = g2 at *
    obtain ⟨a0, a1⟩ := cells2 (T2.out.row (b := g1) (cs := #[.int .i64 a, .int .i64 b]) (t := 23) (by simp))
    obtain ⟨b0, b1⟩ := cells2 (T2.out.row (b := g2) (cs := #[.int .i64 a, .int .i64 b]) (t := 23) (by simp))
    go_wp2_with fail
    with_reducible refine (awake_any _ (HL.out.t10.below (Has.b T2.out))).mono ?_
    rintro e w3 ⟨rfl, hb3⟩
    have T3 := Lib.hid (T2.out.step hb3)
    clear hb3
    go_wp2
    go_ret
    exact ⟨rfl, Has.b T3.out⟩
end Go.Proofs.YtbhlpcomgfmodaaDoor.Pro
