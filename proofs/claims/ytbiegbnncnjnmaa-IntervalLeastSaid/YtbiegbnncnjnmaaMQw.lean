/- The walk of IntervalLeast. The mathematics and the walk of IntervalLeast. -/
import Derived.Test.YtbiegbnncnjnmaaMLa
import Derived.Lib.QuietBelow
import Derived.Test.YtbiegbnncnjnmaaQV
set_option linter.unusedVariables false
set_option linter.unusedSimpArgs false
namespace Go.Proofs.Ytbiegbnncnjnmaa.Iv
open Go.RowKit Go.Sort
open Go.Proofs.Ytbiegbnncnjnmaa.Pro

theorem okmore0 {ee fe0 : Int → Int} {nb0 : Int → Bool} {k : Int} (h : ee k = 0) (hf : fe0 k = 0) (hn : nb0 k = true) : ee k = 0 ∧ fe0 k = 0 ∧ nb0 k = true := by
  simp only [h, hf, hn, and_self]
theorem okmore1 {ee fe0 fe1 : Int → Int} {nb0 nb1 : Int → Bool} {k : Int} (h : ee k = 0 ∧ fe0 k = 0 ∧ nb0 k = true) (hf : fe1 k = 0) (hn : nb1 k = true) : ee k = 0 ∧ fe0 k = 0 ∧ nb0 k = true ∧ fe1 k = 0 ∧ nb1 k = true := by
  simp only [h, hf, hn, and_self]
theorem okmore2 {ee fe0 fe1 fe2 : Int → Int} {nb0 nb1 nb2 : Int → Bool} {k : Int} (h : ee k = 0 ∧ fe0 k = 0 ∧ nb0 k = true ∧ fe1 k = 0 ∧ nb1 k = true) (hf : fe2 k = 0) (hn : nb2 k = true) : ee k = 0 ∧ fe0 k = 0 ∧ nb0 k = true ∧ fe1 k = 0 ∧ nb1 k = true ∧ fe2 k = 0 ∧ nb2 k = true := by
  simp only [h, hf, hn, and_self]
theorem okmore3 {ee fe0 fe1 fe2 fe3 : Int → Int} {nb0 nb1 nb2 nb3 : Int → Bool} {k : Int} (h : ee k = 0 ∧ fe0 k = 0 ∧ nb0 k = true ∧ fe1 k = 0 ∧ nb1 k = true ∧ fe2 k = 0 ∧ nb2 k = true) (hf : fe3 k = 0) (hn : nb3 k = true) : ee k = 0 ∧ fe0 k = 0 ∧ nb0 k = true ∧ fe1 k = 0 ∧ nb1 k = true ∧ fe2 k = 0 ∧ nb2 k = true ∧ fe3 k = 0 ∧ nb3 k = true := by
  simp only [h, hf, hn, and_self]
set_option maxRecDepth 100000 in
set_option maxHeartbeats 8000000 in
theorem least_raw (a b c d p q r s u1 u2 u3 u4 : Int) (r0 r1 r2 r3 ee cn0 cd0 fe0 cn1 cd1 fe1 cn2 cd2 fe2 cn3 cd3 fe3 : Int → Int) (nb0 nb1 nb2 nb3 : Int → Bool) (cx cy : Bool) (h0 h1 h2 h3 : Int)
    (A : Hid (∀ k : Int, 0 ≤ k → k < 4 → ∀ w : World, Calls Try.prog 20 #[.int .i64 k, .agg #[.int .i64 a, .int .i64 b, .int .i64 c, .int .i64 d], .agg #[.int .i64 p, .int .i64 q, .int .i64 r, .int .i64 s]] w fun e w' => e = .returned (.tuple #[.agg #[.int .i64 (r0 k), .int .i64 (r1 k), .int .i64 (r2 k), .int .i64 (r3 k)], .int .i64 (ee k)]) ∧ Below w.heap.size w w'))
    (S0 : Hid (∀ k : Int, 0 ≤ k → k < 4 → ∀ w : World, Calls Try.prog 31 #[.int .i64 k, .agg #[.int .i64 a, .int .i64 b], .agg #[.int .i64 p, .int .i64 q]] w fun e w' => e = .returned (.tuple #[.agg #[.int .i64 (cn0 k), .int .i64 (cd0 k)], .int .i64 (fe0 k)]) ∧ Below w.heap.size w w'))
    (I0 : Hid (∀ k : Int, 0 ≤ k → k < 4 → ∀ w : World, Calls Try.prog 30 #[.agg #[.int .i64 (cn0 k), .int .i64 (cd0 k)], .agg #[.int .i64 u1, .int .i64 u2, .int .i64 u3, .int .i64 u4]] w fun e w' => e = .returned (.bool (nb0 k)) ∧ Below w.heap.size w w'))
    (S1 : Hid (∀ k : Int, 0 ≤ k → k < 4 → ∀ w : World, Calls Try.prog 31 #[.int .i64 k, .agg #[.int .i64 a, .int .i64 b], .agg #[.int .i64 r, .int .i64 s]] w fun e w' => e = .returned (.tuple #[.agg #[.int .i64 (cn1 k), .int .i64 (cd1 k)], .int .i64 (fe1 k)]) ∧ Below w.heap.size w w'))
    (I1 : Hid (∀ k : Int, 0 ≤ k → k < 4 → ∀ w : World, Calls Try.prog 30 #[.agg #[.int .i64 (cn1 k), .int .i64 (cd1 k)], .agg #[.int .i64 u1, .int .i64 u2, .int .i64 u3, .int .i64 u4]] w fun e w' => e = .returned (.bool (nb1 k)) ∧ Below w.heap.size w w'))
    (S2 : Hid (∀ k : Int, 0 ≤ k → k < 4 → ∀ w : World, Calls Try.prog 31 #[.int .i64 k, .agg #[.int .i64 c, .int .i64 d], .agg #[.int .i64 p, .int .i64 q]] w fun e w' => e = .returned (.tuple #[.agg #[.int .i64 (cn2 k), .int .i64 (cd2 k)], .int .i64 (fe2 k)]) ∧ Below w.heap.size w w'))
    (I2 : Hid (∀ k : Int, 0 ≤ k → k < 4 → ∀ w : World, Calls Try.prog 30 #[.agg #[.int .i64 (cn2 k), .int .i64 (cd2 k)], .agg #[.int .i64 u1, .int .i64 u2, .int .i64 u3, .int .i64 u4]] w fun e w' => e = .returned (.bool (nb2 k)) ∧ Below w.heap.size w w'))
    (S3 : Hid (∀ k : Int, 0 ≤ k → k < 4 → ∀ w : World, Calls Try.prog 31 #[.int .i64 k, .agg #[.int .i64 c, .int .i64 d], .agg #[.int .i64 r, .int .i64 s]] w fun e w' => e = .returned (.tuple #[.agg #[.int .i64 (cn3 k), .int .i64 (cd3 k)], .int .i64 (fe3 k)]) ∧ Below w.heap.size w w'))
    (I3 : Hid (∀ k : Int, 0 ≤ k → k < 4 → ∀ w : World, Calls Try.prog 30 #[.agg #[.int .i64 (cn3 k), .int .i64 (cd3 k)], .agg #[.int .i64 u1, .int .i64 u2, .int .i64 u3, .int .i64 u4]] w fun e w' => e = .returned (.bool (nb3 k)) ∧ Below w.heap.size w w'))
    (CZ : Hid (∀ k : Int, 0 ≤ k → k < 4 → (ee k = 0 ∧ fe0 k = 0 ∧ nb0 k = true ∧ fe1 k = 0 ∧ nb1 k = true ∧ fe2 k = 0 ∧ nb2 k = true ∧ fe3 k = 0 ∧ nb3 k = true) → ∀ w : World, Calls Try.prog 17 #[.agg #[.int .i64 u1, .int .i64 u2, .int .i64 u3, .int .i64 u4], .agg #[.int .i64 (r0 k), .int .i64 (r1 k), .int .i64 (r2 k), .int .i64 (r3 k)]] w fun e w' => e = .returned (.bool true) ∧ Below w.heap.size w w'))
    (N1 : Hid (∀ w : World, Calls Try.prog 17 #[.agg #[.int .i64 u1, .int .i64 u2, .int .i64 u3, .int .i64 u4], .agg #[.int .i64 a, .int .i64 b, .int .i64 c, .int .i64 d]] w fun e w' => e = .returned (.bool cx) ∧ Below w.heap.size w w'))
    (N2 : Hid (∀ w : World, Calls Try.prog 17 #[.agg #[.int .i64 u1, .int .i64 u2, .int .i64 u3, .int .i64 u4], .agg #[.int .i64 p, .int .i64 q, .int .i64 r, .int .i64 s]] w fun e w' => e = .returned (.bool cy) ∧ Below w.heap.size w w'))
    (HU : Hid (∀ w : World, Calls Try.prog 22 #[.agg #[.int .i64 a, .int .i64 b, .int .i64 c, .int .i64 d], .agg #[.int .i64 p, .int .i64 q, .int .i64 r, .int .i64 s]] w fun e w' => e = .returned (.agg #[.int .i64 h0, .int .i64 h1, .int .i64 h2, .int .i64 h3]) ∧ Below w.heap.size w w'))
    (N3 : Hid (cx = true → cy = true → ∀ w : World, Calls Try.prog 17 #[.agg #[.int .i64 u1, .int .i64 u2, .int .i64 u3, .int .i64 u4], .agg #[.int .i64 h0, .int .i64 h1, .int .i64 h2, .int .i64 h3]] w fun e w' => e = .returned (.bool true) ∧ Below w.heap.size w w'))
    (AW : Hid (∀ w : World, Calls Try.prog 19 #[] w fun e w' => e = .returned (.bool true) ∧ Below w.heap.size w w'))
    (w : World) : Calls Try.prog 7 #[.agg #[.int .i64 a, .int .i64 b, .int .i64 c, .int .i64 d], .agg #[.int .i64 p, .int .i64 q, .int .i64 r, .int .i64 s], .agg #[.int .i64 u1, .int .i64 u2, .int .i64 u3, .int .i64 u4]] w fun e w' => e = .returned (.bool true) ∧ Below w.heap.size w w' := by
  have T0 := Lib.hid (three0 w #[.int .i64 a, .int .i64 b, .int .i64 c, .int .i64 d] #[.int .i64 p, .int .i64 q, .int .i64 r, .int .i64 s] #[.int .i64 u1, .int .i64 u2, .int .i64 u3, .int .i64 u4] 25 25 25)
  go_enter Try.func7, Try.ntmps7
  go_upto_region 1 with fail
  generalize ((w.alloc (.cells #[.int .i64 a, .int .i64 b, .int .i64 c, .int .i64 d] 25)).alloc (.cells #[.int .i64 p, .int .i64 q, .int .i64 r, .int .i64 s] 25)).alloc (.cells #[.int .i64 u1, .int .i64 u2, .int .i64 u3, .int .i64 u4] 25) = W0 at *
  go_wp2_with fail
  go_loopw [17] (fun vi wr => ∃ k : Int, vi = .int .i64 k ∧ 0 ≤ k ∧ k ≤ 4 ∧ Hid (Has w [(w.heap.size + 1 + 1, #[.int .i64 u1, .int .i64 u2, .int .i64 u3, .int .i64 u4], 25), (w.heap.size + 1, #[.int .i64 p, .int .i64 q, .int .i64 r, .int .i64 s], 25), (w.heap.size, #[.int .i64 a, .int .i64 b, .int .i64 c, .int .i64 d], 25)] wr)) (fun vi _ => (4 - intOf vi).toNat)
  case atStart => exact ⟨0, rfl, by omega, by omega, T0⟩
  case round =>
    clear T0
    obtain ⟨k, rfl, hk0, hk4, H⟩ := hrel
    by_cases hk : k < 4
    · have A' := Lib.hid (A.out k hk0 hk)
      have S0' := Lib.hid (S0.out k hk0 hk)
      have I0' := Lib.hid (I0.out k hk0 hk)
      have S1' := Lib.hid (S1.out k hk0 hk)
      have I1' := Lib.hid (I1.out k hk0 hk)
      have S2' := Lib.hid (S2.out k hk0 hk)
      have I2' := Lib.hid (I2.out k hk0 hk)
      have S3' := Lib.hid (S3.out k hk0 hk)
      have I3' := Lib.hid (I3.out k hk0 hk)
      have CZ' := Lib.hid (CZ.out k hk0 hk)
      clear A S0 S1 S2 S3 I0 I1 I2 I3 CZ N1 N2 HU N3 AW
      obtain ⟨x0, x1, x2, x3, x4⟩ := Has.c4 (g := w.heap.size) (x := .int .i64 a) (y := .int .i64 b) (z := .int .i64 c) (u := .int .i64 d) (t := 25) H.out (by simp)
      obtain ⟨y0, y1, y2, y3, y4⟩ := Has.c4 (g := w.heap.size + 1) (x := .int .i64 p) (y := .int .i64 q) (z := .int .i64 r) (u := .int .i64 s) (t := 25) H.out (by simp)
      go_wp2_with fail
      with_reducible refine (A'.out _).mono ?_
      rintro e w1 ⟨rfl, hb⟩
      have T1 := Lib.hid (H.out.step hb)
      clear hb H
      clear x0 x1 x2 x3 x4 y0 y1 y2 y3 y4 A'
      have T2 := Lib.hid ((T1.out.alloc #[.int .i64 (r0 k), .int .i64 (r1 k), .int .i64 (r2 k), .int .i64 (r3 k)] 25))
      clear T1
      go_upto_region 5 with fail
      generalize w1.alloc (.cells #[.int .i64 (r0 k), .int .i64 (r1 k), .int .i64 (r2 k), .int .i64 (r3 k)] 25) = W2 at *
      generalize w1.heap.size = gr at *
      obtain ⟨x0, x1, x2, x3, x4⟩ := Has.c4 (g := w.heap.size) (x := .int .i64 a) (y := .int .i64 b) (z := .int .i64 c) (u := .int .i64 d) (t := 25) T2.out (by simp)
      have T3 := Lib.hid (T2.out.alloc #[.int .i64 a, .int .i64 b, .int .i64 c, .int .i64 d] 23)
      clear T2
      go_wp2_with fail
      clear x0 x1 x2 x3 x4
      generalize W2.alloc (.cells #[.int .i64 a, .int .i64 b, .int .i64 c, .int .i64 d] 23) = W3 at *
      generalize W2.heap.size = ga at *
      go_loopw [35, 10] (fun vi vb wr => (vi = .int .i64 0 ∧ ∃ bv : Bool, vb = .bool bv ∧ Hid (bv = true → ee k = 0) ∧ Hid (Has w ((ga, #[.int .i64 a, .int .i64 b, .int .i64 c, .int .i64 d], 23) :: (gr, #[.int .i64 (r0 k), .int .i64 (r1 k), .int .i64 (r2 k), .int .i64 (r3 k)], 25) :: [(w.heap.size + 1 + 1, #[.int .i64 u1, .int .i64 u2, .int .i64 u3, .int .i64 u4], 25), (w.heap.size + 1, #[.int .i64 p, .int .i64 q, .int .i64 r, .int .i64 s], 25), (w.heap.size, #[.int .i64 a, .int .i64 b, .int .i64 c, .int .i64 d], 25)]) wr)) ∨ (vi = .int .i64 1 ∧ ∃ bv : Bool, vb = .bool bv ∧ Hid (bv = true → ee k = 0 ∧ fe0 k = 0 ∧ nb0 k = true ∧ fe1 k = 0 ∧ nb1 k = true) ∧ Hid (Has w ((ga, #[.int .i64 a, .int .i64 b, .int .i64 c, .int .i64 d], 23) :: (gr, #[.int .i64 (r0 k), .int .i64 (r1 k), .int .i64 (r2 k), .int .i64 (r3 k)], 25) :: [(w.heap.size + 1 + 1, #[.int .i64 u1, .int .i64 u2, .int .i64 u3, .int .i64 u4], 25), (w.heap.size + 1, #[.int .i64 p, .int .i64 q, .int .i64 r, .int .i64 s], 25), (w.heap.size, #[.int .i64 a, .int .i64 b, .int .i64 c, .int .i64 d], 25)]) wr)) ∨ (vi = .int .i64 2 ∧ ∃ bv : Bool, vb = .bool bv ∧ Hid (bv = true → ee k = 0 ∧ fe0 k = 0 ∧ nb0 k = true ∧ fe1 k = 0 ∧ nb1 k = true ∧ fe2 k = 0 ∧ nb2 k = true ∧ fe3 k = 0 ∧ nb3 k = true) ∧ Hid (Has w ((ga, #[.int .i64 a, .int .i64 b, .int .i64 c, .int .i64 d], 23) :: (gr, #[.int .i64 (r0 k), .int .i64 (r1 k), .int .i64 (r2 k), .int .i64 (r3 k)], 25) :: [(w.heap.size + 1 + 1, #[.int .i64 u1, .int .i64 u2, .int .i64 u3, .int .i64 u4], 25), (w.heap.size + 1, #[.int .i64 p, .int .i64 q, .int .i64 r, .int .i64 s], 25), (w.heap.size, #[.int .i64 a, .int .i64 b, .int .i64 c, .int .i64 d], 25)]) wr))) (fun vi _ _ => (2 - intOf vi).toNat)
      case atStart => exact Or.inl ⟨rfl, _, rfl, (fun h => by simpa using h), T3⟩
      case round =>
        clear T3
        rcases hrel with ⟨rfl, bv, rfl, hbv, H⟩ | ⟨rfl, bv, rfl, hbv, H⟩ | ⟨rfl, bv, rfl, hbv, H⟩
        · skip
          obtain ⟨a0, a1, a2, a3⟩ := cells4 (H.out.row (b := ga) (cs := #[.int .i64 a, .int .i64 b, .int .i64 c, .int .i64 d]) (t := 23) (by simp))
          obtain ⟨y0, y1, y2, y3, y4⟩ := Has.c4 (g := w.heap.size + 1) (x := .int .i64 p) (y := .int .i64 q) (z := .int .i64 r) (u := .int .i64 s) (t := 25) H.out (by simp)
          have T1 := Lib.hid ((H.out.alloc #[.int .i64 a, .int .i64 b] 23).alloc #[.int .i64 p, .int .i64 q, .int .i64 r, .int .i64 s] 23)
          go_wp2_with fail
          clear a0 a1 a2 a3 y0 y1 y2 y3 y4 H
          simp only [World.size_alloc] at T1
          generalize wr.heap.size = gv at *
          generalize (wr.alloc (.cells #[.int .i64 a, .int .i64 b] 23)).alloc (.cells #[.int .i64 p, .int .i64 q, .int .i64 r, .int .i64 s] 23) = W5 at *
          go_loopw [45, 10] (fun vi vb wr => (vi = .int .i64 0 ∧ ∃ bv : Bool, vb = .bool bv ∧ Hid (bv = true → ee k = 0) ∧ Hid (Has w ((gv + 1, #[.int .i64 p, .int .i64 q, .int .i64 r, .int .i64 s], 23) :: (gv, #[.int .i64 a, .int .i64 b], 23) :: (ga, #[.int .i64 a, .int .i64 b, .int .i64 c, .int .i64 d], 23) :: (gr, #[.int .i64 (r0 k), .int .i64 (r1 k), .int .i64 (r2 k), .int .i64 (r3 k)], 25) :: [(w.heap.size + 1 + 1, #[.int .i64 u1, .int .i64 u2, .int .i64 u3, .int .i64 u4], 25), (w.heap.size + 1, #[.int .i64 p, .int .i64 q, .int .i64 r, .int .i64 s], 25), (w.heap.size, #[.int .i64 a, .int .i64 b, .int .i64 c, .int .i64 d], 25)]) wr)) ∨ (vi = .int .i64 1 ∧ ∃ bv : Bool, vb = .bool bv ∧ Hid (bv = true → ee k = 0 ∧ fe0 k = 0 ∧ nb0 k = true) ∧ Hid (Has w ((gv + 1, #[.int .i64 p, .int .i64 q, .int .i64 r, .int .i64 s], 23) :: (gv, #[.int .i64 a, .int .i64 b], 23) :: (ga, #[.int .i64 a, .int .i64 b, .int .i64 c, .int .i64 d], 23) :: (gr, #[.int .i64 (r0 k), .int .i64 (r1 k), .int .i64 (r2 k), .int .i64 (r3 k)], 25) :: [(w.heap.size + 1 + 1, #[.int .i64 u1, .int .i64 u2, .int .i64 u3, .int .i64 u4], 25), (w.heap.size + 1, #[.int .i64 p, .int .i64 q, .int .i64 r, .int .i64 s], 25), (w.heap.size, #[.int .i64 a, .int .i64 b, .int .i64 c, .int .i64 d], 25)]) wr)) ∨ (vi = .int .i64 2 ∧ ∃ bv : Bool, vb = .bool bv ∧ Hid (bv = true → ee k = 0 ∧ fe0 k = 0 ∧ nb0 k = true ∧ fe1 k = 0 ∧ nb1 k = true) ∧ Hid (Has w ((gv + 1, #[.int .i64 p, .int .i64 q, .int .i64 r, .int .i64 s], 23) :: (gv, #[.int .i64 a, .int .i64 b], 23) :: (ga, #[.int .i64 a, .int .i64 b, .int .i64 c, .int .i64 d], 23) :: (gr, #[.int .i64 (r0 k), .int .i64 (r1 k), .int .i64 (r2 k), .int .i64 (r3 k)], 25) :: [(w.heap.size + 1 + 1, #[.int .i64 u1, .int .i64 u2, .int .i64 u3, .int .i64 u4], 25), (w.heap.size + 1, #[.int .i64 p, .int .i64 q, .int .i64 r, .int .i64 s], 25), (w.heap.size, #[.int .i64 a, .int .i64 b, .int .i64 c, .int .i64 d], 25)]) wr))) (fun vi _ _ => (2 - intOf vi).toNat)
          case atStart => exact Or.inl ⟨rfl, _, rfl, hbv, T1⟩
          case round =>
            clear T1 hbv
            rcases hrel with ⟨rfl, bv, rfl, hbv, H⟩ | ⟨rfl, bv, rfl, hbv, H⟩ | ⟨rfl, bv, rfl, hbv, H⟩
            · skip
              obtain ⟨b0, b1, b2, b3⟩ := cells4 (H.out.row (b := gv + 1) (cs := #[.int .i64 p, .int .i64 q, .int .i64 r, .int .i64 s]) (t := 23) (by simp))
              obtain ⟨v0, v1⟩ := cells2 (H.out.row (b := gv) (cs := #[.int .i64 a, .int .i64 b]) (t := 23) (by simp))
              have hgv : gv < wr.heap.size := H.out.lt (x := (gv, #[.int .i64 a, .int .i64 b], 23)) (by simp)
              have T2 := Lib.hid (H.out.alloc #[.int .i64 p, .int .i64 q] 23)
              go_wp2_with fail
              with_reducible refine (S0'.out _).mono ?_
              rintro e w6 ⟨rfl, hb⟩
              have T3 := Lib.hid ((T2.out.step hb).alloc #[.int .i64 (cn0 k), .int .i64 (cd0 k)] 23)
              clear hb T2 H b0 b1 b2 b3 v0 v1 hgv
              go_upto_region 13 with fail
              generalize w6.alloc (.cells #[.int .i64 (cn0 k), .int .i64 (cd0 k)] 23) = W7 at *
              generalize w6.heap.size = gc at *
              generalize wr.heap.size = gw at *
              cases bv with
              | false =>
                go_wp2_with fail
                go_roundw
                case rel => exact Or.inr (Or.inl ⟨(by first | rfl | trivial), _, rfl, (fun h => by cases h), T3.out.sub (by intro x hx; exact List.mem_cons_of_mem _ (List.mem_cons_of_mem _ hx))⟩)
                case measure => simp [intOf]
              | true =>
                by_cases hf : fe0 k = 0
                · have hfb : (fe0 k == 0) = true := by simp [hf]
                  obtain ⟨d0, d1⟩ := cells2 (T3.out.row (b := gc) (cs := #[.int .i64 (cn0 k), .int .i64 (cd0 k)]) (t := 23) (by simp))
                  obtain ⟨z0, z1, z2, z3, z4⟩ := Has.c4 (g := w.heap.size + 1 + 1) (x := .int .i64 u1) (y := .int .i64 u2) (z := .int .i64 u3) (u := .int .i64 u4) (t := 25) T3.out (by simp)
                  go_wp2_with fail
                  with_reducible refine (I0'.out _).mono ?_
                  rintro e w8 ⟨rfl, hb⟩
                  have T4 := Lib.hid (T3.out.step hb)
                  clear hb T3 d0 d1 z0 z1 z2 z3 z4
                  go_wp2_with fail
                  go_roundw
                  case rel => exact Or.inr (Or.inl ⟨(by first | rfl | trivial), _, rfl, (fun h => okmore0 (hbv.out (by trivial)) hf h), T4.out.sub (by intro x hx; exact List.mem_cons_of_mem _ (List.mem_cons_of_mem _ hx))⟩)
                  case measure => simp [intOf]
                · have hfb : (fe0 k == 0) = false := by simp [hf]
                  go_wp2_with fail
                  go_roundw
                  case rel => exact Or.inr (Or.inl ⟨(by first | rfl | trivial), _, rfl, (fun h => by cases h), T3.out.sub (by intro x hx; exact List.mem_cons_of_mem _ (List.mem_cons_of_mem _ hx))⟩)
                  case measure => simp [intOf]
            · skip
              obtain ⟨b0, b1, b2, b3⟩ := cells4 (H.out.row (b := gv + 1) (cs := #[.int .i64 p, .int .i64 q, .int .i64 r, .int .i64 s]) (t := 23) (by simp))
              obtain ⟨v0, v1⟩ := cells2 (H.out.row (b := gv) (cs := #[.int .i64 a, .int .i64 b]) (t := 23) (by simp))
              have hgv : gv < wr.heap.size := H.out.lt (x := (gv, #[.int .i64 a, .int .i64 b], 23)) (by simp)
              have T2 := Lib.hid (H.out.alloc #[.int .i64 r, .int .i64 s] 23)
              go_wp2_with fail
              with_reducible refine (S1'.out _).mono ?_
              rintro e w6 ⟨rfl, hb⟩
              have T3 := Lib.hid ((T2.out.step hb).alloc #[.int .i64 (cn1 k), .int .i64 (cd1 k)] 23)
              clear hb T2 H b0 b1 b2 b3 v0 v1 hgv
              go_upto_region 13 with fail
              generalize w6.alloc (.cells #[.int .i64 (cn1 k), .int .i64 (cd1 k)] 23) = W7 at *
              generalize w6.heap.size = gc at *
              generalize wr.heap.size = gw at *
              cases bv with
              | false =>
                go_wp2_with fail
                go_roundw
                case rel => exact Or.inr (Or.inr ⟨(by first | rfl | trivial), _, rfl, (fun h => by cases h), T3.out.sub (by intro x hx; exact List.mem_cons_of_mem _ (List.mem_cons_of_mem _ hx))⟩)
                case measure => simp [intOf]
              | true =>
                by_cases hf : fe1 k = 0
                · have hfb : (fe1 k == 0) = true := by simp [hf]
                  obtain ⟨d0, d1⟩ := cells2 (T3.out.row (b := gc) (cs := #[.int .i64 (cn1 k), .int .i64 (cd1 k)]) (t := 23) (by simp))
                  obtain ⟨z0, z1, z2, z3, z4⟩ := Has.c4 (g := w.heap.size + 1 + 1) (x := .int .i64 u1) (y := .int .i64 u2) (z := .int .i64 u3) (u := .int .i64 u4) (t := 25) T3.out (by simp)
                  go_wp2_with fail
                  with_reducible refine (I1'.out _).mono ?_
                  rintro e w8 ⟨rfl, hb⟩
                  have T4 := Lib.hid (T3.out.step hb)
                  clear hb T3 d0 d1 z0 z1 z2 z3 z4
                  go_wp2_with fail
                  go_roundw
                  case rel => exact Or.inr (Or.inr ⟨(by first | rfl | trivial), _, rfl, (fun h => okmore1 (hbv.out (by trivial)) hf h), T4.out.sub (by intro x hx; exact List.mem_cons_of_mem _ (List.mem_cons_of_mem _ hx))⟩)
                  case measure => simp [intOf]
                · have hfb : (fe1 k == 0) = false := by simp [hf]
                  go_wp2_with fail
                  go_roundw
                  case rel => exact Or.inr (Or.inr ⟨(by first | rfl | trivial), _, rfl, (fun h => by cases h), T3.out.sub (by intro x hx; exact List.mem_cons_of_mem _ (List.mem_cons_of_mem _ hx))⟩)
                  case measure => simp [intOf]
            · go_wp2_with fail
              go_roundw
              case rel => exact Or.inr (Or.inl ⟨(by first | rfl | trivial), _, rfl, hbv, H.out.sub (by intro x hx; exact List.mem_cons_of_mem _ (List.mem_cons_of_mem _ hx))⟩)
              case measure => simp [intOf]
        · skip
          obtain ⟨a0, a1, a2, a3⟩ := cells4 (H.out.row (b := ga) (cs := #[.int .i64 a, .int .i64 b, .int .i64 c, .int .i64 d]) (t := 23) (by simp))
          obtain ⟨y0, y1, y2, y3, y4⟩ := Has.c4 (g := w.heap.size + 1) (x := .int .i64 p) (y := .int .i64 q) (z := .int .i64 r) (u := .int .i64 s) (t := 25) H.out (by simp)
          have T1 := Lib.hid ((H.out.alloc #[.int .i64 c, .int .i64 d] 23).alloc #[.int .i64 p, .int .i64 q, .int .i64 r, .int .i64 s] 23)
          go_wp2_with fail
          clear a0 a1 a2 a3 y0 y1 y2 y3 y4 H
          simp only [World.size_alloc] at T1
          generalize wr.heap.size = gv at *
          generalize (wr.alloc (.cells #[.int .i64 c, .int .i64 d] 23)).alloc (.cells #[.int .i64 p, .int .i64 q, .int .i64 r, .int .i64 s] 23) = W5 at *
          go_loopw [45, 10] (fun vi vb wr => (vi = .int .i64 0 ∧ ∃ bv : Bool, vb = .bool bv ∧ Hid (bv = true → ee k = 0 ∧ fe0 k = 0 ∧ nb0 k = true ∧ fe1 k = 0 ∧ nb1 k = true) ∧ Hid (Has w ((gv + 1, #[.int .i64 p, .int .i64 q, .int .i64 r, .int .i64 s], 23) :: (gv, #[.int .i64 c, .int .i64 d], 23) :: (ga, #[.int .i64 a, .int .i64 b, .int .i64 c, .int .i64 d], 23) :: (gr, #[.int .i64 (r0 k), .int .i64 (r1 k), .int .i64 (r2 k), .int .i64 (r3 k)], 25) :: [(w.heap.size + 1 + 1, #[.int .i64 u1, .int .i64 u2, .int .i64 u3, .int .i64 u4], 25), (w.heap.size + 1, #[.int .i64 p, .int .i64 q, .int .i64 r, .int .i64 s], 25), (w.heap.size, #[.int .i64 a, .int .i64 b, .int .i64 c, .int .i64 d], 25)]) wr)) ∨ (vi = .int .i64 1 ∧ ∃ bv : Bool, vb = .bool bv ∧ Hid (bv = true → ee k = 0 ∧ fe0 k = 0 ∧ nb0 k = true ∧ fe1 k = 0 ∧ nb1 k = true ∧ fe2 k = 0 ∧ nb2 k = true) ∧ Hid (Has w ((gv + 1, #[.int .i64 p, .int .i64 q, .int .i64 r, .int .i64 s], 23) :: (gv, #[.int .i64 c, .int .i64 d], 23) :: (ga, #[.int .i64 a, .int .i64 b, .int .i64 c, .int .i64 d], 23) :: (gr, #[.int .i64 (r0 k), .int .i64 (r1 k), .int .i64 (r2 k), .int .i64 (r3 k)], 25) :: [(w.heap.size + 1 + 1, #[.int .i64 u1, .int .i64 u2, .int .i64 u3, .int .i64 u4], 25), (w.heap.size + 1, #[.int .i64 p, .int .i64 q, .int .i64 r, .int .i64 s], 25), (w.heap.size, #[.int .i64 a, .int .i64 b, .int .i64 c, .int .i64 d], 25)]) wr)) ∨ (vi = .int .i64 2 ∧ ∃ bv : Bool, vb = .bool bv ∧ Hid (bv = true → ee k = 0 ∧ fe0 k = 0 ∧ nb0 k = true ∧ fe1 k = 0 ∧ nb1 k = true ∧ fe2 k = 0 ∧ nb2 k = true ∧ fe3 k = 0 ∧ nb3 k = true) ∧ Hid (Has w ((gv + 1, #[.int .i64 p, .int .i64 q, .int .i64 r, .int .i64 s], 23) :: (gv, #[.int .i64 c, .int .i64 d], 23) :: (ga, #[.int .i64 a, .int .i64 b, .int .i64 c, .int .i64 d], 23) :: (gr, #[.int .i64 (r0 k), .int .i64 (r1 k), .int .i64 (r2 k), .int .i64 (r3 k)], 25) :: [(w.heap.size + 1 + 1, #[.int .i64 u1, .int .i64 u2, .int .i64 u3, .int .i64 u4], 25), (w.heap.size + 1, #[.int .i64 p, .int .i64 q, .int .i64 r, .int .i64 s], 25), (w.heap.size, #[.int .i64 a, .int .i64 b, .int .i64 c, .int .i64 d], 25)]) wr))) (fun vi _ _ => (2 - intOf vi).toNat)
          case atStart => exact Or.inl ⟨rfl, _, rfl, hbv, T1⟩
          case round =>
            clear T1 hbv
            rcases hrel with ⟨rfl, bv, rfl, hbv, H⟩ | ⟨rfl, bv, rfl, hbv, H⟩ | ⟨rfl, bv, rfl, hbv, H⟩
            · skip
              obtain ⟨b0, b1, b2, b3⟩ := cells4 (H.out.row (b := gv + 1) (cs := #[.int .i64 p, .int .i64 q, .int .i64 r, .int .i64 s]) (t := 23) (by simp))
              obtain ⟨v0, v1⟩ := cells2 (H.out.row (b := gv) (cs := #[.int .i64 c, .int .i64 d]) (t := 23) (by simp))
              have hgv : gv < wr.heap.size := H.out.lt (x := (gv, #[.int .i64 c, .int .i64 d], 23)) (by simp)
              have T2 := Lib.hid (H.out.alloc #[.int .i64 p, .int .i64 q] 23)
              go_wp2_with fail
              with_reducible refine (S2'.out _).mono ?_
              rintro e w6 ⟨rfl, hb⟩
              have T3 := Lib.hid ((T2.out.step hb).alloc #[.int .i64 (cn2 k), .int .i64 (cd2 k)] 23)
              clear hb T2 H b0 b1 b2 b3 v0 v1 hgv
              go_upto_region 13 with fail
              generalize w6.alloc (.cells #[.int .i64 (cn2 k), .int .i64 (cd2 k)] 23) = W7 at *
              generalize w6.heap.size = gc at *
              generalize wr.heap.size = gw at *
              cases bv with
              | false =>
                go_wp2_with fail
                go_roundw
                case rel => exact Or.inr (Or.inl ⟨(by first | rfl | trivial), _, rfl, (fun h => by cases h), T3.out.sub (by intro x hx; exact List.mem_cons_of_mem _ (List.mem_cons_of_mem _ hx))⟩)
                case measure => simp [intOf]
              | true =>
                by_cases hf : fe2 k = 0
                · have hfb : (fe2 k == 0) = true := by simp [hf]
                  obtain ⟨d0, d1⟩ := cells2 (T3.out.row (b := gc) (cs := #[.int .i64 (cn2 k), .int .i64 (cd2 k)]) (t := 23) (by simp))
                  obtain ⟨z0, z1, z2, z3, z4⟩ := Has.c4 (g := w.heap.size + 1 + 1) (x := .int .i64 u1) (y := .int .i64 u2) (z := .int .i64 u3) (u := .int .i64 u4) (t := 25) T3.out (by simp)
                  go_wp2_with fail
                  with_reducible refine (I2'.out _).mono ?_
                  rintro e w8 ⟨rfl, hb⟩
                  have T4 := Lib.hid (T3.out.step hb)
                  clear hb T3 d0 d1 z0 z1 z2 z3 z4
                  go_wp2_with fail
                  go_roundw
                  case rel => exact Or.inr (Or.inl ⟨(by first | rfl | trivial), _, rfl, (fun h => okmore2 (hbv.out (by trivial)) hf h), T4.out.sub (by intro x hx; exact List.mem_cons_of_mem _ (List.mem_cons_of_mem _ hx))⟩)
                  case measure => simp [intOf]
                · have hfb : (fe2 k == 0) = false := by simp [hf]
                  go_wp2_with fail
                  go_roundw
                  case rel => exact Or.inr (Or.inl ⟨(by first | rfl | trivial), _, rfl, (fun h => by cases h), T3.out.sub (by intro x hx; exact List.mem_cons_of_mem _ (List.mem_cons_of_mem _ hx))⟩)
                  case measure => simp [intOf]
            · skip
              obtain ⟨b0, b1, b2, b3⟩ := cells4 (H.out.row (b := gv + 1) (cs := #[.int .i64 p, .int .i64 q, .int .i64 r, .int .i64 s]) (t := 23) (by simp))
              obtain ⟨v0, v1⟩ := cells2 (H.out.row (b := gv) (cs := #[.int .i64 c, .int .i64 d]) (t := 23) (by simp))
              have hgv : gv < wr.heap.size := H.out.lt (x := (gv, #[.int .i64 c, .int .i64 d], 23)) (by simp)
              have T2 := Lib.hid (H.out.alloc #[.int .i64 r, .int .i64 s] 23)
              go_wp2_with fail
              with_reducible refine (S3'.out _).mono ?_
              rintro e w6 ⟨rfl, hb⟩
              have T3 := Lib.hid ((T2.out.step hb).alloc #[.int .i64 (cn3 k), .int .i64 (cd3 k)] 23)
              clear hb T2 H b0 b1 b2 b3 v0 v1 hgv
              go_upto_region 13 with fail
              generalize w6.alloc (.cells #[.int .i64 (cn3 k), .int .i64 (cd3 k)] 23) = W7 at *
              generalize w6.heap.size = gc at *
              generalize wr.heap.size = gw at *
              cases bv with
              | false =>
                go_wp2_with fail
                go_roundw
                case rel => exact Or.inr (Or.inr ⟨(by first | rfl | trivial), _, rfl, (fun h => by cases h), T3.out.sub (by intro x hx; exact List.mem_cons_of_mem _ (List.mem_cons_of_mem _ hx))⟩)
                case measure => simp [intOf]
              | true =>
                by_cases hf : fe3 k = 0
                · have hfb : (fe3 k == 0) = true := by simp [hf]
                  obtain ⟨d0, d1⟩ := cells2 (T3.out.row (b := gc) (cs := #[.int .i64 (cn3 k), .int .i64 (cd3 k)]) (t := 23) (by simp))
                  obtain ⟨z0, z1, z2, z3, z4⟩ := Has.c4 (g := w.heap.size + 1 + 1) (x := .int .i64 u1) (y := .int .i64 u2) (z := .int .i64 u3) (u := .int .i64 u4) (t := 25) T3.out (by simp)
                  go_wp2_with fail
                  with_reducible refine (I3'.out _).mono ?_
                  rintro e w8 ⟨rfl, hb⟩
                  have T4 := Lib.hid (T3.out.step hb)
                  clear hb T3 d0 d1 z0 z1 z2 z3 z4
                  go_wp2_with fail
                  go_roundw
                  case rel => exact Or.inr (Or.inr ⟨(by first | rfl | trivial), _, rfl, (fun h => okmore3 (hbv.out (by trivial)) hf h), T4.out.sub (by intro x hx; exact List.mem_cons_of_mem _ (List.mem_cons_of_mem _ hx))⟩)
                  case measure => simp [intOf]
                · have hfb : (fe3 k == 0) = false := by simp [hf]
                  go_wp2_with fail
                  go_roundw
                  case rel => exact Or.inr (Or.inr ⟨(by first | rfl | trivial), _, rfl, (fun h => by cases h), T3.out.sub (by intro x hx; exact List.mem_cons_of_mem _ (List.mem_cons_of_mem _ hx))⟩)
                  case measure => simp [intOf]
            · go_wp2_with fail
              go_roundw
              case rel => exact Or.inr (Or.inr ⟨(by first | rfl | trivial), _, rfl, hbv, H.out.sub (by intro x hx; exact List.mem_cons_of_mem _ (List.mem_cons_of_mem _ hx))⟩)
              case measure => simp [intOf]
        · have TS := Lib.hid (H.out.sub (M := (gr, #[.int .i64 (r0 k), .int .i64 (r1 k), .int .i64 (r2 k), .int .i64 (r3 k)], 25) :: [(w.heap.size + 1 + 1, #[.int .i64 u1, .int .i64 u2, .int .i64 u3, .int .i64 u4], 25), (w.heap.size + 1, #[.int .i64 p, .int .i64 q, .int .i64 r, .int .i64 s], 25), (w.heap.size, #[.int .i64 a, .int .i64 b, .int .i64 c, .int .i64 d], 25)]) (by intro x hx; exact List.mem_cons_of_mem _ hx))
          clear H
          cases bv with
          | false =>
            go_wp2_with fail
            go_roundw
            case rel => exact ⟨k + 1, by go_num, by omega, by omega, TS.out.sub (by intro x hx; exact List.mem_cons_of_mem _ hx)⟩
            case measure => simp [intOf]; omega
          | true =>
            have CK := Lib.hid (CZ'.out (hbv.out (by trivial)))
            obtain ⟨z0, z1, z2, z3, z4⟩ := Has.c4 (g := w.heap.size + 1 + 1) (x := .int .i64 u1) (y := .int .i64 u2) (z := .int .i64 u3) (u := .int .i64 u4) (t := 25) TS.out (by simp)
            obtain ⟨r0', r1', r2', r3', r4'⟩ := Has.c4 (g := gr) (x := .int .i64 (r0 k)) (y := .int .i64 (r1 k)) (z := .int .i64 (r2 k)) (u := .int .i64 (r3 k)) (t := 25) TS.out (by simp)
            go_wp2_with fail
            with_reducible refine (CK.out _).mono ?_
            rintro e w9 ⟨rfl, hb⟩
            have T9 := Lib.hid (TS.out.step hb)
            clear hb TS z0 z1 z2 z3 z4 r0' r1' r2' r3' r4'
            go_wp2_with fail
            go_roundw
            case rel => exact ⟨k + 1, by go_num, by omega, by omega, T9.out.sub (by intro x hx; exact List.mem_cons_of_mem _ hx)⟩
            case measure => simp [intOf]; omega
    · obtain rfl : k = 4 := by omega
      clear A S0 S1 S2 S3 I0 I1 I2 I3 CZ hk hk0 hk4
      go_upto_region 19 with fail
      obtain ⟨x0, x1, x2, x3, x4⟩ := Has.c4 (g := w.heap.size) (x := .int .i64 a) (y := .int .i64 b) (z := .int .i64 c) (u := .int .i64 d) (t := 25) H.out (by simp)
      obtain ⟨y0, y1, y2, y3, y4⟩ := Has.c4 (g := w.heap.size + 1) (x := .int .i64 p) (y := .int .i64 q) (z := .int .i64 r) (u := .int .i64 s) (t := 25) H.out (by simp)
      obtain ⟨z0, z1, z2, z3, z4⟩ := Has.c4 (g := w.heap.size + 1 + 1) (x := .int .i64 u1) (y := .int .i64 u2) (z := .int .i64 u3) (u := .int .i64 u4) (t := 25) H.out (by simp)
      have qx0 := cell_regrown x0
      have qx1 := cell_regrown x1
      have qx2 := cell_regrown x2
      have qx3 := cell_regrown x3
      have qy0 := cell_regrown y0
      have qy1 := cell_regrown y1
      have qy2 := cell_regrown y2
      have qy3 := cell_regrown y3
      have qz0 := cell_regrown z0
      have qz1 := cell_regrown z1
      have qz2 := cell_regrown z2
      have qz3 := cell_regrown z3
      clear x0 x1 x2 x3 x4 y0 y1 y2 y3 y4 z0 z1 z2 z3 z4
      rcases (show cx = false ∨ (cx = true ∧ cy = false) ∨ (cx = true ∧ cy = true) by cases cx <;> cases cy <;> simp) with rfl | ⟨rfl, rfl⟩ | ⟨rfl, rfl⟩
      · skip
        clear N3
        have mixed : Try.prog.follows .mixedOrders = true := by kernel_rfl
        refine wp_region_quiet_below (by assumption) (by kernel_rfl) ?_
        quiet_step (fail)
        quiet_step (fail)
        quiet_step (exact Calls.regrown_of (N1.out _))
        quiet_step (fail)
        quiet_step (fail)
        quiet_step (fail)
        quiet_step (fail)
        quiet_step (fail)
        quiet_step (fail)
        quiet_step (fail)
        quiet_step (fail)
        quiet_step (fail)
        quiet_step (fail)
        quiet_step (fail)
        quiet_step (fail)
        quiet_step (fail)
        quiet_step (fail)
        quiet_step (fail)
        quiet_step (exact Calls.regrown_of (AW.out _))
        quiet_step (fail)
        quiet_step (fail)
        refine wpQuiet_nil ?_
        intro _ hw'
        obtain ⟨⟨dq, osq⟩, hw''⟩ := hw'
        subst hw''
        have TZ := H.out.1.trans ((below_regrown wr dq osq).mono H.out.1.size)
        go_wp2
        go_ret
        exact ⟨rfl, TZ⟩
      · skip
        clear N3
        have mixed : Try.prog.follows .mixedOrders = true := by kernel_rfl
        refine wp_region_quiet_below (by assumption) (by kernel_rfl) ?_
        quiet_step (fail)
        quiet_step (fail)
        quiet_step (exact Calls.regrown_of (N1.out _))
        quiet_step (fail)
        quiet_step (fail)
        quiet_step (fail)
        quiet_step (fail)
        quiet_step (exact Calls.regrown_of (N2.out _))
        quiet_step (fail)
        quiet_step (fail)
        quiet_step (fail)
        quiet_step (fail)
        quiet_step (fail)
        quiet_step (fail)
        quiet_step (fail)
        quiet_step (fail)
        quiet_step (fail)
        quiet_step (fail)
        quiet_step (exact Calls.regrown_of (AW.out _))
        quiet_step (fail)
        quiet_step (fail)
        refine wpQuiet_nil ?_
        intro _ hw'
        obtain ⟨⟨dq, osq⟩, hw''⟩ := hw'
        subst hw''
        have TZ := H.out.1.trans ((below_regrown wr dq osq).mono H.out.1.size)
        go_wp2
        go_ret
        exact ⟨rfl, TZ⟩
      · skip
        have N4 := Lib.hid (N3.out rfl rfl)
        clear N3
        have mixed : Try.prog.follows .mixedOrders = true := by kernel_rfl
        refine wp_region_quiet_below (by assumption) (by kernel_rfl) ?_
        quiet_step (fail)
        quiet_step (fail)
        quiet_step (exact Calls.regrown_of (N1.out _))
        quiet_step (fail)
        quiet_step (fail)
        quiet_step (fail)
        quiet_step (fail)
        quiet_step (exact Calls.regrown_of (N2.out _))
        quiet_step (fail)
        quiet_step (fail)
        quiet_step (fail)
        quiet_step (fail)
        quiet_step (fail)
        quiet_step (fail)
        quiet_step (exact Calls.regrown_of (HU.out _))
        quiet_step (exact Calls.regrown_of (N4.out _))
        quiet_step (fail)
        quiet_step (fail)
        quiet_step (exact Calls.regrown_of (AW.out _))
        quiet_step (fail)
        quiet_step (fail)
        refine wpQuiet_nil ?_
        intro _ hw'
        obtain ⟨⟨dq, osq⟩, hw''⟩ := hw'
        subst hw''
        have TZ := H.out.1.trans ((below_regrown wr dq osq).mono H.out.1.size)
        go_wp2
        go_ret
        exact ⟨rfl, TZ⟩
end Go.Proofs.Ytbiegbnncnjnmaa.Iv
namespace Go.Proofs.Ytbiegbnncnjnmaa.Iv
open Go.RowKit
open Go.Proofs.Ytbiegbnncnjnmaa.Rat (inI)

def resK (k : Int) (x y : I4) : I4 × Int := if k = 0 then ad x y else if k = 1 then sb x y else if k = 2 then mu x y else dv x y
def sinK (k : Int) (n1 d1 n2 d2 : Int) : Int × Int × Int := if k = 0 then opT (· + ·) n1 d1 n2 d2 else if k = 1 then opT (· - ·) n1 d1 n2 d2 else if k = 2 then opT (· * ·) n1 d1 n2 d2 else opD n1 d1 n2 d2
theorem four_k {k : Int} (h0 : 0 ≤ k) (h4 : k < 4) : k = 0 ∨ k = 1 ∨ k = 2 ∨ k = 3 := by omega
theorem resK_ok {k : Int} {x y : I4} (e : (resK k x y).2 = 0) : ok2 x y = true := by
  by_cases h : ok2 x y = true
  · exact h
  · exfalso
    unfold resK ad sb mu dv at e
    simp only [if_neg h] at e
    split at e
    · cases e
    · split at e
      · cases e
      · split at e <;> cases e
theorem sinK_in (k n1 d1 n2 d2 : Int) : inI (sinK k n1 d1 n2 d2).1 ∧ inI (sinK k n1 d1 n2 d2).2.1 := by
  unfold sinK
  split
  · exact opT_in _ _ _ _ _
  · split
    · exact opT_in _ _ _ _ _
    · split
      · exact opT_in _ _ _ _ _
      · exact opD_in _ _ _ _
/-- An interval that holds the four results of the ends holds the result. -/
theorem least_ct {k : Int} (h0 : 0 ≤ k) (h4 : k < 4) {x y z : I4} (e : (resK k x y).2 = 0)
    (f0 : (sinK k x.1 x.2.1 y.1 y.2.1).2.2 = 0) (n0 : el (sinK k x.1 x.2.1 y.1 y.2.1).1 (sinK k x.1 x.2.1 y.1 y.2.1).2.1 z = true)
    (f1 : (sinK k x.1 x.2.1 y.2.2.1 y.2.2.2).2.2 = 0) (n1 : el (sinK k x.1 x.2.1 y.2.2.1 y.2.2.2).1 (sinK k x.1 x.2.1 y.2.2.1 y.2.2.2).2.1 z = true)
    (f2 : (sinK k x.2.2.1 x.2.2.2 y.1 y.2.1).2.2 = 0) (n2 : el (sinK k x.2.2.1 x.2.2.2 y.1 y.2.1).1 (sinK k x.2.2.1 x.2.2.2 y.1 y.2.1).2.1 z = true)
    (f3 : (sinK k x.2.2.1 x.2.2.2 y.2.2.1 y.2.2.2).2.2 = 0) (n3 : el (sinK k x.2.2.1 x.2.2.2 y.2.2.1 y.2.2.2).1 (sinK k x.2.2.1 x.2.2.2 y.2.2.1 y.2.2.2).2.1 z = true) :
    ct z (resK k x y).1 = true := by
  obtain ⟨L1, H1, L2, H2, vx, vy⟩ := ok2_vals (resK_ok e)
  obtain ⟨Z1, Z2, _, vz, _, _, _⟩ := el_iff.1 n0
  rcases four_k h0 h4 with rfl | rfl | rfl | rfl
  · have v := ad_val vx vy e
    have a := (el_val vz (opT_ok vx.1 vy.1 f0)).1 n0
    have b := (el_val vz (opT_ok vx.2.1 vy.2.1 f3)).1 n3
    exact (ct_val vz v).2 ⟨a.1, b.2⟩
  · have v := sb_val vx vy e
    have a := (el_val vz (opT_ok vx.1 vy.2.1 f1)).1 n1
    have b := (el_val vz (opT_ok vx.2.1 vy.1 f2)).1 n2
    exact (ct_val vz v).2 ⟨a.1, b.2⟩
  · obtain ⟨P, Q, v, l⟩ := mu_val vx vy e
    have a0 := (el_val vz (opT_ok vx.1 vy.1 f0)).1 n0
    have a1 := (el_val vz (opT_ok vx.1 vy.2.1 f1)).1 n1
    have a2 := (el_val vz (opT_ok vx.2.1 vy.1 f2)).1 n2
    have a3 := (el_val vz (opT_ok vx.2.1 vy.2.1 f3)).1 n3
    exact (ct_val vz v).2 (l.within a0 a1 a2 a3)
  · obtain ⟨ap, P, Q, v, l⟩ := dv_val vx vy e
    obtain ⟨m1, m2⟩ := ends_ne vy ap
    have g0 : sinK 3 x.1 x.2.1 y.1 y.2.1 = opT (· / ·) x.1 x.2.1 y.1 y.2.1 := opD_eq m1
    have g1 : sinK 3 x.1 x.2.1 y.2.2.1 y.2.2.2 = opT (· / ·) x.1 x.2.1 y.2.2.1 y.2.2.2 := opD_eq m2
    have g2 : sinK 3 x.2.2.1 x.2.2.2 y.1 y.2.1 = opT (· / ·) x.2.2.1 x.2.2.2 y.1 y.2.1 := opD_eq m1
    have g3 : sinK 3 x.2.2.1 x.2.2.2 y.2.2.1 y.2.2.2 = opT (· / ·) x.2.2.1 x.2.2.2 y.2.2.1 y.2.2.2 := opD_eq m2
    rw [g0] at f0 n0
    rw [g1] at f1 n1
    rw [g2] at f2 n2
    rw [g3] at f3 n3
    have a0 := (el_val vz (opT_ok vx.1 vy.1 f0)).1 n0
    have a1 := (el_val vz (opT_ok vx.1 vy.2.1 f1)).1 n1
    have a2 := (el_val vz (opT_ok vx.2.1 vy.1 f2)).1 n2
    have a3 := (el_val vz (opT_ok vx.2.1 vy.2.1 f3)).1 n3
    exact (ct_val vz v).2 (l.within a0 a1 a2 a3)
theorem resK_in {k : Int} (h0 : 0 ≤ k) (h4 : k < 4) {x y : I4} (e : (resK k x y).2 = 0) : in4 (resK k x y).1 := by
  obtain ⟨L1, H1, L2, H2, vx, vy⟩ := ok2_vals (resK_ok e)
  rcases four_k h0 h4 with rfl | rfl | rfl | rfl
  · exact (ad_val vx vy e).in4
  · exact (sb_val vx vy e).in4
  · obtain ⟨P, Q, v, l⟩ := mu_val vx vy e
    exact v.in4
  · obtain ⟨ap, P, Q, v, l⟩ := dv_val vx vy e
    exact v.in4
theorem least_walk (x y z : I4) (hx : in4 x) (hy : in4 y) (hz : in4 z) (w : World) : Calls Try.prog 7 #[.agg #[.int .i64 x.1, .int .i64 x.2.1, .int .i64 x.2.2.1, .int .i64 x.2.2.2], .agg #[.int .i64 y.1, .int .i64 y.2.1, .int .i64 y.2.2.1, .int .i64 y.2.2.2], .agg #[.int .i64 z.1, .int .i64 z.2.1, .int .i64 z.2.2.1, .int .i64 z.2.2.2]] w fun e w' => e = .returned (.bool true) ∧ Below w.heap.size w w' := by
  refine least_raw x.1 x.2.1 x.2.2.1 x.2.2.2 y.1 y.2.1 y.2.2.1 y.2.2.2 z.1 z.2.1 z.2.2.1 z.2.2.2 (fun k => (resK k x y).1.1) (fun k => (resK k x y).1.2.1) (fun k => (resK k x y).1.2.2.1) (fun k => (resK k x y).1.2.2.2) (fun k => (resK k x y).2) (fun k => (sinK k x.1 x.2.1 y.1 y.2.1).1) (fun k => (sinK k x.1 x.2.1 y.1 y.2.1).2.1) (fun k => (sinK k x.1 x.2.1 y.1 y.2.1).2.2) (fun k => (sinK k x.1 x.2.1 y.2.2.1 y.2.2.2).1) (fun k => (sinK k x.1 x.2.1 y.2.2.1 y.2.2.2).2.1) (fun k => (sinK k x.1 x.2.1 y.2.2.1 y.2.2.2).2.2) (fun k => (sinK k x.2.2.1 x.2.2.2 y.1 y.2.1).1) (fun k => (sinK k x.2.2.1 x.2.2.2 y.1 y.2.1).2.1) (fun k => (sinK k x.2.2.1 x.2.2.2 y.1 y.2.1).2.2) (fun k => (sinK k x.2.2.1 x.2.2.2 y.2.2.1 y.2.2.2).1) (fun k => (sinK k x.2.2.1 x.2.2.2 y.2.2.1 y.2.2.2).2.1) (fun k => (sinK k x.2.2.1 x.2.2.2 y.2.2.1 y.2.2.2).2.2) (fun k => el (sinK k x.1 x.2.1 y.1 y.2.1).1 (sinK k x.1 x.2.1 y.1 y.2.1).2.1 z) (fun k => el (sinK k x.1 x.2.1 y.2.2.1 y.2.2.2).1 (sinK k x.1 x.2.1 y.2.2.1 y.2.2.2).2.1 z) (fun k => el (sinK k x.2.2.1 x.2.2.2 y.1 y.2.1).1 (sinK k x.2.2.1 x.2.2.2 y.1 y.2.1).2.1 z) (fun k => el (sinK k x.2.2.1 x.2.2.2 y.2.2.1 y.2.2.2).1 (sinK k x.2.2.1 x.2.2.2 y.2.2.1 y.2.2.2).2.1 z) (ct z x) (ct z y) (hu x y).1 (hu x y).2.1 (hu x y).2.2.1 (hu x y).2.2.2 ?_ ?_ ?_ ?_ ?_ ?_ ?_ ?_ ?_ ?_ (pcontains4 z x hz hx) (pcontains4 z y hz hy) (phull4 x y hx hy) ?_ awake_any w
  · refine Lib.hid fun k h0 h4 => ?_
    rcases four_k h0 h4 with rfl | rfl | rfl | rfl
    · exact (arith0 x y hx hy).out
    · exact (arith1 x y hx hy).out
    · exact (arith2 x y hx hy).out
    · exact (arith3 x y hx hy).out
  · refine Lib.hid fun k h0 h4 => ?_
    rcases four_k h0 h4 with rfl | rfl | rfl | rfl
    · exact (single0 x.1 x.2.1 y.1 y.2.1 hx.1 hx.2.1 hy.1 hy.2.1).out
    · exact (single1 x.1 x.2.1 y.1 y.2.1 hx.1 hx.2.1 hy.1 hy.2.1).out
    · exact (single2 x.1 x.2.1 y.1 y.2.1 hx.1 hx.2.1 hy.1 hy.2.1).out
    · exact (single3 x.1 x.2.1 y.1 y.2.1 hx.1 hx.2.1 hy.1 hy.2.1).out
  · exact Lib.hid fun k h0 h4 => (in4c _ _ z (sinK_in k _ _ _ _).1 (sinK_in k _ _ _ _).2 hz).out
  · refine Lib.hid fun k h0 h4 => ?_
    rcases four_k h0 h4 with rfl | rfl | rfl | rfl
    · exact (single0 x.1 x.2.1 y.2.2.1 y.2.2.2 hx.1 hx.2.1 hy.2.2.1 hy.2.2.2).out
    · exact (single1 x.1 x.2.1 y.2.2.1 y.2.2.2 hx.1 hx.2.1 hy.2.2.1 hy.2.2.2).out
    · exact (single2 x.1 x.2.1 y.2.2.1 y.2.2.2 hx.1 hx.2.1 hy.2.2.1 hy.2.2.2).out
    · exact (single3 x.1 x.2.1 y.2.2.1 y.2.2.2 hx.1 hx.2.1 hy.2.2.1 hy.2.2.2).out
  · exact Lib.hid fun k h0 h4 => (in4c _ _ z (sinK_in k _ _ _ _).1 (sinK_in k _ _ _ _).2 hz).out
  · refine Lib.hid fun k h0 h4 => ?_
    rcases four_k h0 h4 with rfl | rfl | rfl | rfl
    · exact (single0 x.2.2.1 x.2.2.2 y.1 y.2.1 hx.2.2.1 hx.2.2.2 hy.1 hy.2.1).out
    · exact (single1 x.2.2.1 x.2.2.2 y.1 y.2.1 hx.2.2.1 hx.2.2.2 hy.1 hy.2.1).out
    · exact (single2 x.2.2.1 x.2.2.2 y.1 y.2.1 hx.2.2.1 hx.2.2.2 hy.1 hy.2.1).out
    · exact (single3 x.2.2.1 x.2.2.2 y.1 y.2.1 hx.2.2.1 hx.2.2.2 hy.1 hy.2.1).out
  · exact Lib.hid fun k h0 h4 => (in4c _ _ z (sinK_in k _ _ _ _).1 (sinK_in k _ _ _ _).2 hz).out
  · refine Lib.hid fun k h0 h4 => ?_
    rcases four_k h0 h4 with rfl | rfl | rfl | rfl
    · exact (single0 x.2.2.1 x.2.2.2 y.2.2.1 y.2.2.2 hx.2.2.1 hx.2.2.2 hy.2.2.1 hy.2.2.2).out
    · exact (single1 x.2.2.1 x.2.2.2 y.2.2.1 y.2.2.2 hx.2.2.1 hx.2.2.2 hy.2.2.1 hy.2.2.2).out
    · exact (single2 x.2.2.1 x.2.2.2 y.2.2.1 y.2.2.2 hx.2.2.1 hx.2.2.2 hy.2.2.1 hy.2.2.2).out
    · exact (single3 x.2.2.1 x.2.2.2 y.2.2.1 y.2.2.2 hx.2.2.1 hx.2.2.2 hy.2.2.1 hy.2.2.2).out
  · exact Lib.hid fun k h0 h4 => (in4c _ _ z (sinK_in k _ _ _ _).1 (sinK_in k _ _ _ _).2 hz).out
  · refine Lib.hid fun k h0 h4 h => ?_
    obtain ⟨e, f0, n0, f1, n1, f2, n2, f3, n3⟩ := h
    exact (ct_yes (least_ct h0 h4 e f0 n0 f1 n1 f2 n2 f3 n3) hz (resK_in h0 h4 e)).out
  · refine Lib.hid fun c1 c2 => ?_
    obtain ⟨Z1, Z2, L1, H1, vz, vx, a1, a2⟩ := ct_iff.1 c1
    obtain ⟨Z1', Z2', L2, H2, vz', vy, b1, b2⟩ := ct_iff.1 c2
    obtain ⟨d1, d2⟩ := vz.det vz'
    subst d1 d2
    exact (ct_yes ((ct_val vz (hu_val vx vy)).2 ⟨le_rmin a1 b1, rmax_le a2 b2⟩) hz (hu_val vx vy).in4).out
end Go.Proofs.Ytbiegbnncnjnmaa.Iv
