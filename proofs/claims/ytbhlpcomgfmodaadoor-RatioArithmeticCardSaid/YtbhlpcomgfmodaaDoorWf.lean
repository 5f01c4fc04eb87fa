/- The walks of the laws of layer 3: Arithmetic. -/
import Derived.Test.YtbhlpcomgfmodaaDoorWr
import Derived.Test.YtbhlpcomgfmodaaDoorPX
set_option linter.unusedVariables false
set_option linter.unusedSimpArgs false
namespace Go.Proofs.YtbhlpcomgfmodaaDoor.Pro
open Go.RowKit

/-- The blocks of a law, as a region carries them. -/
structure HL (w : World) (L : List (Nat × Array Value × TypeId)) (V : World) : Prop where
  has : Has w L V
structure HLk (w : World) (L : List (Nat × Array Value × TypeId)) (V : World) : Prop where
  out : HL w L V
theorem HL.step {w V V2 : World} {L : List (Nat × Array Value × TypeId)} (hb : Below V.heap.size V V2) (h : HL w L V) : HL w L V2 := ⟨h.has.step hb⟩
theorem HL.drew {w V : World} {L : List (Nat × Array Value × TypeId)} (h : HL w L V) : HL w L V.drew := ⟨h.has.drew⟩
theorem HL.t10 {w V : World} {L : List (Nat × Array Value × TypeId)} (ht : T10 w) (h : HL w L V) : T10 V := ht.below h.has.1
theorem HL.all3 {w V : World} {g1 g2 g3 : Nat} {a1 b1 a2 b2 a3 b3 : Int}
    (h : HL w [(g1, #[.int .i64 a1, .int .i64 b1], 23), (g2, #[.int .i64 a2, .int .i64 b2], 23), (g3, #[.int .i64 a3, .int .i64 b3], 23)] V) :
    HL w [(g1, #[.int .i64 a1, .int .i64 b1], 23), (g2, #[.int .i64 a2, .int .i64 b2], 23), (g3, #[.int .i64 a3, .int .i64 b3], 23)] V ∧
      V.cell? ⟨g1, 0, none⟩ = some (.int .i64 a1) ∧ V.cell? ⟨g1, 1, none⟩ = some (.int .i64 b1) ∧ V.cell? ⟨g2, 0, none⟩ = some (.int .i64 a2) ∧ V.cell? ⟨g2, 1, none⟩ = some (.int .i64 b2) ∧
      V.cell? ⟨g3, 0, none⟩ = some (.int .i64 a3) ∧ V.cell? ⟨g3, 1, none⟩ = some (.int .i64 b3) :=
  have h1 := cells2 (h.has.row (b := g1) (cs := #[.int .i64 a1, .int .i64 b1]) (t := 23) (by simp))
  have h2 := cells2 (h.has.row (b := g2) (cs := #[.int .i64 a2, .int .i64 b2]) (t := 23) (by simp))
  have h3 := cells2 (h.has.row (b := g3) (cs := #[.int .i64 a3, .int .i64 b3]) (t := 23) (by simp))
  ⟨h, h1.1, h1.2, h2.1, h2.2, h3.1, h3.2⟩
theorem divOut_form (n1 d1 n2 d2 : Int) : ∃ a b x : Int, Rat.divOut n1 d1 n2 d2 = .tuple #[.agg #[.int .i64 a, .int .i64 b], .int .i64 x] := by
  unfold Rat.divOut
  split
  · exact ⟨_, _, _, rfl⟩
  · exact opOut_form _ _ _ _ _
theorem HL.all4 {w V : World} {g1 g2 g3 g4 : Nat} {a1 b1 a2 b2 a3 b3 a4 b4 : Int}
    (h : HL w [(g1, #[.int .i64 a1, .int .i64 b1], 23), (g2, #[.int .i64 a2, .int .i64 b2], 23), (g3, #[.int .i64 a3, .int .i64 b3], 23), (g4, #[.int .i64 a4, .int .i64 b4], 23)] V) :
    HL w [(g1, #[.int .i64 a1, .int .i64 b1], 23), (g2, #[.int .i64 a2, .int .i64 b2], 23), (g3, #[.int .i64 a3, .int .i64 b3], 23), (g4, #[.int .i64 a4, .int .i64 b4], 23)] V ∧
      V.cell? ⟨g1, 0, none⟩ = some (.int .i64 a1) ∧ V.cell? ⟨g1, 1, none⟩ = some (.int .i64 b1) ∧ V.cell? ⟨g2, 0, none⟩ = some (.int .i64 a2) ∧ V.cell? ⟨g2, 1, none⟩ = some (.int .i64 b2) ∧
      V.cell? ⟨g3, 0, none⟩ = some (.int .i64 a3) ∧ V.cell? ⟨g3, 1, none⟩ = some (.int .i64 b3) ∧ V.cell? ⟨g4, 0, none⟩ = some (.int .i64 a4) ∧ V.cell? ⟨g4, 1, none⟩ = some (.int .i64 b4) :=
  have h1 := cells2 (h.has.row (b := g1) (cs := #[.int .i64 a1, .int .i64 b1]) (t := 23) (by simp))
  have h2 := cells2 (h.has.row (b := g2) (cs := #[.int .i64 a2, .int .i64 b2]) (t := 23) (by simp))
  have h3 := cells2 (h.has.row (b := g3) (cs := #[.int .i64 a3, .int .i64 b3]) (t := 23) (by simp))
  have h4 := cells2 (h.has.row (b := g4) (cs := #[.int .i64 a4, .int .i64 b4]) (t := 23) (by simp))
  ⟨h, h1.1, h1.2, h2.1, h2.2, h3.1, h3.2, h4.1, h4.2⟩
/-- The first of four blocks is set anew, cell by cell. -/
theorem Has.put {w V : World} {L M : List (Nat × Array Value × TypeId)} {g : Nat} {a b a' b' : Int} (h : Has w L V) (hL : ∀ x ∈ (g, #[.int .i64 a, .int .i64 b], 23) :: M, x ∈ L) (hM : ∀ x ∈ M, x.1 ≠ g) :
    Has w ((g, #[.int .i64 a', .int .i64 b'], 23) :: M) ((V.setCell ⟨g, 0, none⟩ (.int .i64 a')).setCell ⟨g, 1, none⟩ (.int .i64 b')) := by
  have h1 := (h.sub hL).set hM 0 (.int .i64 a')
  have h2 := h1.set hM 1 (.int .i64 b')
  exact h2
set_option maxHeartbeats 4000000 in
set_option maxRecDepth 100000 in
theorem alaw_raw (n1 d1 n2 d2 p1 q1 x1 p2 q2 x2 p3 q3 x3 p4 q4 x4 c : Int)
    (A1 : Hid (∀ w : World, Calls Tryd.prog 20 #[.agg #[.int .i64 n1, .int .i64 d1], .agg #[.int .i64 n2, .int .i64 d2]] w fun e w' => e = .returned (.tuple #[.agg #[.int .i64 p1, .int .i64 q1], .int .i64 x1]) ∧ Below w.heap.size w w'))
    (B1 : Hid (∀ w : World, Calls Tryd.prog 21 #[.agg #[.int .i64 n1, .int .i64 d1], .agg #[.int .i64 n2, .int .i64 d2]] w fun e w' => e = .returned (.tuple #[.agg #[.int .i64 p1, .int .i64 q1], .int .i64 x1]) ∧ Below w.heap.size w w'))
    (A2 : Hid (∀ w : World, Calls Tryd.prog 22 #[.agg #[.int .i64 n1, .int .i64 d1], .agg #[.int .i64 n2, .int .i64 d2]] w fun e w' => e = .returned (.tuple #[.agg #[.int .i64 p2, .int .i64 q2], .int .i64 x2]) ∧ Below w.heap.size w w'))
    (B2 : Hid (∀ w : World, Calls Tryd.prog 23 #[.agg #[.int .i64 n1, .int .i64 d1], .agg #[.int .i64 n2, .int .i64 d2]] w fun e w' => e = .returned (.tuple #[.agg #[.int .i64 p2, .int .i64 q2], .int .i64 x2]) ∧ Below w.heap.size w w'))
    (A3 : Hid (∀ w : World, Calls Tryd.prog 24 #[.agg #[.int .i64 n1, .int .i64 d1], .agg #[.int .i64 n2, .int .i64 d2]] w fun e w' => e = .returned (.tuple #[.agg #[.int .i64 p3, .int .i64 q3], .int .i64 x3]) ∧ Below w.heap.size w w'))
    (B3 : Hid (∀ w : World, Calls Tryd.prog 25 #[.agg #[.int .i64 n1, .int .i64 d1], .agg #[.int .i64 n2, .int .i64 d2]] w fun e w' => e = .returned (.tuple #[.agg #[.int .i64 p3, .int .i64 q3], .int .i64 x3]) ∧ Below w.heap.size w w'))
    (A4 : Hid (∀ w : World, Calls Tryd.prog 26 #[.agg #[.int .i64 n1, .int .i64 d1], .agg #[.int .i64 n2, .int .i64 d2]] w fun e w' => e = .returned (.tuple #[.agg #[.int .i64 p4, .int .i64 q4], .int .i64 x4]) ∧ Below w.heap.size w w'))
    (B4 : Hid (∀ w : World, Calls Tryd.prog 27 #[.agg #[.int .i64 n1, .int .i64 d1], .agg #[.int .i64 n2, .int .i64 d2]] w fun e w' => e = .returned (.tuple #[.agg #[.int .i64 p4, .int .i64 q4], .int .i64 x4]) ∧ Below w.heap.size w w'))
    (CA : Hid (∀ w : World, Calls Tryd.prog 28 #[.agg #[.int .i64 n1, .int .i64 d1], .agg #[.int .i64 n2, .int .i64 d2]] w fun e w' => e = .returned (.int .i64 c) ∧ Below w.heap.size w w'))
    (CB : Hid (∀ w : World, Calls Tryd.prog 29 #[.agg #[.int .i64 n1, .int .i64 d1], .agg #[.int .i64 n2, .int .i64 d2]] w fun e w' => e = .returned (.int .i64 c) ∧ Below w.heap.size w w'))
    (w : World) (ht : T10 w) :
    Calls Tryd.prog 4 #[.agg #[.int .i64 n1, .int .i64 d1], .agg #[.int .i64 n2, .int .i64 d2]] w fun e w' => e = .returned (.bool true) ∧ Below w.heap.size w w' := by
  have HT := Lib.hid ht
  clear ht
  have T0 := Lib.hid (P2.start w n1 d1 n2 d2).has
  go_enter Tryd.func4, Tryd.ntmps4
  go_wp2_with fail
  with_reducible refine (A1.out _).mono ?_
  rintro e w1 ⟨rfl, hb1⟩
  have k1 : w.heap.size + 1 < w1.heap.size := (T0.out.step hb1).lt (x := (w.heap.size + 1, #[.int .i64 n2, .int .i64 d2], 23)) (by simp)
  have T1 := Lib.hid ((T0.out.step hb1).alloc #[.int .i64 p1, .int .i64 q1] 23)
  clear hb1 T0 A1
  go_upto_region 2 with fail
  generalize w1.alloc (.cells #[.int .i64 p1, .int .i64 q1] 23) = y1 at *
  generalize w1.heap.size = g3 at *
  obtain ⟨u0, u1⟩ := cells2 (T1.out.row (b := w.heap.size) (cs := #[.int .i64 n1, .int .i64 d1]) (t := 23) (by simp))
  obtain ⟨v0, v1⟩ := cells2 (T1.out.row (b := w.heap.size + 1) (cs := #[.int .i64 n2, .int .i64 d2]) (t := 23) (by simp))
  go_wp2_with fail
  with_reducible refine (B1.out _).mono ?_
  rintro e w2 ⟨rfl, hb2⟩
  have k2 : g3 < w2.heap.size := (T1.out.step hb2).lt (x := (g3, #[.int .i64 p1, .int .i64 q1], 23)) (by simp)
  have T2 := Lib.hid ((T1.out.step hb2).alloc #[.int .i64 p1, .int .i64 q1] 23)
  clear hb2 T1 B1 u0 u1 v0 v1
  go_upto_region 3 with fail
  generalize w2.alloc (.cells #[.int .i64 p1, .int .i64 q1] 23) = y2 at *
  generalize w2.heap.size = g4 at *
  obtain ⟨u0, u1⟩ := cells2 (T2.out.row (b := w.heap.size) (cs := #[.int .i64 n1, .int .i64 d1]) (t := 23) (by simp))
  obtain ⟨v0, v1⟩ := cells2 (T2.out.row (b := w.heap.size + 1) (cs := #[.int .i64 n2, .int .i64 d2]) (t := 23) (by simp))
  obtain ⟨a0, a1⟩ := cells2 (T2.out.row (b := g3) (cs := #[.int .i64 p1, .int .i64 q1]) (t := 23) (by simp))
  obtain ⟨b0, b1⟩ := cells2 (T2.out.row (b := g4) (cs := #[.int .i64 p1, .int .i64 q1]) (t := 23) (by simp))
  go_wp2_with fail
  with_reducible refine (A2.out _).mono ?_
  rintro e w23 ⟨rfl, hb3⟩
  have T23 := Lib.hid (T2.out.step hb3)
  clear hb3 T2 A2 u0 u1 v0 v1 a0 a1 b0 b1
  obtain ⟨a0, a1⟩ := cells2 (T23.out.row (b := g3) (cs := #[.int .i64 p1, .int .i64 q1]) (t := 23) (by simp))
  obtain ⟨fa0, fa1⟩ := frozen2 (T23.out.row (b := g3) (cs := #[.int .i64 p1, .int .i64 q1]) (t := 23) (by simp))
  go_upto_region 6 with fail
  have T24 := Lib.hid (Has.put (g := g3) (a := p1) (b := q1) (a' := p2) (b' := q2) (M := [(g4, #[.int .i64 p1, .int .i64 q1], 23), (w.heap.size + 1, #[.int .i64 n2, .int .i64 d2], 23), (w.heap.size, #[.int .i64 n1, .int .i64 d1], 23)]) T23.out (by intro x hx; simp only [List.mem_cons, List.not_mem_nil, or_false] at hx ⊢; rcases hx with h | h | h | h <;> simp [h]) (by intro x hx; simp only [List.mem_cons, List.not_mem_nil, or_false] at hx; rcases hx with h | h | h <;> (rw [h]; simp only; omega)))
  clear T23 a0 a1 fa0 fa1
  generalize (w23.setCell ⟨g3, 0, none⟩ (.int .i64 p2)).setCell ⟨g3, 1, none⟩ (.int .i64 q2) = y24 at *
  obtain ⟨u0, u1⟩ := cells2 (T24.out.row (b := w.heap.size) (cs := #[.int .i64 n1, .int .i64 d1]) (t := 23) (by simp))
  obtain ⟨v0, v1⟩ := cells2 (T24.out.row (b := w.heap.size + 1) (cs := #[.int .i64 n2, .int .i64 d2]) (t := 23) (by simp))
  go_wp2_with fail
  with_reducible refine (B2.out _).mono ?_
  rintro e w25 ⟨rfl, hb3⟩
  have T25 := Lib.hid (T24.out.step hb3)
  clear hb3 T24 B2 u0 u1 v0 v1
  obtain ⟨b0, b1⟩ := cells2 (T25.out.row (b := g4) (cs := #[.int .i64 p1, .int .i64 q1]) (t := 23) (by simp))
  obtain ⟨fb0, fb1⟩ := frozen2 (T25.out.row (b := g4) (cs := #[.int .i64 p1, .int .i64 q1]) (t := 23) (by simp))
  go_upto_region 7 with fail
  have T26 := Lib.hid (Has.put (g := g4) (a := p1) (b := q1) (a' := p2) (b' := q2) (M := [(g3, #[.int .i64 p2, .int .i64 q2], 23), (w.heap.size + 1, #[.int .i64 n2, .int .i64 d2], 23), (w.heap.size, #[.int .i64 n1, .int .i64 d1], 23)]) T25.out (by intro x hx; simp only [List.mem_cons, List.not_mem_nil, or_false] at hx ⊢; rcases hx with h | h | h | h <;> simp [h]) (by intro x hx; simp only [List.mem_cons, List.not_mem_nil, or_false] at hx; rcases hx with h | h | h <;> (rw [h]; simp only; omega)))
  clear T25 b0 b1 fb0 fb1
  generalize (w25.setCell ⟨g4, 0, none⟩ (.int .i64 p2)).setCell ⟨g4, 1, none⟩ (.int .i64 q2) = y26 at *
  obtain ⟨u0, u1⟩ := cells2 (T26.out.row (b := w.heap.size) (cs := #[.int .i64 n1, .int .i64 d1]) (t := 23) (by simp))
  obtain ⟨v0, v1⟩ := cells2 (T26.out.row (b := w.heap.size + 1) (cs := #[.int .i64 n2, .int .i64 d2]) (t := 23) (by simp))
  obtain ⟨a0, a1⟩ := cells2 (T26.out.row (b := g3) (cs := #[.int .i64 p2, .int .i64 q2]) (t := 23) (by simp))
  obtain ⟨b0, b1⟩ := cells2 (T26.out.row (b := g4) (cs := #[.int .i64 p2, .int .i64 q2]) (t := 23) (by simp))
  go_wp2_with fail
  with_reducible refine (A3.out _).mono ?_
  rintro e w33 ⟨rfl, hb3⟩
  have T33 := Lib.hid (T26.out.step hb3)
  clear hb3 T26 A3 u0 u1 v0 v1 a0 a1 b0 b1
  obtain ⟨a0, a1⟩ := cells2 (T33.out.row (b := g3) (cs := #[.int .i64 p2, .int .i64 q2]) (t := 23) (by simp))
  obtain ⟨fa0, fa1⟩ := frozen2 (T33.out.row (b := g3) (cs := #[.int .i64 p2, .int .i64 q2]) (t := 23) (by simp))
  go_upto_region 10 with fail
  have T34 := Lib.hid (Has.put (g := g3) (a := p2) (b := q2) (a' := p3) (b' := q3) (M := [(g4, #[.int .i64 p2, .int .i64 q2], 23), (w.heap.size + 1, #[.int .i64 n2, .int .i64 d2], 23), (w.heap.size, #[.int .i64 n1, .int .i64 d1], 23)]) T33.out (by intro x hx; simp only [List.mem_cons, List.not_mem_nil, or_false] at hx ⊢; rcases hx with h | h | h | h <;> simp [h]) (by intro x hx; simp only [List.mem_cons, List.not_mem_nil, or_false] at hx; rcases hx with h | h | h <;> (rw [h]; simp only; omega)))
  clear T33 a0 a1 fa0 fa1
  generalize (w33.setCell ⟨g3, 0, none⟩ (.int .i64 p3)).setCell ⟨g3, 1, none⟩ (.int .i64 q3) = y34 at *
  obtain ⟨u0, u1⟩ := cells2 (T34.out.row (b := w.heap.size) (cs := #[.int .i64 n1, .int .i64 d1]) (t := 23) (by simp))
  obtain ⟨v0, v1⟩ := cells2 (T34.out.row (b := w.heap.size + 1) (cs := #[.int .i64 n2, .int .i64 d2]) (t := 23) (by simp))
  go_wp2_with fail
  with_reducible refine (B3.out _).mono ?_
  rintro e w35 ⟨rfl, hb3⟩
  have T35 := Lib.hid (T34.out.step hb3)
  clear hb3 T34 B3 u0 u1 v0 v1
  obtain ⟨b0, b1⟩ := cells2 (T35.out.row (b := g4) (cs := #[.int .i64 p2, .int .i64 q2]) (t := 23) (by simp))
  obtain ⟨fb0, fb1⟩ := frozen2 (T35.out.row (b := g4) (cs := #[.int .i64 p2, .int .i64 q2]) (t := 23) (by simp))
  go_upto_region 11 with fail
  have T36 := Lib.hid (Has.put (g := g4) (a := p2) (b := q2) (a' := p3) (b' := q3) (M := [(g3, #[.int .i64 p3, .int .i64 q3], 23), (w.heap.size + 1, #[.int .i64 n2, .int .i64 d2], 23), (w.heap.size, #[.int .i64 n1, .int .i64 d1], 23)]) T35.out (by intro x hx; simp only [List.mem_cons, List.not_mem_nil, or_false] at hx ⊢; rcases hx with h | h | h | h <;> simp [h]) (by intro x hx; simp only [List.mem_cons, List.not_mem_nil, or_false] at hx; rcases hx with h | h | h <;> (rw [h]; simp only; omega)))
  clear T35 b0 b1 fb0 fb1
  generalize (w35.setCell ⟨g4, 0, none⟩ (.int .i64 p3)).setCell ⟨g4, 1, none⟩ (.int .i64 q3) = y36 at *
  obtain ⟨u0, u1⟩ := cells2 (T36.out.row (b := w.heap.size) (cs := #[.int .i64 n1, .int .i64 d1]) (t := 23) (by simp))
  obtain ⟨v0, v1⟩ := cells2 (T36.out.row (b := w.heap.size + 1) (cs := #[.int .i64 n2, .int .i64 d2]) (t := 23) (by simp))
  obtain ⟨a0, a1⟩ := cells2 (T36.out.row (b := g3) (cs := #[.int .i64 p3, .int .i64 q3]) (t := 23) (by simp))
  obtain ⟨b0, b1⟩ := cells2 (T36.out.row (b := g4) (cs := #[.int .i64 p3, .int .i64 q3]) (t := 23) (by simp))
  go_wp2_with fail
  with_reducible refine (A4.out _).mono ?_
  rintro e w43 ⟨rfl, hb3⟩
  have T43 := Lib.hid (T36.out.step hb3)
  clear hb3 T36 A4 u0 u1 v0 v1 a0 a1 b0 b1
  obtain ⟨a0, a1⟩ := cells2 (T43.out.row (b := g3) (cs := #[.int .i64 p3, .int .i64 q3]) (t := 23) (by simp))
  obtain ⟨fa0, fa1⟩ := frozen2 (T43.out.row (b := g3) (cs := #[.int .i64 p3, .int .i64 q3]) (t := 23) (by simp))
  go_upto_region 14 with fail
  have T44 := Lib.hid (Has.put (g := g3) (a := p3) (b := q3) (a' := p4) (b' := q4) (M := [(g4, #[.int .i64 p3, .int .i64 q3], 23), (w.heap.size + 1, #[.int .i64 n2, .int .i64 d2], 23), (w.heap.size, #[.int .i64 n1, .int .i64 d1], 23)]) T43.out (by intro x hx; simp only [List.mem_cons, List.not_mem_nil, or_false] at hx ⊢; rcases hx with h | h | h | h <;> simp [h]) (by intro x hx; simp only [List.mem_cons, List.not_mem_nil, or_false] at hx; rcases hx with h | h | h <;> (rw [h]; simp only; omega)))
  clear T43 a0 a1 fa0 fa1
  generalize (w43.setCell ⟨g3, 0, none⟩ (.int .i64 p4)).setCell ⟨g3, 1, none⟩ (.int .i64 q4) = y44 at *
  obtain ⟨u0, u1⟩ := cells2 (T44.out.row (b := w.heap.size) (cs := #[.int .i64 n1, .int .i64 d1]) (t := 23) (by simp))
  obtain ⟨v0, v1⟩ := cells2 (T44.out.row (b := w.heap.size + 1) (cs := #[.int .i64 n2, .int .i64 d2]) (t := 23) (by simp))
  go_wp2_with fail
  with_reducible refine (B4.out _).mono ?_
  rintro e w45 ⟨rfl, hb3⟩
  have T45 := Lib.hid (T44.out.step hb3)
  clear hb3 T44 B4 u0 u1 v0 v1
  obtain ⟨b0, b1⟩ := cells2 (T45.out.row (b := g4) (cs := #[.int .i64 p3, .int .i64 q3]) (t := 23) (by simp))
  obtain ⟨fb0, fb1⟩ := frozen2 (T45.out.row (b := g4) (cs := #[.int .i64 p3, .int .i64 q3]) (t := 23) (by simp))
  go_upto_region 15 with fail
  have T46 := Lib.hid (Has.put (g := g4) (a := p3) (b := q3) (a' := p4) (b' := q4) (M := [(g3, #[.int .i64 p4, .int .i64 q4], 23), (w.heap.size + 1, #[.int .i64 n2, .int .i64 d2], 23), (w.heap.size, #[.int .i64 n1, .int .i64 d1], 23)]) T45.out (by intro x hx; simp only [List.mem_cons, List.not_mem_nil, or_false] at hx ⊢; rcases hx with h | h | h | h <;> simp [h]) (by intro x hx; simp only [List.mem_cons, List.not_mem_nil, or_false] at hx; rcases hx with h | h | h <;> (rw [h]; simp only; omega)))
  clear T45 b0 b1 fb0 fb1
  generalize (w45.setCell ⟨g4, 0, none⟩ (.int .i64 p4)).setCell ⟨g4, 1, none⟩ (.int .i64 q4) = y46 at *
  have hk1 := HLk.mk (HL.mk T46.out)
  clear T46
  have h0 := hk1.out.all4
  go_region_held3 (fun V => HL w [(g4, #[.int .i64 p4, .int .i64 q4], 23), (g3, #[.int .i64 p4, .int .i64 q4], 23), (w.heap.size + 1, #[.int .i64 n2, .int .i64 d2], 23), (w.heap.size, #[.int .i64 n1, .int .i64 d1], 23)] V ∧ V.cell? ⟨g4, 0, none⟩ = some (.int .i64 p4) ∧ V.cell? ⟨g4, 1, none⟩ = some (.int .i64 q4) ∧ V.cell? ⟨g3, 0, none⟩ = some (.int .i64 p4) ∧ V.cell? ⟨g3, 1, none⟩ = some (.int .i64 q4) ∧ V.cell? ⟨w.heap.size + 1, 0, none⟩ = some (.int .i64 n2) ∧ V.cell? ⟨w.heap.size + 1, 1, none⟩ = some (.int .i64 d2) ∧ V.cell? ⟨w.heap.size, 0, none⟩ = some (.int .i64 n1) ∧ V.cell? ⟨w.heap.size, 1, none⟩ = some (.int .i64 d1))
    ((refine HL.all4 ?_; (with_reducible repeat (first | exact HLk.out (by assumption) | apply HL.drew))))
    (first
      | (go_at_call 28; (with_reducible refine (CA.out _).mono ?_); rintro e w' ⟨rfl, hb⟩; (have hk := HLk.mk (HL.step hb (by (with_reducible repeat (first | exact HLk.out (by assumption) | apply HL.drew))))))
      | (go_at_call 29; (with_reducible refine (CB.out _).mono ?_); rintro e w' ⟨rfl, hb⟩; (have hk := HLk.mk (HL.step hb (by (with_reducible repeat (first | exact HLk.out (by assumption) | apply HL.drew))))))
      | (go_at_call 19; (with_reducible refine (awake_any _ (HL.t10 HT.out (by (with_reducible repeat (first | exact HLk.out (by assumption) | apply HL.drew))))).mono ?_); rintro e w' ⟨rfl, hb⟩; (have hk := HLk.mk (HL.step hb (by (with_reducible repeat (first | exact HLk.out (by assumption) | apply HL.drew))))); (have HZ := Lib.hid hk)))
  go_wp2
  go_ret
  exact ⟨rfl, HZ.out.out.has.1⟩
theorem alaw_walk (n1 d1 : Int) (i1 : inI n1) (i2 : inI d1) (n2 d2 : Int) (i3 : inI n2) (i4 : inI d2) (w : World) (ht : T10 w) :
    Calls Tryd.prog 4 #[.agg #[.int .i64 n1, .int .i64 d1], .agg #[.int .i64 n2, .int .i64 d2]] w fun e w' => e = .returned (.bool true) ∧ Below w.heap.size w w' := by
  obtain ⟨p1, q1, x1, o1⟩ := opOut_form (· + ·) n1 d1 n2 d2
  obtain ⟨p2, q2, x2, o2⟩ := opOut_form (· - ·) n1 d1 n2 d2
  obtain ⟨p3, q3, x3, o3⟩ := opOut_form (· * ·) n1 d1 n2 d2
  obtain ⟨p4, q4, x4, o4⟩ := divOut_form n1 d1 n2 d2
  have A1 := fun w => add_any n1 d1 n2 d2 i1 i2 i3 i4 w
  have B1 := fun w => rAdd n1 d1 n2 d2 i1 i2 i3 i4 w
  rw [o1] at A1 B1
  have A2 := fun w => sub_any n1 d1 n2 d2 i1 i2 i3 i4 w
  have B2 := fun w => rSub n1 d1 n2 d2 i1 i2 i3 i4 w
  rw [o2] at A2 B2
  have A3 := fun w => mul_any n1 d1 n2 d2 i1 i2 i3 i4 w
  have B3 := fun w => rMul n1 d1 n2 d2 i1 i2 i3 i4 w
  rw [o3] at A3 B3
  have A4 := fun w => div_any n1 d1 n2 d2 i1 i2 i3 i4 w
  have B4 := fun w => rDiv n1 d1 n2 d2 i1 i2 i3 i4 w
  rw [o4] at A4 B4
  exact alaw_raw n1 d1 n2 d2 p1 q1 x1 p2 q2 x2 p3 q3 x3 p4 q4 x4 _ (Lib.hid A1) (Lib.hid B1) (Lib.hid A2) (Lib.hid B2) (Lib.hid A3) (Lib.hid B3) (Lib.hid A4) (Lib.hid B4) (Lib.hid fun w => compare_any n1 d1 n2 d2 i1 i2 i3 i4 w) (Lib.hid fun w => rCompare n1 d1 n2 d2 i1 i2 i3 i4 w) w ht
end Go.Proofs.YtbhlpcomgfmodaaDoor.Pro
