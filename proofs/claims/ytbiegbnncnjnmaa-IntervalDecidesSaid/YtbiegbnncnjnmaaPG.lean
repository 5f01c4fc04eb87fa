/- The program's numbers of two words: the greatest common divisor. -/
import Derived.Test.YtbiegbnncnjnmaaPF
set_option linter.unusedVariables false
set_option linter.unusedSimpArgs false
namespace Go.Proofs.Ytbiegbnncnjnmaa.Pro
open Go.RowKit

theorem W_val (z : Nat) (h : z < 170141183460469231731687303715884105728) : (hiW z).toNat * 18446744073709551616 + (loW z).toNat = z := by unfold hiW loW; omega
/-- The number that a block of two words holds. -/
def val (V : World) (g : Nat) : Nat := (intOf (held V g 0)).toNat * 18446744073709551616 + (intOf (held V g 1)).toNat
theorem val_eq {V : World} {g : Nat} {t : TypeId} {z : Nat} (h : V.heap[g]? = some (.cells #[.int .u64 (hiW z), .int .u64 (loW z)] t (0, 0))) (hz : z < 170141183460469231731687303715884105728) : val V g = z := by
  unfold val held
  rw [(cells2 h).1, (cells2 h).2]
  exact W_val z hz
/-- Two numbers in two blocks, and the result's block. -/
def Gc (w : World) (x y : Nat) (V : World) : Prop :=
  Has w [(w.heap.size, #[.int .u64 (hiW x), .int .u64 (loW x)], 65), (w.heap.size + 1, #[.int .u64 (hiW y), .int .u64 (loW y)], 65), (w.heap.size + 1 + 1, #[.int .u64 0, .int .u64 0], 65)] V
theorem Gc.start (w : World) (x y : Nat) : Gc w x y (((w.alloc (.cells #[.int .u64 (hiW x), .int .u64 (loW x)] 65)).alloc (.cells #[.int .u64 (hiW y), .int .u64 (loW y)] 65)).alloc (.cells #[.int .u64 0, .int .u64 0] 65)) := by
  have h := (((Has.start w).alloc #[.int .u64 (hiW x), .int .u64 (loW x)] 65).alloc #[.int .u64 (hiW y), .int .u64 (loW y)] 65).alloc #[.int .u64 0, .int .u64 0] 65
  simp only [World.size_alloc] at h
  exact h.sub (by simp)
theorem Gc.rowA {w V : World} {x y : Nat} (h : Gc w x y V) : V.heap[w.heap.size]? = some (.cells #[.int .u64 (hiW x), .int .u64 (loW x)] 65 (0, 0)) := h.row (by simp)
theorem Gc.rowB {w V : World} {x y : Nat} (h : Gc w x y V) : V.heap[w.heap.size + 1]? = some (.cells #[.int .u64 (hiW y), .int .u64 (loW y)] 65 (0, 0)) := h.row (by simp)
theorem Gc.rowC {w V : World} {x y : Nat} (h : Gc w x y V) : V.heap[w.heap.size + 1 + 1]? = some (.cells #[.int .u64 0, .int .u64 0] 65 (0, 0)) := h.row (by simp)
theorem Gc.set {w V : World} {x y : Nat} (u v : Nat) (h : Gc w x y V) : Gc w u v ((((V.setCell ⟨w.heap.size, 0, none⟩ (.int .u64 (hiW u))).setCell ⟨w.heap.size, 1, none⟩ (.int .u64 (loW u))).setCell ⟨w.heap.size + 1, 0, none⟩ (.int .u64 (hiW v))).setCell ⟨w.heap.size + 1, 1, none⟩ (.int .u64 (loW v))) := by
  have h1 : ∀ z ∈ [(w.heap.size + 1, #[Value.int .u64 (hiW y), Value.int .u64 (loW y)], (65 : TypeId)), (w.heap.size + 1 + 1, #[Value.int .u64 0, Value.int .u64 0], 65)], z.1 ≠ w.heap.size := by simp; omega
  have h2 := (Has.set h h1 0 (.int .u64 (hiW u))).set h1 1 (.int .u64 (loW u))
  have h3 : Has w [(w.heap.size + 1, #[.int .u64 (hiW y), .int .u64 (loW y)], 65), (w.heap.size, #[.int .u64 (hiW u), .int .u64 (loW u)], 65), (w.heap.size + 1 + 1, #[.int .u64 0, .int .u64 0], 65)] _ := h2.sub (by simp)
  have h4 : ∀ z ∈ [(w.heap.size, #[Value.int .u64 (hiW u), Value.int .u64 (loW u)], (65 : TypeId)), (w.heap.size + 1 + 1, #[Value.int .u64 0, Value.int .u64 0], 65)], z.1 ≠ w.heap.size + 1 := by simp
  exact ((h3.set h4 0 (.int .u64 (hiW v))).set h4 1 (.int .u64 (loW v))).sub (by simp)
theorem Gc.cells {w V : World} {x y : Nat} (h : Gc w x y V) : (V.cell? ⟨w.heap.size, 0, none⟩ = some (.int .u64 (hiW x)) ∧ V.cell? ⟨w.heap.size, 1, none⟩ = some (.int .u64 (loW x))) ∧ (V.cell? ⟨w.heap.size + 1, 0, none⟩ = some (.int .u64 (hiW y)) ∧ V.cell? ⟨w.heap.size + 1, 1, none⟩ = some (.int .u64 (loW y))) ∧
    (V.frozen? ⟨w.heap.size, 0, none⟩ = false ∧ V.frozen? ⟨w.heap.size, 1, none⟩ = false) ∧ V.frozen? ⟨w.heap.size + 1, 0, none⟩ = false ∧ V.frozen? ⟨w.heap.size + 1, 1, none⟩ = false := ⟨cells2 h.rowA, cells2 h.rowB, frozen2 h.rowA, frozen2 h.rowB⟩
theorem Gc.step {w V V2 : World} {x y : Nat} (h : Gc w x y V) (hb : Below V.heap.size V V2) : Gc w x y V2 := Has.step h hb
theorem Gc.drew {w V : World} {x y : Nat} (h : Gc w x y V) : Gc w x y V.drew := Has.drew h

set_option maxHeartbeats 4000000 in
set_option maxRecDepth 100000 in
theorem gcd_any (a b : Nat) (ha : a < 85070591730234615865843651857942052864) (hb : b < 85070591730234615865843651857942052864) (w : World) :
    Calls Try.prog 97 #[W a, W b] w fun e w' => e = .returned (W (Nat.gcd a b : Nat)) ∧ Below w.heap.size w w' := by
  unfold W
  have HS := Lib.hid (Gc.start w a b)
  go_enter Try.func97, Try.ntmps97
  go_wp2
  go_loopw [] (fun wr => ∃ x y : Nat, x < 85070591730234615865843651857942052864 ∧ y < 85070591730234615865843651857942052864 ∧ Hid (Nat.gcd a b = Nat.gcd x y) ∧ Hid (Gc w x y wr)) (fun wr => val wr (w.heap.size + 1))
  case atStart => exact ⟨a, b, ha, hb, rfl, HS⟩
  case round =>
    obtain ⟨x, y, hx, hy, H, HG⟩ := hrel
    clear HS ha hb
    obtain ⟨a0, a1⟩ := cells2 HG.out.rowA
    obtain ⟨b0, b1⟩ := cells2 HG.out.rowB
    obtain ⟨c0, c1⟩ := cells2 HG.out.rowC
    obtain ⟨fa0, fa1⟩ := frozen2 HG.out.rowA
    obtain ⟨fb0, fb1⟩ := frozen2 HG.out.rowB
    obtain ⟨fc0, fc1⟩ := frozen2 HG.out.rowC
    by_cases h0 : y = 0
    · subst h0
      have HE : Hid (Nat.gcd a b = x) := by show _ = _; rw [H.out, Nat.gcd_zero_right]
      rw [show hiW ((0 : Nat) : Int) = 0 by decide] at b0
      rw [show loW ((0 : Nat) : Int) = 0 by decide] at b1
      clear H hy
      generalize hX1 : hiW (x : Int) = x1 at *
      generalize hX2 : loW (x : Int) = x2 at *
      have HX1 := Lib.hid hX1
      have HX2 := Lib.hid hX2
      clear hX1 hX2
      go_wp2
      have hC := heap_setCell_same _ _ 1 _ _ (.int .u64 x2) (heap_setCell_same _ _ 0 _ _ (.int .u64 x1) HG.out.rowC)
      refine bodyPost_ret (results_cell_row rfl _ _ (w.heap.size + 1 + 1) 65 _ (0, 0) _ rfl hC Try.underlying65 rfl info46) rfl ?_
      refine ⟨?_, (HG.out.1.setCell (by simp; omega) _).setCell (by simp; omega) _⟩
      rw [HE.out, ← HX1.out, ← HX2.out]; rfl
    · have hy0 : 0 < y := by omega
      have HE : Hid (Nat.gcd a b = Nat.gcd y (x % y)) := by show _ = _; rw [H.out, Nat.gcd_comm, Nat.gcd_rec, Nat.gcd_comm]
      have hlt := Nat.mod_lt x hy0
      have DV := fun w => divide_any x y hy0 (by omega) hx w
      have HV : Hid (val wr (w.heap.size + 1) = y) := val_eq HG.out.rowB (by omega)
      have HN : Hid (hiW (y : Int) = 0 → ¬ loW (y : Int) = 0) := fun h1 h2 => h0 (by have := W_val y (by omega); rw [h1, h2] at this; simpa using this.symm)
      unfold W at DV
      have gc := fun V (h : Gc w x y V) => h.cells
      have gs := fun V (h : Gc w x y V) => h.set y (x % y)
      generalize hX1 : hiW (x : Int) = x1 at *
      generalize hX2 : loW (x : Int) = x2 at *
      generalize hY1 : hiW (y : Int) = y1 at *
      generalize hY2 : loW (y : Int) = y2 at *
      generalize hR1 : hiW ((x % y : Nat) : Int) = r1 at *
      generalize hR2 : loW ((x % y : Nat) : Int) = r2 at *
      generalize hiW ((x / y : Nat) : Int) = q1 at *
      generalize loW ((x / y : Nat) : Int) = q2 at *
      have HY1 := Lib.hid hY1
      have HY2 := Lib.hid hY2
      have HR1 := Lib.hid hR1
      have HR2 := Lib.hid hR2
      have HDV := Lib.hid DV
      have GC := Lib.hid gc
      have HGS := Lib.hid gs
      clear gc gs hX1 hX2 hY1 hY2 hR1 hR2 DV H hx
      have HVS : Hid (∀ V, Gc w y (x % y) V → val V (w.heap.size + 1) = x % y) := fun V h => val_eq h.rowB (by omega)
      by_cases hy1 : y1 = 0
      · subst hy1
        have hy2 := HN.out rfl
        clear HN
        go_wp2_with fail
        refine (HDV.out _).mono ?_
        rintro e w2 ⟨rfl, hb2⟩
        have HG2 := Lib.hid (HG.out.step hb2)
        have HS := Lib.hid (fun V h => HGS.out V (h : Gc w x y V))
        clear hb2 HDV HG a0 a1 b0 b1 fa0 fa1 fb0 fb1 c0 c1 fc0 fc1
        go_wp2_with fail
        have HG3 : Hid (Gc w x y ((w2.alloc (.cells #[.int .u64 q1, .int .u64 q2] 65)).alloc (.cells #[.int .u64 r1, .int .u64 r2] 65))) := ((HG2.out.step ((Below.refl _ _).alloc (Nat.le_refl _) _)).step ((Below.refl _ _).alloc (Nat.le_refl _) _))
        obtain ⟨rr0, rr1⟩ := cells2 (top2 w2 (.cells #[.int .u64 q1, .int .u64 q2] 65) (.cells #[.int .u64 r1, .int .u64 r2] 65))
        generalize ((w2.alloc (.cells #[.int .u64 q1, .int .u64 q2] 65)).alloc (.cells #[.int .u64 r1, .int .u64 r2] 65)) = w3 at *
        have hl2 : w.heap.size + 1 + 1 < w2.heap.size := (Array.getElem?_eq_some_iff.1 HG2.out.rowC).1
        generalize w2.heap.size = g2 at *
        have n1 : ¬ (g2 + 1 = w.heap.size) := by omega
        have n2 : ¬ (w.heap.size = g2 + 1) := by omega
        have n3 : ¬ (g2 = w.heap.size) := by omega
        have n4 : ¬ (w.heap.size = g2) := by omega
        obtain ⟨⟨a0, a1⟩, ⟨b0, b1⟩, ⟨fa0, fa1⟩, fb0, fb1⟩ := GC.out _ HG3.out
        clear GC
        go_region
        go_wp2
        go_roundw
        case rel => exact ⟨y, x % y, hy, by omega, HE, Lib.hid ((HS.out _ HG3.out).drew)⟩
        case measure => rw [HV.out, HVS.out _ ((HS.out _ HG3.out).drew)]; exact hlt
      · clear HN
        go_wp2_with fail
        refine (HDV.out _).mono ?_
        rintro e w2 ⟨rfl, hb2⟩
        have HG2 := Lib.hid (HG.out.step hb2)
        have HS := Lib.hid (fun V h => HGS.out V (h : Gc w x y V))
        clear hb2 HDV HG a0 a1 b0 b1 fa0 fa1 fb0 fb1 c0 c1 fc0 fc1
        go_wp2_with fail
        have HG3 : Hid (Gc w x y ((w2.alloc (.cells #[.int .u64 q1, .int .u64 q2] 65)).alloc (.cells #[.int .u64 r1, .int .u64 r2] 65))) := ((HG2.out.step ((Below.refl _ _).alloc (Nat.le_refl _) _)).step ((Below.refl _ _).alloc (Nat.le_refl _) _))
        obtain ⟨rr0, rr1⟩ := cells2 (top2 w2 (.cells #[.int .u64 q1, .int .u64 q2] 65) (.cells #[.int .u64 r1, .int .u64 r2] 65))
        generalize ((w2.alloc (.cells #[.int .u64 q1, .int .u64 q2] 65)).alloc (.cells #[.int .u64 r1, .int .u64 r2] 65)) = w3 at *
        have hl2 : w.heap.size + 1 + 1 < w2.heap.size := (Array.getElem?_eq_some_iff.1 HG2.out.rowC).1
        generalize w2.heap.size = g2 at *
        have n1 : ¬ (g2 + 1 = w.heap.size) := by omega
        have n2 : ¬ (w.heap.size = g2 + 1) := by omega
        have n3 : ¬ (g2 = w.heap.size) := by omega
        have n4 : ¬ (w.heap.size = g2) := by omega
        obtain ⟨⟨a0, a1⟩, ⟨b0, b1⟩, ⟨fa0, fa1⟩, fb0, fb1⟩ := GC.out _ HG3.out
        clear GC
        go_region
        go_wp2
        go_roundw
        case rel => exact ⟨y, x % y, hy, by omega, HE, Lib.hid ((HS.out _ HG3.out).drew)⟩
        case measure => rw [HV.out, HVS.out _ ((HS.out _ HG3.out).drew)]; exact hlt
end Go.Proofs.Ytbiegbnncnjnmaa.Pro
