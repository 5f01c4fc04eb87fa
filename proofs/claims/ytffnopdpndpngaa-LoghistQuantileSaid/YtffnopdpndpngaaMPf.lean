/- The program's numbers of two words: divide. The program's numbers of two words: the greatest common divisor. The program's reduced: what its blocks hold. -/
import Derived.Test.YtffnopdpndpngaaMPe
set_option linter.unusedVariables false
set_option linter.unusedSimpArgs false
namespace Go.Proofs.Ytffnopdpndpngaa.Pro
open Go.RowKit
theorem W_cast {x y : Int} (h : x = y) : W x = W y := by rw [h]
theorem divide_lt (a b : Nat) (h : a < b) (hb : b < 170141183460469231731687303715884105728) (ha : a < 85070591730234615865843651857942052864) (w : World) :
    Calls Try.prog 91 #[W a, W b] w fun e w' => e = .returned (.tuple #[W (a / b : Nat), W (a % b : Nat)]) ∧ Below w.heap.size w w' := by
  rw [Nat.div_eq_of_lt h, Nat.mod_eq_of_lt h]
  by_cases hw : b < 18446744073709551616
  · have h1 := divide_word a b (by omega) hw (by omega) w
    rw [Nat.div_eq_of_lt h, Nat.mod_eq_of_lt h] at h1
    exact h1
  · have LT := fun w => less_any (a : Int) (b : Int) (by unfold near; omega) w
    rw [decide_eq_true (show (a : Int) < b by omega)] at LT
    rw [show W ((0 : Nat) : Int) = .agg #[.int .u64 0, .int .u64 0] from W_small 0 (by decide) (by decide)]
    by_cases h0 : hiW a = 0
    · have g : (hiW b == 0) = false := by
        simp only [beq_eq_false_iff_ne, ne_eq]
        intro h1
        exact hw (by have := (hi_small b (by omega) (by omega)).1 h1; omega)
      unfold W at LT ⊢
      rw [h0] at LT ⊢
      exact divide_less2 _ _ _ g (Lib.hid LT) w
    · exact divide_less1 _ _ _ _ (by simp [h0]) (Lib.hid LT) w
theorem div_twice1 {a b : Nat} (hr : a % (2 * b) < b) : a / b = 2 * (a / (2 * b)) ∧ a % b = a % (2 * b) := by
  have h := Nat.div_add_mod a (2 * b)
  generalize a / (2 * b) = q at *
  generalize a % (2 * b) = r at *
  have e : a = r + b * (2 * q) := by rw [← h]; ac_rfl
  rw [e, Nat.add_mul_div_left _ _ (by omega), Nat.add_mul_mod_self_left, Nat.div_eq_of_lt hr, Nat.mod_eq_of_lt hr]
  omega
theorem div_twice2 {a b : Nat} (h0 : 0 < b) (hr : ¬ a % (2 * b) < b) : a / b = 2 * (a / (2 * b)) + 1 ∧ a % b = a % (2 * b) - b := by
  have h := Nat.div_add_mod a (2 * b)
  have h2 := Nat.mod_lt a (show 0 < 2 * b by omega)
  generalize a / (2 * b) = q at *
  generalize a % (2 * b) = r at *
  have e : a = (r - b) + b * (2 * q + 1) := by
    rw [← h, Nat.mul_add, Nat.mul_one, show b * (2 * q) = 2 * b * q by ac_rfl]
    omega
  rw [e, Nat.add_mul_div_left _ _ (by omega), Nat.add_mul_mod_self_left, Nat.div_eq_of_lt (by omega), Nat.mod_eq_of_lt (by omega)]
  omega
theorem divide_go : ∀ (k a b : Nat), 0 < b → b < 170141183460469231731687303715884105728 → a < 85070591730234615865843651857942052864 → a < b * 2 ^ k → ∀ (w : World),
    Calls Try.prog 91 #[W a, W b] w fun e w' => e = .returned (.tuple #[W (a / b : Nat), W (a % b : Nat)]) ∧ Below w.heap.size w w' := by
  intro k
  induction k with
  | zero => intro a b h0 hb ha hk w; exact divide_lt a b (by omega) hb ha w
  | succ k ih =>
    intro a b h0 hb ha hk w
    by_cases hlt : a < b
    · exact divide_lt a b hlt hb ha w
    · by_cases hw : a < 18446744073709551616
      · exact divide_word a b hw (by omega) h0 w
      · have g : (hiW a == 0) = false := by
          simp only [beq_eq_false_iff_ne, ne_eq]
          intro h1
          exact hw (by have := (hi_small a (by omega) (by omega)).1 h1; omega)
        have LT := fun w => less_any (a : Int) (b : Int) (by unfold near; omega) w
        rw [decide_eq_false (show ¬ (a : Int) < b by omega)] at LT
        have PL := fun w => plus_any (b : Int) (b : Int) w
        rw [show (b : Int) + b = ((2 * b : Nat) : Int) by omega] at PL
        have DV := ih a (2 * b) (by omega) (by omega) ha (by rw [Nat.pow_succ] at hk; rw [show 2 * b * 2 ^ k = b * (2 ^ k * 2) by ac_rfl]; exact hk)
        have hq : a / (2 * b) ≤ a := Nat.div_le_self _ _
        have hr := Nat.mod_lt a (show 0 < 2 * b by omega)
        have PQ := fun w => plus_any ((a / (2 * b) : Nat) : Int) ((a / (2 * b) : Nat) : Int) w
        have LR := fun w => less_any ((a % (2 * b) : Nat) : Int) (b : Int) (by unfold near; omega) w
        by_cases hrb : a % (2 * b) < b
        · obtain ⟨e1, e2⟩ := div_twice1 hrb
          rw [e1, e2]
          rw [decide_eq_true (show ((a % (2 * b) : Nat) : Int) < b by omega)] at LR
          rw [show ((a / (2 * b) : Nat) : Int) + (a / (2 * b) : Nat) = ((2 * (a / (2 * b)) : Nat) : Int) by omega] at PQ
          exact divide_stepA _ _ _ _ _ _ _ _ _ _ _ _ g (Lib.hid LT) (Lib.hid PL) (Lib.hid DV) (Lib.hid PQ) (Lib.hid LR) w
        · obtain ⟨e1, e2⟩ := div_twice2 h0 hrb
          rw [e1, e2]
          rw [decide_eq_false (show ¬ ((a % (2 * b) : Nat) : Int) < b by omega)] at LR
          rw [show ((a / (2 * b) : Nat) : Int) + (a / (2 * b) : Nat) = ((2 * (a / (2 * b)) : Nat) : Int) by omega] at PQ
          have W1 := fun w => widen_any 1 (by unfold inI; omega) w
          rw [W_small 1 (by decide) (by decide)] at W1
          have PO := fun w => plus_any ((2 * (a / (2 * b)) : Nat) : Int) 1 w
          rw [W_small 1 (by decide) (by decide), show ((2 * (a / (2 * b)) : Nat) : Int) + 1 = ((2 * (a / (2 * b)) + 1 : Nat) : Int) by omega] at PO
          have MI := fun w => minus_any ((a % (2 * b) : Nat) : Int) (b : Int) w
          rw [show ((a % (2 * b) : Nat) : Int) - b = ((a % (2 * b) - b : Nat) : Int) by omega] at MI
          exact divide_stepB _ _ _ _ _ _ _ _ _ _ _ _ _ _ _ _ g (Lib.hid LT) (Lib.hid PL) (Lib.hid DV) (Lib.hid PQ) (Lib.hid LR) (Lib.hid W1) (Lib.hid PO) (Lib.hid MI) w
theorem divide_any (a b : Nat) (h0 : 0 < b) (hb : b < 170141183460469231731687303715884105728) (ha : a < 85070591730234615865843651857942052864) (w : World) :
    Calls Try.prog 91 #[W a, W b] w fun e w' => e = .returned (.tuple #[W (a / b : Nat), W (a % b : Nat)]) ∧ Below w.heap.size w w' :=
  divide_go 127 a b h0 hb ha (by
    have : 170141183460469231731687303715884105728 = 2 ^ 127 := by decide
    have h := Nat.mul_le_mul_right (2 ^ 127) h0
    omega) w
end Go.Proofs.Ytffnopdpndpngaa.Pro
namespace Go.Proofs.Ytffnopdpndpngaa.Pro
open Go.RowKit

theorem W_val (z : Nat) (h : z < 170141183460469231731687303715884105728) : (hiW z).toNat * 18446744073709551616 + (loW z).toNat = z := by unfold hiW loW; omega
/-- The number that a block of two words holds. -/
def val (V : World) (g : Nat) : Nat := (intOf (held V g 0)).toNat * 18446744073709551616 + (intOf (held V g 1)).toNat
theorem val_eq {V : World} {g : Nat} {t : TypeId} {z : Nat} (h : V.heap[g]? = some (.cells #[.int .u64 (hiW z), .int .u64 (loW z)] t (0, 0))) (hz : z < 170141183460469231731687303715884105728) : val V g = z := by
  unfold val held
  rw [(cells2 h).1, (cells2 h).2]
  exact W_val z hz
/-- Two numbers in two blocks, and the result's block. -/
def Gc (w : World) (x y : Nat) (V : World) : Prop :=
  Has w [(w.heap.size, #[.int .u64 (hiW x), .int .u64 (loW x)], 96), (w.heap.size + 1, #[.int .u64 (hiW y), .int .u64 (loW y)], 96), (w.heap.size + 1 + 1, #[.int .u64 0, .int .u64 0], 96)] V
theorem Gc.start (w : World) (x y : Nat) : Gc w x y (((w.alloc (.cells #[.int .u64 (hiW x), .int .u64 (loW x)] 96)).alloc (.cells #[.int .u64 (hiW y), .int .u64 (loW y)] 96)).alloc (.cells #[.int .u64 0, .int .u64 0] 96)) := by
  have h := (((Has.start w).alloc #[.int .u64 (hiW x), .int .u64 (loW x)] 96).alloc #[.int .u64 (hiW y), .int .u64 (loW y)] 96).alloc #[.int .u64 0, .int .u64 0] 96
  simp only [World.size_alloc] at h
  exact h.sub (by simp)
theorem Gc.rowA {w V : World} {x y : Nat} (h : Gc w x y V) : V.heap[w.heap.size]? = some (.cells #[.int .u64 (hiW x), .int .u64 (loW x)] 96 (0, 0)) := h.row (by simp)
theorem Gc.rowB {w V : World} {x y : Nat} (h : Gc w x y V) : V.heap[w.heap.size + 1]? = some (.cells #[.int .u64 (hiW y), .int .u64 (loW y)] 96 (0, 0)) := h.row (by simp)
theorem Gc.rowC {w V : World} {x y : Nat} (h : Gc w x y V) : V.heap[w.heap.size + 1 + 1]? = some (.cells #[.int .u64 0, .int .u64 0] 96 (0, 0)) := h.row (by simp)
theorem Gc.set {w V : World} {x y : Nat} (u v : Nat) (h : Gc w x y V) : Gc w u v ((((V.setCell ⟨w.heap.size, 0, none⟩ (.int .u64 (hiW u))).setCell ⟨w.heap.size, 1, none⟩ (.int .u64 (loW u))).setCell ⟨w.heap.size + 1, 0, none⟩ (.int .u64 (hiW v))).setCell ⟨w.heap.size + 1, 1, none⟩ (.int .u64 (loW v))) := by
  have h1 : ∀ z ∈ [(w.heap.size + 1, #[Value.int .u64 (hiW y), Value.int .u64 (loW y)], (96 : TypeId)), (w.heap.size + 1 + 1, #[Value.int .u64 0, Value.int .u64 0], 96)], z.1 ≠ w.heap.size := by simp; omega
  have h2 := (Has.set h h1 0 (.int .u64 (hiW u))).set h1 1 (.int .u64 (loW u))
  have h3 : Has w [(w.heap.size + 1, #[.int .u64 (hiW y), .int .u64 (loW y)], 96), (w.heap.size, #[.int .u64 (hiW u), .int .u64 (loW u)], 96), (w.heap.size + 1 + 1, #[.int .u64 0, .int .u64 0], 96)] _ := h2.sub (by simp)
  have h4 : ∀ z ∈ [(w.heap.size, #[Value.int .u64 (hiW u), Value.int .u64 (loW u)], (96 : TypeId)), (w.heap.size + 1 + 1, #[Value.int .u64 0, Value.int .u64 0], 96)], z.1 ≠ w.heap.size + 1 := by simp
  exact ((h3.set h4 0 (.int .u64 (hiW v))).set h4 1 (.int .u64 (loW v))).sub (by simp)
theorem Gc.cells {w V : World} {x y : Nat} (h : Gc w x y V) : (V.cell? ⟨w.heap.size, 0, none⟩ = some (.int .u64 (hiW x)) ∧ V.cell? ⟨w.heap.size, 1, none⟩ = some (.int .u64 (loW x))) ∧ (V.cell? ⟨w.heap.size + 1, 0, none⟩ = some (.int .u64 (hiW y)) ∧ V.cell? ⟨w.heap.size + 1, 1, none⟩ = some (.int .u64 (loW y))) ∧
    (V.frozen? ⟨w.heap.size, 0, none⟩ = false ∧ V.frozen? ⟨w.heap.size, 1, none⟩ = false) ∧ V.frozen? ⟨w.heap.size + 1, 0, none⟩ = false ∧ V.frozen? ⟨w.heap.size + 1, 1, none⟩ = false := ⟨cells2 h.rowA, cells2 h.rowB, frozen2 h.rowA, frozen2 h.rowB⟩
theorem Gc.step {w V V2 : World} {x y : Nat} (h : Gc w x y V) (hb : Below V.heap.size V V2) : Gc w x y V2 := Has.step h hb
theorem Gc.drew {w V : World} {x y : Nat} (h : Gc w x y V) : Gc w x y V.drew := Has.drew h

set_option maxHeartbeats 4000000 in
set_option maxRecDepth 100000 in
theorem gcd_any (a b : Nat) (ha : a < 85070591730234615865843651857942052864) (hb : b < 85070591730234615865843651857942052864) (w : World) :
    Calls Try.prog 90 #[W a, W b] w fun e w' => e = .returned (W (Nat.gcd a b : Nat)) ∧ Below w.heap.size w w' := by
  unfold W
  have HS := Lib.hid (Gc.start w a b)
  go_enter Try.func90, Try.ntmps90
  go_wp2
  go_loopw [] (fun wr => ∃ x y : Nat, x < 85070591730234615865843651857942052864 ∧ y < 85070591730234615865843651857942052864 ∧ Hid (Nat.gcd a b = Nat.gcd x y) ∧ Hid (Gc w x y wr)) (fun wr => val wr (w.heap.size + 1))
  case atStart => exact ⟨a, b, ha, hb, rfl, HS⟩
  case round =>
    obtain ⟨x, y, hx, hy, H, HG⟩ := hrel
    clear HS ha hb
    obtain ⟨a0, a1⟩ := cells2 HG.out.rowA
    obtain ⟨b0, b1⟩ := cells2 HG.out.rowB
    obtain ⟨c0, c1⟩ := cells2 HG.out.rowC
    obtain ⟨fa0, fa1⟩ := frozen2 HG.out.rowA
    obtain ⟨fb0, fb1⟩ := frozen2 HG.out.rowB
    obtain ⟨fc0, fc1⟩ := frozen2 HG.out.rowC
    by_cases h0 : y = 0
    · subst h0
      have HE : Hid (Nat.gcd a b = x) := by show _ = _; rw [H.out, Nat.gcd_zero_right]
      rw [show hiW ((0 : Nat) : Int) = 0 by decide] at b0
      rw [show loW ((0 : Nat) : Int) = 0 by decide] at b1
      clear H hy
      generalize hX1 : hiW (x : Int) = x1 at *
      generalize hX2 : loW (x : Int) = x2 at *
      have HX1 := Lib.hid hX1
      have HX2 := Lib.hid hX2
      clear hX1 hX2
      go_wp2
      have hC := heap_setCell_same _ _ 1 _ _ (.int .u64 x2) (heap_setCell_same _ _ 0 _ _ (.int .u64 x1) HG.out.rowC)
      refine bodyPost_ret (results_cell_row rfl _ _ (w.heap.size + 1 + 1) 96 _ (0, 0) _ rfl hC Try.underlying96 rfl info46) rfl ?_
      refine ⟨?_, (HG.out.1.setCell (by simp; omega) _).setCell (by simp; omega) _⟩
      rw [HE.out, ← HX1.out, ← HX2.out]; rfl
    · have hy0 : 0 < y := by omega
      have HE : Hid (Nat.gcd a b = Nat.gcd y (x % y)) := by show _ = _; rw [H.out, Nat.gcd_comm, Nat.gcd_rec, Nat.gcd_comm]
      have hlt := Nat.mod_lt x hy0
      have DV := fun w => divide_any x y hy0 (by omega) hx w
      have HV : Hid (val wr (w.heap.size + 1) = y) := val_eq HG.out.rowB (by omega)
      have HN : Hid (hiW (y : Int) = 0 → ¬ loW (y : Int) = 0) := fun h1 h2 => h0 (by have := W_val y (by omega); rw [h1, h2] at this; simpa using this.symm)
      unfold W at DV
      have gc := fun V (h : Gc w x y V) => h.cells
      have gs := fun V (h : Gc w x y V) => h.set y (x % y)
      generalize hX1 : hiW (x : Int) = x1 at *
      generalize hX2 : loW (x : Int) = x2 at *
      generalize hY1 : hiW (y : Int) = y1 at *
      generalize hY2 : loW (y : Int) = y2 at *
      generalize hR1 : hiW ((x % y : Nat) : Int) = r1 at *
      generalize hR2 : loW ((x % y : Nat) : Int) = r2 at *
      generalize hiW ((x / y : Nat) : Int) = q1 at *
      generalize loW ((x / y : Nat) : Int) = q2 at *
      have HY1 := Lib.hid hY1
      have HY2 := Lib.hid hY2
      have HR1 := Lib.hid hR1
      have HR2 := Lib.hid hR2
      have HDV := Lib.hid DV
      have GC := Lib.hid gc
      have HGS := Lib.hid gs
      clear gc gs hX1 hX2 hY1 hY2 hR1 hR2 DV H hx
      have HVS : Hid (∀ V, Gc w y (x % y) V → val V (w.heap.size + 1) = x % y) := fun V h => val_eq h.rowB (by omega)
      by_cases hy1 : y1 = 0
      · subst hy1
        have hy2 := HN.out rfl
        clear HN
        go_wp2_with fail
        refine (HDV.out _).mono ?_
        rintro e w2 ⟨rfl, hb2⟩
        have HG2 := Lib.hid (HG.out.step hb2)
        have HS := Lib.hid (fun V h => HGS.out V (h : Gc w x y V))
        clear hb2 HDV HG a0 a1 b0 b1 fa0 fa1 fb0 fb1 c0 c1 fc0 fc1
        go_wp2_with fail
        have HG3 : Hid (Gc w x y ((w2.alloc (.cells #[.int .u64 q1, .int .u64 q2] 96)).alloc (.cells #[.int .u64 r1, .int .u64 r2] 96))) := ((HG2.out.step ((Below.refl _ _).alloc (Nat.le_refl _) _)).step ((Below.refl _ _).alloc (Nat.le_refl _) _))
        obtain ⟨rr0, rr1⟩ := cells2 (top2 w2 (.cells #[.int .u64 q1, .int .u64 q2] 96) (.cells #[.int .u64 r1, .int .u64 r2] 96))
        generalize ((w2.alloc (.cells #[.int .u64 q1, .int .u64 q2] 96)).alloc (.cells #[.int .u64 r1, .int .u64 r2] 96)) = w3 at *
        have hl2 : w.heap.size + 1 + 1 < w2.heap.size := (Array.getElem?_eq_some_iff.1 HG2.out.rowC).1
        generalize w2.heap.size = g2 at *
        have n1 : ¬ (g2 + 1 = w.heap.size) := by omega
        have n2 : ¬ (w.heap.size = g2 + 1) := by omega
        have n3 : ¬ (g2 = w.heap.size) := by omega
        have n4 : ¬ (w.heap.size = g2) := by omega
        obtain ⟨⟨a0, a1⟩, ⟨b0, b1⟩, ⟨fa0, fa1⟩, fb0, fb1⟩ := GC.out _ HG3.out
        clear GC
        go_region
        go_wp2
        go_roundw
        case rel => exact ⟨y, x % y, hy, by omega, HE, Lib.hid ((HS.out _ HG3.out).drew)⟩
        case measure => rw [HV.out, HVS.out _ ((HS.out _ HG3.out).drew)]; exact hlt
      · clear HN
        go_wp2_with fail
        refine (HDV.out _).mono ?_
        rintro e w2 ⟨rfl, hb2⟩
        have HG2 := Lib.hid (HG.out.step hb2)
        have HS := Lib.hid (fun V h => HGS.out V (h : Gc w x y V))
        clear hb2 HDV HG a0 a1 b0 b1 fa0 fa1 fb0 fb1 c0 c1 fc0 fc1
        go_wp2_with fail
        have HG3 : Hid (Gc w x y ((w2.alloc (.cells #[.int .u64 q1, .int .u64 q2] 96)).alloc (.cells #[.int .u64 r1, .int .u64 r2] 96))) := ((HG2.out.step ((Below.refl _ _).alloc (Nat.le_refl _) _)).step ((Below.refl _ _).alloc (Nat.le_refl _) _))
        obtain ⟨rr0, rr1⟩ := cells2 (top2 w2 (.cells #[.int .u64 q1, .int .u64 q2] 96) (.cells #[.int .u64 r1, .int .u64 r2] 96))
        generalize ((w2.alloc (.cells #[.int .u64 q1, .int .u64 q2] 96)).alloc (.cells #[.int .u64 r1, .int .u64 r2] 96)) = w3 at *
        have hl2 : w.heap.size + 1 + 1 < w2.heap.size := (Array.getElem?_eq_some_iff.1 HG2.out.rowC).1
        generalize w2.heap.size = g2 at *
        have n1 : ¬ (g2 + 1 = w.heap.size) := by omega
        have n2 : ¬ (w.heap.size = g2 + 1) := by omega
        have n3 : ¬ (g2 = w.heap.size) := by omega
        have n4 : ¬ (w.heap.size = g2) := by omega
        obtain ⟨⟨a0, a1⟩, ⟨b0, b1⟩, ⟨fa0, fa1⟩, fb0, fb1⟩ := GC.out _ HG3.out
        clear GC
        go_region
        go_wp2
        go_roundw
        case rel => exact ⟨y, x % y, hy, by omega, HE, Lib.hid ((HS.out _ HG3.out).drew)⟩
        case measure => rw [HV.out, HVS.out _ ((HS.out _ HG3.out).drew)]; exact hlt
end Go.Proofs.Ytffnopdpndpngaa.Pro
namespace Go.Proofs.Ytffnopdpndpngaa.Pro
open Go.RowKit

/-- Two numbers in two blocks, and the result's block. -/
structure R3 (w : World) (n1 n2 m1 m2 : Int) (V : World) : Prop where
  has : Has w [(w.heap.size, #[.int .u64 n1, .int .u64 n2], 96), (w.heap.size + 1, #[.int .u64 m1, .int .u64 m2], 96), (w.heap.size + 1 + 1, #[.int .i64 0, .int .i64 0], 42)] V
/-- A block of two cells that the call has laid behind those three. -/
structure Zb (w V : World) (g : Nat) (x y : Value) (t : TypeId) : Prop where
  row : V.heap[g]? = some (.cells #[x, y] t (0, 0))
  big : w.heap.size + 1 + 1 < g
theorem R3.start (w : World) (n1 n2 m1 m2 : Int) : R3 w n1 n2 m1 m2 (((w.alloc (.cells #[.int .u64 n1, .int .u64 n2] 96)).alloc (.cells #[.int .u64 m1, .int .u64 m2] 96)).alloc (.cells #[.int .i64 0, .int .i64 0] 42)) := by
  have h := (((Has.start w).alloc #[.int .u64 n1, .int .u64 n2] 96).alloc #[.int .u64 m1, .int .u64 m2] 96).alloc #[.int .i64 0, .int .i64 0] 42
  simp only [World.size_alloc] at h
  exact ⟨h.sub (by simp)⟩
theorem R3.step {w V V2 : World} {n1 n2 m1 m2 : Int} (hb : Below V.heap.size V V2) (h : R3 w n1 n2 m1 m2 V) : R3 w n1 n2 m1 m2 V2 := ⟨h.has.step hb⟩
theorem R3.drew {w V : World} {n1 n2 m1 m2 : Int} (h : R3 w n1 n2 m1 m2 V) : R3 w n1 n2 m1 m2 V.drew := ⟨h.has.drew⟩
theorem R3.alloc {w V : World} {n1 n2 m1 m2 : Int} (o : Obj) (h : R3 w n1 n2 m1 m2 V) : R3 w n1 n2 m1 m2 (V.alloc o) := ⟨h.has.step ((Below.refl _ _).alloc (Nat.le_refl _) _)⟩
theorem R3.lt {w V : World} {n1 n2 m1 m2 : Int} (h : R3 w n1 n2 m1 m2 V) : w.heap.size + 1 + 1 < V.heap.size := h.has.lt (x := (w.heap.size + 1 + 1, #[.int .i64 0, .int .i64 0], 42)) (by simp)
theorem R3.store {w V : World} {n1 n2 m1 m2 : Int} {g : Nat} (x y : Value) (hg : w.heap.size + 1 + 1 < g) (h : R3 w n1 n2 m1 m2 V) : R3 w n1 n2 m1 m2 ((V.setCell ⟨g, 0, none⟩ x).setCell ⟨g, 1, none⟩ y) := by
  refine ⟨(h.has.1.setCell (by simp; omega) _).setCell (by simp; omega) _, fun z hz => ?_⟩
  rw [heap_setCell_other _ _ _ _ (by simp at hz; rcases hz with rfl | rfl | rfl <;> simp <;> omega), heap_setCell_other _ _ _ _ (by simp at hz; rcases hz with rfl | rfl | rfl <;> simp <;> omega)]
  exact h.has.2 z hz
theorem R3.all {w V : World} {n1 n2 m1 m2 : Int} (h : R3 w n1 n2 m1 m2 V) :
    R3 w n1 n2 m1 m2 V ∧ V.cell? ⟨w.heap.size, 0, none⟩ = some (.int .u64 n1) ∧ V.cell? ⟨w.heap.size, 1, none⟩ = some (.int .u64 n2) ∧ V.cell? ⟨w.heap.size + 1, 0, none⟩ = some (.int .u64 m1) ∧ V.cell? ⟨w.heap.size + 1, 1, none⟩ = some (.int .u64 m2) :=
  have ha := cells2 (h.has.row (b := w.heap.size) (cs := #[.int .u64 n1, .int .u64 n2]) (t := 96) (by simp))
  have hb := cells2 (h.has.row (b := w.heap.size + 1) (cs := #[.int .u64 m1, .int .u64 m2]) (t := 96) (by simp))
  ⟨h, ha.1, ha.2, hb.1, hb.2⟩
theorem R3.of {w V : World} {n1 n2 m1 m2 : Int} (h : R3 w n1 n2 m1 m2 V ∧ V.cell? ⟨w.heap.size, 0, none⟩ = some (.int .u64 n1) ∧ V.cell? ⟨w.heap.size, 1, none⟩ = some (.int .u64 n2) ∧ V.cell? ⟨w.heap.size + 1, 0, none⟩ = some (.int .u64 m1) ∧ V.cell? ⟨w.heap.size + 1, 1, none⟩ = some (.int .u64 m2)) : R3 w n1 n2 m1 m2 V := h.1
abbrev Zo : Obj := .cells #[.int .u64 0, .int .u64 0] 96
abbrev zw (w V : World) (g : Nat) : Prop := Zb w V g (.int .u64 0) (.int .u64 0) 96
/-- What is known of a block: its cells. -/
theorem Zb.all {w V : World} {g : Nat} {x y : Value} {t : TypeId} (h : Zb w V g x y t) : Zb w V g x y t ∧ V.cell? ⟨g, 0, none⟩ = some x ∧ V.cell? ⟨g, 1, none⟩ = some y ∧ V.frozen? ⟨g, 0, none⟩ = false ∧ V.frozen? ⟨g, 1, none⟩ = false ∧ g < V.heap.size :=
  ⟨h, (cells2 h.row).1, (cells2 h.row).2, (frozen2 h.row).1, (frozen2 h.row).2, (Array.getElem?_eq_some_iff.1 h.row).1⟩
theorem Zb.step {w V V2 : World} {g : Nat} {x y : Value} {t : TypeId} (hb : Below V.heap.size V V2) (h : Zb w V g x y t) : Zb w V2 g x y t := ⟨(hb.block _ (Array.getElem?_eq_some_iff.1 h.row).1).trans h.row, h.big⟩
theorem Zb.alloc {w V : World} {g : Nat} {x y : Value} {t : TypeId} (o : Obj) (h : Zb w V g x y t) : Zb w (V.alloc o) g x y t := ⟨(heap_alloc_old _ _ (Array.getElem?_eq_some_iff.1 h.row).1).trans h.row, h.big⟩
theorem Zb.drew {w V : World} {g : Nat} {x y : Value} {t : TypeId} (h : Zb w V g x y t) : Zb w V.drew g x y t := ⟨h.row, h.big⟩
theorem Zb.new {w V : World} (x y : Value) (t : TypeId) (h : w.heap.size + 1 + 1 < V.heap.size) : Zb w (V.alloc (.cells #[x, y] t)) V.heap.size x y t := ⟨heap_alloc_new _ _, h⟩
theorem Zb.new2 {w V : World} (o : Obj) (x y : Value) (t : TypeId) (h : w.heap.size + 1 + 1 < V.heap.size) : Zb w ((V.alloc o).alloc (.cells #[x, y] t)) (V.heap.size + 1) x y t := by
  have := Zb.new (V := V.alloc o) (w := w) x y t (by rw [World.size_alloc]; omega)
  rwa [World.size_alloc] at this
theorem Zb.set {w V : World} {g : Nat} {x y u v : Value} {t : TypeId} (h : Zb w V g x y t) : Zb w ((V.setCell ⟨g, 0, none⟩ u).setCell ⟨g, 1, none⟩ v) g u v t :=
  ⟨heap_setCell_same _ _ 1 _ _ v (heap_setCell_same _ _ 0 _ _ u h.row), h.big⟩
theorem Zb.other {w V : World} {g k : Nat} {x y u v : Value} {t : TypeId} (hk : g ≠ k) (h : Zb w V g x y t) : Zb w ((V.setCell ⟨k, 0, none⟩ u).setCell ⟨k, 1, none⟩ v) g x y t :=
  ⟨by rw [heap_setCell_other _ _ _ _ hk, heap_setCell_other _ _ _ _ hk]; exact h.row, h.big⟩
theorem R3.unalloc {w V : World} {n1 n2 m1 m2 : Int} {c : Array Value} (h : R3 w n1 n2 m1 m2 (V.alloc (.cells c 96))) : R3 w n1 n2 m1 m2 V := by
  have h3 := h.has.row (b := w.heap.size + 1 + 1) (cs := #[.int .i64 0, .int .i64 0]) (t := 42) (by simp)
  have hl := h.lt
  rw [World.size_alloc] at hl
  have hl2 : w.heap.size + 1 + 1 < V.heap.size := by
    rcases Nat.lt_or_ge (w.heap.size + 1 + 1) V.heap.size with h2 | h2
    · exact h2
    · have e : w.heap.size + 1 + 1 = V.heap.size := by omega
      rw [e, heap_alloc_new] at h3
      simp at h3
  have hb := h.has.1
  refine ⟨⟨hb.os, hb.tape, hb.output, by omega, fun k hk => ?_⟩, fun z hz => ?_⟩
  · have h5 := hb.block k hk
    rwa [heap_alloc_old _ _ (by omega)] at h5
  · have h5 := h.has.2 z hz
    rwa [heap_alloc_old _ _ (by simp at hz; rcases hz with rfl | rfl | rfl <;> simp <;> omega)] at h5
theorem R3.re1 {w V : World} {n1 n2 m1 m2 : Int} {c c' : Array Value} (h : R3 w n1 n2 m1 m2 (V.alloc (.cells c 96))) : R3 w n1 n2 m1 m2 (V.alloc (.cells c' 96)) := h.unalloc.alloc _
theorem R3.re2 {w V : World} {n1 n2 m1 m2 : Int} {c c' d d' : Array Value} (h : R3 w n1 n2 m1 m2 ((V.alloc (.cells c 96)).alloc (.cells d 96))) : R3 w n1 n2 m1 m2 ((V.alloc (.cells c' 96)).alloc (.cells d' 96)) := (h.unalloc.unalloc.alloc _).alloc _
theorem R3.undrew {w V : World} {n1 n2 m1 m2 : Int} (h : R3 w n1 n2 m1 m2 V.drew) : R3 w n1 n2 m1 m2 V := ⟨⟨⟨h.has.1.os, h.has.1.tape, h.has.1.output, h.has.1.size, h.has.1.block⟩, h.has.2⟩⟩
/-- Two such blocks. -/
structure ZZ (w V : World) (a b : Nat) : Prop where
  l : zw w V a
  r : zw w V b
  ne : a ≠ b
theorem ZZ.all {w V : World} {a b : Nat} (h : ZZ w V a b) : ZZ w V a b ∧ (zw w V a ∧ V.cell? ⟨a, 0, none⟩ = some (.int .u64 0) ∧ V.cell? ⟨a, 1, none⟩ = some (.int .u64 0) ∧ V.frozen? ⟨a, 0, none⟩ = false ∧ V.frozen? ⟨a, 1, none⟩ = false ∧ a < V.heap.size) ∧ (zw w V b ∧ V.cell? ⟨b, 0, none⟩ = some (.int .u64 0) ∧ V.cell? ⟨b, 1, none⟩ = some (.int .u64 0) ∧ V.frozen? ⟨b, 0, none⟩ = false ∧ V.frozen? ⟨b, 1, none⟩ = false ∧ b < V.heap.size) ∧ a ≠ b ∧ b ≠ a := ⟨h, h.l.all, h.r.all, h.ne, h.ne.symm⟩
/-- The same of a world that is kept in mind. -/
structure R3k (w : World) (n1 n2 m1 m2 : Int) (V : World) : Prop where
  out : R3 w n1 n2 m1 m2 V
theorem ZZ.mk2 {w V V2 : World} {n1 n2 m1 m2 : Int} (hb : Below ((V.alloc Zo).alloc Zo).heap.size ((V.alloc Zo).alloc Zo) V2) (h : R3 w n1 n2 m1 m2 ((V.alloc Zo).alloc Zo)) : ZZ w V2 V.heap.size (V.heap.size + 1) :=
  ⟨((Zb.new _ _ _ h.unalloc.unalloc.lt).alloc _).step hb, (Zb.new2 _ _ _ _ h.unalloc.unalloc.lt).step hb, by simp⟩
theorem ZZ.mk2d {w V V2 : World} {n1 n2 m1 m2 : Int} (hb : Below ((V.alloc Zo).alloc Zo).drew.heap.size ((V.alloc Zo).alloc Zo).drew V2) (h : R3 w n1 n2 m1 m2 ((V.alloc Zo).alloc Zo).drew) : ZZ w V2 V.heap.size (V.heap.size + 1) :=
  ⟨((Zb.new _ _ _ h.undrew.unalloc.unalloc.lt).alloc _).drew.step hb, (Zb.new2 _ _ _ _ h.undrew.unalloc.unalloc.lt).drew.step hb, by simp⟩
theorem Zb.mk1 {w V V2 : World} {n1 n2 m1 m2 : Int} (hb : Below (V.alloc Zo).heap.size (V.alloc Zo) V2) (h : R3 w n1 n2 m1 m2 (V.alloc Zo)) : zw w V2 V.heap.size := (Zb.new _ _ _ h.unalloc.lt).step hb
theorem Zb.mk1d {w V V2 : World} {n1 n2 m1 m2 : Int} (hb : Below (V.alloc Zo).drew.heap.size (V.alloc Zo).drew V2) (h : R3 w n1 n2 m1 m2 (V.alloc Zo).drew) : zw w V2 V.heap.size := (Zb.new _ _ _ h.undrew.unalloc.lt).drew.step hb
theorem Zb.lt {w V : World} {g : Nat} {x y : Value} {t : TypeId} (h : Zb w V g x y t) : g < V.heap.size := (Array.getElem?_eq_some_iff.1 h.row).1
theorem ZZ.mix {w V V2 : World} {n1 n2 m1 m2 : Int} {g : Nat} (hb : Below (V.alloc Zo).heap.size (V.alloc Zo) V2) (h : R3 w n1 n2 m1 m2 (V.alloc Zo)) (z : zw w V g) : ZZ w V2 g V.heap.size := ⟨(z.alloc _).step hb, Zb.mk1 hb h, Nat.ne_of_lt z.lt⟩
theorem ZZ.pass {w V V2 : World} {a b : Nat} (hb : Below V.heap.size V V2) (z : ZZ w V a b) : ZZ w V2 a b := ⟨z.l.step hb, z.r.step hb, z.ne⟩
/-- Behind reduced's first statement. -/
def R5 (w : World) (n1 n2 m1 m2 a1 a2 b1 b2 : Int) (v5 v6 : Value) (V : World) : Prop :=
  ∃ g k : Nat, v5 = .pointer (some ⟨g, 0, none⟩) ∧ v6 = .pointer (some ⟨k, 0, none⟩) ∧ g ≠ k ∧ R3 w n1 n2 m1 m2 V ∧ Zb w V g (.int .u64 a1) (.int .u64 a2) 96 ∧ Zb w V k (.int .u64 b1) (.int .u64 b2) 96

theorem R5.step {w V V2 : World} {n1 n2 m1 m2 a1 a2 b1 b2 : Int} {g k : Nat} (hb : Below V.heap.size V V2) (h : R3 w n1 n2 m1 m2 V ∧ Zb w V g (.int .u64 a1) (.int .u64 a2) 96 ∧ Zb w V k (.int .u64 b1) (.int .u64 b2) 96) :
    R3 w n1 n2 m1 m2 V2 ∧ Zb w V2 g (.int .u64 a1) (.int .u64 a2) 96 ∧ Zb w V2 k (.int .u64 b1) (.int .u64 b2) 96 := ⟨h.1.step hb, h.2.1.step hb, h.2.2.step hb⟩
theorem R5.l1 {w V : World} {n1 n2 m1 m2 a1 a2 b1 b2 : Int} (h : R3 w n1 n2 m1 m2 V) : R5 w n1 n2 m1 m2 a1 a2 b1 b2 (.pointer (some ⟨V.heap.size, 0, none⟩)) (.pointer (some ⟨V.heap.size + 1, 0, none⟩)) ((V.alloc (.cells #[.int .u64 a1, .int .u64 a2] 96)).alloc (.cells #[.int .u64 b1, .int .u64 b2] 96)) :=
  ⟨_, _, rfl, rfl, by simp, (h.alloc _).alloc _, (Zb.new _ _ _ h.lt).alloc _, Zb.new2 _ _ _ _ h.lt⟩
theorem R5.l2 {w V : World} {n1 n2 m1 m2 a1 a2 b1 b2 : Int} (h : R3 w n1 n2 m1 m2 V) : R5 w n1 n2 m1 m2 a1 a2 b1 b2 (.pointer (some ⟨V.heap.size + 1, 0, none⟩)) (.pointer (some ⟨V.heap.size, 0, none⟩)) ((V.alloc (.cells #[.int .u64 b1, .int .u64 b2] 96)).alloc (.cells #[.int .u64 a1, .int .u64 a2] 96)) :=
  ⟨_, _, rfl, rfl, by simp, (h.alloc _).alloc _, Zb.new2 _ _ _ _ h.lt, (Zb.new _ _ _ h.lt).alloc _⟩
theorem R5.l3 {w V : World} {n1 n2 m1 m2 a1 a2 b1 b2 : Int} {g : Nat} (h : R3 w n1 n2 m1 m2 V) (z : zw w V g) : R5 w n1 n2 m1 m2 a1 a2 b1 b2 (.pointer (some ⟨g, 0, none⟩)) (.pointer (some ⟨V.heap.size, 0, none⟩)) (((V.setCell ⟨g, 0, none⟩ (.int .u64 a1)).setCell ⟨g, 1, none⟩ (.int .u64 a2)).alloc (.cells #[.int .u64 b1, .int .u64 b2] 96)) :=
  ⟨_, _, rfl, rfl, Nat.ne_of_lt z.lt, (h.store _ _ z.big).alloc _, (z.set).alloc _, by
    have := Zb.new (V := (V.setCell ⟨g, 0, none⟩ (.int .u64 a1)).setCell ⟨g, 1, none⟩ (.int .u64 a2)) (w := w) (.int .u64 b1) (.int .u64 b2) 96 (by simp; exact h.lt)
    simpa using this⟩
theorem R5.l4 {w V : World} {n1 n2 m1 m2 a1 a2 b1 b2 : Int} {g : Nat} (h : R3 w n1 n2 m1 m2 V) (z : zw w V g) : R5 w n1 n2 m1 m2 a1 a2 b1 b2 (.pointer (some ⟨V.heap.size, 0, none⟩)) (.pointer (some ⟨g, 0, none⟩)) (((V.setCell ⟨g, 0, none⟩ (.int .u64 b1)).setCell ⟨g, 1, none⟩ (.int .u64 b2)).alloc (.cells #[.int .u64 a1, .int .u64 a2] 96)) :=
  ⟨_, _, rfl, rfl, Nat.ne_of_gt z.lt, (h.store _ _ z.big).alloc _, by
    have := Zb.new (V := (V.setCell ⟨g, 0, none⟩ (.int .u64 b1)).setCell ⟨g, 1, none⟩ (.int .u64 b2)) (w := w) (.int .u64 a1) (.int .u64 a2) 96 (by simp; exact h.lt)
    simpa using this, (z.set).alloc _⟩
theorem R5.l5 {w V : World} {n1 n2 m1 m2 a1 a2 b1 b2 : Int} {g k : Nat} (h : R3 w n1 n2 m1 m2 V) (z : ZZ w V g k) : R5 w n1 n2 m1 m2 a1 a2 b1 b2 (.pointer (some ⟨g, 0, none⟩)) (.pointer (some ⟨k, 0, none⟩)) ((((V.setCell ⟨g, 0, none⟩ (.int .u64 a1)).setCell ⟨g, 1, none⟩ (.int .u64 a2)).setCell ⟨k, 0, none⟩ (.int .u64 b1)).setCell ⟨k, 1, none⟩ (.int .u64 b2)) :=
  ⟨_, _, rfl, rfl, z.ne, (h.store _ _ z.l.big).store _ _ z.r.big, (z.l.set).other z.ne, (z.r.other z.ne.symm).set⟩
theorem R5.l6 {w V : World} {n1 n2 m1 m2 a1 a2 b1 b2 : Int} {g k : Nat} (h : R3 w n1 n2 m1 m2 V) (z : ZZ w V k g) : R5 w n1 n2 m1 m2 a1 a2 b1 b2 (.pointer (some ⟨g, 0, none⟩)) (.pointer (some ⟨k, 0, none⟩)) ((((V.setCell ⟨g, 0, none⟩ (.int .u64 a1)).setCell ⟨g, 1, none⟩ (.int .u64 a2)).setCell ⟨k, 0, none⟩ (.int .u64 b1)).setCell ⟨k, 1, none⟩ (.int .u64 b2)) :=
  R5.l5 h ⟨z.r, z.l, z.ne.symm⟩
/-- The blocks ahead of reduced's fifth statement. -/
structure R7 (w : World) (n1 n2 m1 m2 : Int) (g k : Nat) (c1 c2 d1 d2 : Int) (V : World) : Prop where
  r : R3 w n1 n2 m1 m2 V
  zg : Zb w V g (.int .u64 c1) (.int .u64 c2) 96
  zk : Zb w V k (.int .u64 d1) (.int .u64 d2) 96
theorem R7.step {w V V2 : World} {n1 n2 m1 m2 c1 c2 d1 d2 : Int} {g k : Nat} (hb : Below V.heap.size V V2) (h : R7 w n1 n2 m1 m2 g k c1 c2 d1 d2 V) : R7 w n1 n2 m1 m2 g k c1 c2 d1 d2 V2 := ⟨h.r.step hb, h.zg.step hb, h.zk.step hb⟩
theorem R7.drew {w V : World} {n1 n2 m1 m2 c1 c2 d1 d2 : Int} {g k : Nat} (h : R7 w n1 n2 m1 m2 g k c1 c2 d1 d2 V) : R7 w n1 n2 m1 m2 g k c1 c2 d1 d2 V.drew := ⟨h.r.drew, h.zg.drew, h.zk.drew⟩
theorem R7.alloc {w V : World} {n1 n2 m1 m2 c1 c2 d1 d2 : Int} {g k : Nat} (o : Obj) (h : R7 w n1 n2 m1 m2 g k c1 c2 d1 d2 V) : R7 w n1 n2 m1 m2 g k c1 c2 d1 d2 (V.alloc o) := ⟨h.r.alloc o, h.zg.alloc o, h.zk.alloc o⟩
theorem R7.all {w V : World} {n1 n2 m1 m2 c1 c2 d1 d2 : Int} {g k : Nat} (h : R7 w n1 n2 m1 m2 g k c1 c2 d1 d2 V) :
    R7 w n1 n2 m1 m2 g k c1 c2 d1 d2 V ∧ V.cell? ⟨g, 0, none⟩ = some (.int .u64 c1) ∧ V.cell? ⟨g, 1, none⟩ = some (.int .u64 c2) ∧ V.cell? ⟨k, 0, none⟩ = some (.int .u64 d1) ∧ V.cell? ⟨k, 1, none⟩ = some (.int .u64 d2) :=
  ⟨h, h.zg.all.2.1, h.zg.all.2.2.1, h.zk.all.2.1, h.zk.all.2.2.1⟩
/-- Where a store into a block that was laid later leaves it. -/
theorem R7.store {w V : World} {n1 n2 m1 m2 c1 c2 d1 d2 : Int} {g k h : Nat} (x y : Value) (hh : w.heap.size + 1 + 1 < h ∧ g ≠ h ∧ k ≠ h) (H : R7 w n1 n2 m1 m2 g k c1 c2 d1 d2 V) : R7 w n1 n2 m1 m2 g k c1 c2 d1 d2 ((V.setCell ⟨h, 0, none⟩ x).setCell ⟨h, 1, none⟩ y) := ⟨H.r.store x y hh.1, H.zg.other hh.2.1, H.zk.other hh.2.2⟩
structure R7k (w : World) (n1 n2 m1 m2 : Int) (g k : Nat) (c1 c2 d1 d2 : Int) (V : World) : Prop where
  out : R7 w n1 n2 m1 m2 g k c1 c2 d1 d2 V
/-- A block behind all those. -/
structure Zn (w V : World) (g k h : Nat) (x y : Int) : Prop where
  z : Zb w V h (.int .i64 x) (.int .i64 y) 42
  ne : w.heap.size + 1 + 1 < h ∧ g ≠ h ∧ k ≠ h
theorem Zn.new {w V : World} {n1 n2 m1 m2 c1 c2 d1 d2 : Int} {g k : Nat} (x y : Int) (h : R7 w n1 n2 m1 m2 g k c1 c2 d1 d2 V) : Zn w (V.alloc (.cells #[.int .i64 x, .int .i64 y] 42)) g k V.heap.size x y :=
  ⟨Zb.new _ _ _ h.r.lt, h.r.lt, Nat.ne_of_lt h.zg.lt, Nat.ne_of_lt h.zk.lt⟩
theorem Zn.step {w V V2 : World} {g k h : Nat} {x y : Int} (hb : Below V.heap.size V V2) (z : Zn w V g k h x y) : Zn w V2 g k h x y := ⟨z.z.step hb, z.ne⟩
theorem Zn.drew {w V : World} {g k h : Nat} {x y : Int} (z : Zn w V g k h x y) : Zn w V.drew g k h x y := ⟨z.z.drew, z.ne⟩
theorem Zn.all {w V : World} {g k h : Nat} {x y : Int} (z : Zn w V g k h x y) : Zn w V g k h x y ∧ V.cell? ⟨h, 0, none⟩ = some (.int .i64 x) ∧ V.cell? ⟨h, 1, none⟩ = some (.int .i64 y) ∧ V.frozen? ⟨h, 0, none⟩ = false ∧ V.frozen? ⟨h, 1, none⟩ = false := ⟨z, z.z.all.2.1, z.z.all.2.2.1, z.z.all.2.2.2.1, z.z.all.2.2.2.2.1⟩
theorem Zn.set {w V : World} {g k h : Nat} {x y : Int} (u v : Int) (z : Zn w V g k h x y) : Zn w ((V.setCell ⟨h, 0, none⟩ (.int .i64 u)).setCell ⟨h, 1, none⟩ (.int .i64 v)) g k h u v := ⟨z.z.set, z.ne⟩
/-- The blocks behind reduced's fifth statement. -/
structure R8 (w : World) (n1 n2 m1 m2 : Int) (h : Nat) (x y : Int) (V : World) : Prop where
  r : R3 w n1 n2 m1 m2 V
  z : Zb w V h (.int .i64 x) (.int .i64 y) 42
theorem R8.step {w V V2 : World} {n1 n2 m1 m2 x y : Int} {h : Nat} (hb : Below V.heap.size V V2) (H : R8 w n1 n2 m1 m2 h x y V) : R8 w n1 n2 m1 m2 h x y V2 := ⟨H.r.step hb, H.z.step hb⟩
theorem R8.drew {w V : World} {n1 n2 m1 m2 x y : Int} {h : Nat} (H : R8 w n1 n2 m1 m2 h x y V) : R8 w n1 n2 m1 m2 h x y V.drew := ⟨H.r.drew, H.z.drew⟩
theorem R8.all {w V : World} {n1 n2 m1 m2 x y : Int} {h : Nat} (H : R8 w n1 n2 m1 m2 h x y V) :
    R8 w n1 n2 m1 m2 h x y V ∧ V.cell? ⟨w.heap.size, 0, none⟩ = some (.int .u64 n1) ∧ V.cell? ⟨w.heap.size, 1, none⟩ = some (.int .u64 n2) ∧ V.cell? ⟨w.heap.size + 1, 0, none⟩ = some (.int .u64 m1) ∧ V.cell? ⟨w.heap.size + 1, 1, none⟩ = some (.int .u64 m2) := ⟨H, H.r.all.2⟩
structure R8k (w : World) (n1 n2 m1 m2 : Int) (h : Nat) (x y : Int) (V : World) : Prop where
  out : R8 w n1 n2 m1 m2 h x y V
theorem R3.rowC {w V : World} {n1 n2 m1 m2 : Int} (h : R3 w n1 n2 m1 m2 V) : V.heap[w.heap.size + 1 + 1]? = some (.cells #[.int .i64 0, .int .i64 0] 42 (0, 0)) := h.has.row (by simp)
/-- How reduced ends, by how narrow ends. -/
def redE (ea eb : Option Int) (st : Bool) : Ending :=
  match ea, eb with
  | some x, some y => .returned (.agg #[.int .i64 (if st then x else -x), .int .i64 y])
  | _, _ => over
/-- How narrow ends. -/
def narE (ea : Option Int) : Ending := match ea with
  | some x => .returned (.int .i64 x)
  | none => over
end Go.Proofs.Ytffnopdpndpngaa.Pro
