/- The program's numbers of two words: divide. -/
import Derived.Test.YtbiegbnncnjnmaaPB
set_option linter.unusedVariables false
set_option linter.unusedSimpArgs false
namespace Go.Proofs.Ytbiegbnncnjnmaa.Pro
open Go.RowKit

/-- What a cell holds. -/
def held (V : World) (g j : Nat) : Value := (V.cell? ⟨g, j, none⟩).getD undef
/-- Four blocks of two cells: two that are known, two that are written. -/
def D4 (w : World) (a1 a2 b1 b2 : Value) (V : World) : Prop :=
  ∃ c1 c2 d1 d2, Has w [(w.heap.size, #[a1, a2], 65), (w.heap.size + 1, #[b1, b2], 65), (w.heap.size + 1 + 1, #[c1, c2], 65), (w.heap.size + 1 + 1 + 1, #[d1, d2], 65)] V
theorem Has.perm {w V : World} {L M : List (Nat × Array Value × TypeId)} (h : Has w L V) (hM : ∀ x, x ∈ M → x ∈ L) : Has w M V := h.sub hM
theorem D4.step {w V V2 : World} {a1 a2 b1 b2 : Value} (h : D4 w a1 a2 b1 b2 V) (hb : Below V.heap.size V V2) : D4 w a1 a2 b1 b2 V2 := by
  obtain ⟨c1, c2, d1, d2, h⟩ := h
  exact ⟨c1, c2, d1, d2, h.step hb⟩
theorem D4.drew {w V : World} {a1 a2 b1 b2 : Value} (h : D4 w a1 a2 b1 b2 V) : D4 w a1 a2 b1 b2 V.drew := by
  obtain ⟨c1, c2, d1, d2, h⟩ := h
  exact ⟨c1, c2, d1, d2, h.drew⟩
/-- Both cells of one block out of four, written. -/
theorem Has.setC {w V : World} {a b c d : Array Value} {x y u v : Value} (h : Has w [(w.heap.size, a, 65), (w.heap.size + 1, b, 65), (w.heap.size + 1 + 1, #[x, y], 65), (w.heap.size + 1 + 1 + 1, d, 65)] V) :
    Has w [(w.heap.size, a, 65), (w.heap.size + 1, b, 65), (w.heap.size + 1 + 1, #[u, v], 65), (w.heap.size + 1 + 1 + 1, d, 65)] ((V.setCell ⟨w.heap.size + 1 + 1, 0, none⟩ u).setCell ⟨w.heap.size + 1 + 1, 1, none⟩ v) := by
  have h1 : Has w [(w.heap.size + 1 + 1, #[x, y], 65), (w.heap.size, a, 65), (w.heap.size + 1, b, 65), (w.heap.size + 1 + 1 + 1, d, 65)] V := h.perm (by simp)
  have hne : ∀ x ∈ [(w.heap.size, a, (65 : TypeId)), (w.heap.size + 1, b, 65), (w.heap.size + 1 + 1 + 1, d, 65)], x.1 ≠ w.heap.size + 1 + 1 := by simp; omega
  exact ((h1.set hne 0 u).set hne 1 v).perm (by simp)
theorem Has.setD {w V : World} {a b c : Array Value} {x y u v : Value} (h : Has w [(w.heap.size, a, 65), (w.heap.size + 1, b, 65), (w.heap.size + 1 + 1, c, 65), (w.heap.size + 1 + 1 + 1, #[x, y], 65)] V) :
    Has w [(w.heap.size, a, 65), (w.heap.size + 1, b, 65), (w.heap.size + 1 + 1, c, 65), (w.heap.size + 1 + 1 + 1, #[u, v], 65)] ((V.setCell ⟨w.heap.size + 1 + 1 + 1, 0, none⟩ u).setCell ⟨w.heap.size + 1 + 1 + 1, 1, none⟩ v) := by
  have h1 : Has w [(w.heap.size + 1 + 1 + 1, #[x, y], 65), (w.heap.size, a, 65), (w.heap.size + 1, b, 65), (w.heap.size + 1 + 1, c, 65)] V := h.perm (by simp)
  have hne : ∀ x ∈ [(w.heap.size, a, (65 : TypeId)), (w.heap.size + 1, b, 65), (w.heap.size + 1 + 1, c, 65)], x.1 ≠ w.heap.size + 1 + 1 + 1 := by simp; omega
  exact ((h1.set hne 0 u).set hne 1 v).perm (by simp)
theorem D4.setC {w V : World} {a1 a2 b1 b2 : Value} (u v : Value) (h : D4 w a1 a2 b1 b2 V) : D4 w a1 a2 b1 b2 ((V.setCell ⟨w.heap.size + 1 + 1, 0, none⟩ u).setCell ⟨w.heap.size + 1 + 1, 1, none⟩ v) := by
  obtain ⟨c1, c2, d1, d2, h⟩ := h
  exact ⟨u, v, d1, d2, h.setC (c := #[])⟩
theorem D4.setD {w V : World} {a1 a2 b1 b2 : Value} (u v : Value) (h : D4 w a1 a2 b1 b2 V) : D4 w a1 a2 b1 b2 ((V.setCell ⟨w.heap.size + 1 + 1 + 1, 0, none⟩ u).setCell ⟨w.heap.size + 1 + 1 + 1, 1, none⟩ v) := by
  obtain ⟨c1, c2, d1, d2, h⟩ := h
  exact ⟨c1, c2, u, v, h.setD⟩
theorem D4.all {w V : World} {a1 a2 b1 b2 : Value} (h : D4 w a1 a2 b1 b2 V) :
    V.cell? ⟨w.heap.size, 0, none⟩ = some a1 ∧ V.cell? ⟨w.heap.size, 1, none⟩ = some a2 ∧ V.cell? ⟨w.heap.size + 1, 0, none⟩ = some b1 ∧ V.cell? ⟨w.heap.size + 1, 1, none⟩ = some b2 ∧
    V.cell? ⟨w.heap.size + 1 + 1, 0, none⟩ = some (held V (w.heap.size + 1 + 1) 0) ∧ V.cell? ⟨w.heap.size + 1 + 1, 1, none⟩ = some (held V (w.heap.size + 1 + 1) 1) ∧ V.cell? ⟨w.heap.size + 1 + 1 + 1, 0, none⟩ = some (held V (w.heap.size + 1 + 1 + 1) 0) ∧ V.cell? ⟨w.heap.size + 1 + 1 + 1, 1, none⟩ = some (held V (w.heap.size + 1 + 1 + 1) 1) ∧
    V.frozen? ⟨w.heap.size + 1 + 1, 0, none⟩ = false ∧ V.frozen? ⟨w.heap.size + 1 + 1, 1, none⟩ = false ∧ V.frozen? ⟨w.heap.size + 1 + 1 + 1, 0, none⟩ = false ∧ V.frozen? ⟨w.heap.size + 1 + 1 + 1, 1, none⟩ = false ∧ D4 w a1 a2 b1 b2 V := by
  have h0 := h
  obtain ⟨c1, c2, d1, d2, h⟩ := h
  have ha := cells2 (h.row (b := w.heap.size) (cs := #[a1, a2]) (t := 65) (by simp))
  have hb := cells2 (h.row (b := w.heap.size + 1) (cs := #[b1, b2]) (t := 65) (by simp))
  have rc := h.row (b := w.heap.size + 1 + 1) (cs := #[c1, c2]) (t := 65) (by simp)
  have rd := h.row (b := w.heap.size + 1 + 1 + 1) (cs := #[d1, d2]) (t := 65) (by simp)
  have hc := cells2 rc
  have hd := cells2 rd
  refine ⟨ha.1, ha.2, hb.1, hb.2, ?_, ?_, ?_, ?_, (frozen2 rc).1, (frozen2 rc).2, (frozen2 rd).1, (frozen2 rd).2, h0⟩
  · unfold held; rw [hc.1]; rfl
  · unfold held; rw [hc.2]; rfl
  · unfold held; rw [hd.1]; rfl
  · unfold held; rw [hd.2]; rfl
theorem D4.of {w V : World} {a1 a2 b1 b2 : Value} (h : V.cell? ⟨w.heap.size, 0, none⟩ = some a1 ∧ V.cell? ⟨w.heap.size, 1, none⟩ = some a2 ∧ V.cell? ⟨w.heap.size + 1, 0, none⟩ = some b1 ∧ V.cell? ⟨w.heap.size + 1, 1, none⟩ = some b2 ∧
    V.cell? ⟨w.heap.size + 1 + 1, 0, none⟩ = some (held V (w.heap.size + 1 + 1) 0) ∧ V.cell? ⟨w.heap.size + 1 + 1, 1, none⟩ = some (held V (w.heap.size + 1 + 1) 1) ∧ V.cell? ⟨w.heap.size + 1 + 1 + 1, 0, none⟩ = some (held V (w.heap.size + 1 + 1 + 1) 0) ∧ V.cell? ⟨w.heap.size + 1 + 1 + 1, 1, none⟩ = some (held V (w.heap.size + 1 + 1 + 1) 1) ∧
    V.frozen? ⟨w.heap.size + 1 + 1, 0, none⟩ = false ∧ V.frozen? ⟨w.heap.size + 1 + 1, 1, none⟩ = false ∧ V.frozen? ⟨w.heap.size + 1 + 1 + 1, 0, none⟩ = false ∧ V.frozen? ⟨w.heap.size + 1 + 1 + 1, 1, none⟩ = false ∧ D4 w a1 a2 b1 b2 V) : D4 w a1 a2 b1 b2 V := h.2.2.2.2.2.2.2.2.2.2.2.2
/-- Four blocks whose cells are all known. -/
def E4 (w : World) (a1 a2 b1 b2 c1 c2 d1 d2 : Value) (V : World) : Prop :=
  Has w [(w.heap.size, #[a1, a2], 65), (w.heap.size + 1, #[b1, b2], 65), (w.heap.size + 1 + 1, #[c1, c2], 65), (w.heap.size + 1 + 1 + 1, #[d1, d2], 65)] V
theorem D4.endCD {w V : World} {a1 a2 b1 b2 : Value} (u v x y : Value) (h : D4 w a1 a2 b1 b2 V) :
    E4 w a1 a2 b1 b2 u v x y ((((V.setCell ⟨w.heap.size + 1 + 1, 0, none⟩ u).setCell ⟨w.heap.size + 1 + 1, 1, none⟩ v).setCell ⟨w.heap.size + 1 + 1 + 1, 0, none⟩ x).setCell ⟨w.heap.size + 1 + 1 + 1, 1, none⟩ y) := by
  obtain ⟨c1, c2, d1, d2, h⟩ := h
  exact (h.setC (c := #[])).setD
theorem D4.endDC {w V : World} {a1 a2 b1 b2 : Value} (u v x y : Value) (h : D4 w a1 a2 b1 b2 V) :
    E4 w a1 a2 b1 b2 u v x y ((((V.setCell ⟨w.heap.size + 1 + 1 + 1, 0, none⟩ x).setCell ⟨w.heap.size + 1 + 1 + 1, 1, none⟩ y).setCell ⟨w.heap.size + 1 + 1, 0, none⟩ u).setCell ⟨w.heap.size + 1 + 1, 1, none⟩ v) := by
  obtain ⟨c1, c2, d1, d2, h⟩ := h
  exact (h.setD).setC (c := #[])
theorem E4.d4 {w V : World} {a1 a2 b1 b2 c1 c2 d1 d2 : Value} (h : E4 w a1 a2 b1 b2 c1 c2 d1 d2 V) : D4 w a1 a2 b1 b2 V := ⟨_, _, _, _, h⟩
theorem E4.cells {w V : World} {a1 a2 b1 b2 c1 c2 d1 d2 : Value} (h : E4 w a1 a2 b1 b2 c1 c2 d1 d2 V) :
    (V.cell? ⟨w.heap.size, 0, none⟩ = some a1 ∧ V.cell? ⟨w.heap.size, 1, none⟩ = some a2) ∧ (V.cell? ⟨w.heap.size + 1, 0, none⟩ = some b1 ∧ V.cell? ⟨w.heap.size + 1, 1, none⟩ = some b2) ∧
    (V.cell? ⟨w.heap.size + 1 + 1, 0, none⟩ = some c1 ∧ V.cell? ⟨w.heap.size + 1 + 1, 1, none⟩ = some c2) ∧ (V.cell? ⟨w.heap.size + 1 + 1 + 1, 0, none⟩ = some d1 ∧ V.cell? ⟨w.heap.size + 1 + 1 + 1, 1, none⟩ = some d2) ∧
    (V.frozen? ⟨w.heap.size + 1 + 1, 0, none⟩ = false ∧ V.frozen? ⟨w.heap.size + 1 + 1, 1, none⟩ = false) ∧ (V.frozen? ⟨w.heap.size + 1 + 1 + 1, 0, none⟩ = false ∧ V.frozen? ⟨w.heap.size + 1 + 1 + 1, 1, none⟩ = false) :=
  have rc := h.row (b := w.heap.size + 1 + 1) (cs := #[c1, c2]) (t := 65) (by simp)
  have rd := h.row (b := w.heap.size + 1 + 1 + 1) (cs := #[d1, d2]) (t := 65) (by simp)
  ⟨cells2 (h.row (b := w.heap.size) (cs := #[a1, a2]) (t := 65) (by simp)), cells2 (h.row (b := w.heap.size + 1) (cs := #[b1, b2]) (t := 65) (by simp)), cells2 rc, cells2 rd, frozen2 rc, frozen2 rd⟩
theorem E4.step {w V V2 : World} {a1 a2 b1 b2 c1 c2 d1 d2 : Value} (h : E4 w a1 a2 b1 b2 c1 c2 d1 d2 V) (hb : Below V.heap.size V V2) : E4 w a1 a2 b1 b2 c1 c2 d1 d2 V2 := Has.step h hb
theorem E4.drew {w V : World} {a1 a2 b1 b2 c1 c2 d1 d2 : Value} (h : E4 w a1 a2 b1 b2 c1 c2 d1 d2 V) : E4 w a1 a2 b1 b2 c1 c2 d1 d2 V.drew := Has.drew h
theorem E4.setC {w V : World} {a1 a2 b1 b2 c1 c2 d1 d2 : Value} (u v : Value) (h : E4 w a1 a2 b1 b2 c1 c2 d1 d2 V) :
    E4 w a1 a2 b1 b2 u v d1 d2 ((V.setCell ⟨w.heap.size + 1 + 1, 0, none⟩ u).setCell ⟨w.heap.size + 1 + 1, 1, none⟩ v) := Has.setC (c := #[]) h
theorem E4.setD {w V : World} {a1 a2 b1 b2 c1 c2 d1 d2 : Value} (u v : Value) (h : E4 w a1 a2 b1 b2 c1 c2 d1 d2 V) :
    E4 w a1 a2 b1 b2 c1 c2 u v ((V.setCell ⟨w.heap.size + 1 + 1 + 1, 0, none⟩ u).setCell ⟨w.heap.size + 1 + 1 + 1, 1, none⟩ v) := Has.setD h
theorem E4.undrew {w V : World} {a1 a2 b1 b2 c1 c2 d1 d2 : Value} (h : E4 w a1 a2 b1 b2 c1 c2 d1 d2 V.drew) : E4 w a1 a2 b1 b2 c1 c2 d1 d2 V := ⟨⟨h.1.os, h.1.tape, h.1.output, h.1.size, h.1.block⟩, h.2⟩
theorem E4.start (w : World) (a1 a2 b1 b2 c1 c2 d1 d2 : Value) : E4 w a1 a2 b1 b2 c1 c2 d1 d2 ((((w.alloc (.cells #[a1, a2] 65)).alloc (.cells #[b1, b2] 65)).alloc (.cells #[c1, c2] 65)).alloc (.cells #[d1, d2] 65)) := by
  have h := ((((Has.start w).alloc #[a1, a2] 65).alloc #[b1, b2] 65).alloc #[c1, c2] 65).alloc #[d1, d2] 65
  simp only [World.size_alloc] at h
  exact h.perm (by simp)
theorem E4.rowC {w V : World} {a1 a2 b1 b2 c1 c2 d1 d2 : Value} (h : E4 w a1 a2 b1 b2 c1 c2 d1 d2 V) : V.heap[w.heap.size + 1 + 1]? = some (.cells #[c1, c2] 65 (0, 0)) := h.row (by simp)
theorem E4.rowD {w V : World} {a1 a2 b1 b2 c1 c2 d1 d2 : Value} (h : E4 w a1 a2 b1 b2 c1 c2 d1 d2 V) : V.heap[w.heap.size + 1 + 1 + 1]? = some (.cells #[d1, d2] 65 (0, 0)) := h.row (by simp)
/-- The end of a function whose two results lie in blocks. -/
theorem res_two {fn : Func} {p q : Tmp} {ty : TypeId} {P : Program} (h : fn.results = #[.cell p ty, .cell q ty]) (tmps : Array Value) (w : World) (g k : Nat) (t : TypeId) (cs ds : Array Value) (d : TypeDesc)
    (hp : tmps.getD p undef = .pointer (some ⟨g, 0, none⟩)) (hq : tmps.getD q undef = .pointer (some ⟨k, 0, none⟩)) (hg : w.heap[g]? = some (.cells cs t (0, 0))) (hk : w.heap[k]? = some (.cells ds t (0, 0)))
    (hu : P.underlying ty = some d) (hd : (match d with | .struct _ | .array _ _ => true | _ => false) = true) (hi : (P.info? ty).map (·.size) = some cs.size) (hi2 : (P.info? ty).map (·.size) = some ds.size) :
    (results fn tmps).run P w = .ok (.tuple #[.agg cs, .agg ds]) w := by
  have hl := run_loadVar_row (P := P) w g t ty cs (0, 0) d hg hu (by cases d <;> simp_all) hi
  have hl2 := run_loadVar_row (P := P) w k t ty ds (0, 0) d hk hu (by cases d <;> simp_all) hi2
  rw [Array.getD_eq_getD_getElem?] at hp hq
  simp only [results, h]
  simp [Sem.run_bind, hp, hq, asAddr, hl, hl2, Result.andThen, Sem.run_pure]
set_option maxHeartbeats 2000000 in
set_option maxRecDepth 100000 in
/-- Both numbers fit in a word. -/
theorem divide_word (a b : Nat) (ha : a < 18446744073709551616) (hb : b < 18446744073709551616) (h0 : 0 < b) (w : World) :
    Calls Try.prog 98 #[W a, W b] w fun e w' => e = .returned (.tuple #[W (a / b : Nat), W (a % b : Nat)]) ∧ Below w.heap.size w w' := by
  have hq : a / b ≤ a := Nat.div_le_self _ _
  have hr : a % b < b := Nat.mod_lt _ h0
  have z1 : ((a / b : Nat) : Int) < 18446744073709551616 := by omega
  have z2 : ((a % b : Nat) : Int) < 18446744073709551616 := by omega
  rw [W_small a (by omega) (by omega), W_small b (by omega) (by omega), W_small (a / b : Nat) (Int.natCast_nonneg _) z1, W_small (a % b : Nat) (Int.natCast_nonneg _) z2]
  clear z1 z2
  have g0 : ¬ ((b : Int) = 0) := by omega
  have g1 : ¬ (b = 0) := by omega
  go_enter Try.func98, Try.ntmps98
  go_wp2
  go_region
  go_wp2
  have T := (E4.start w (.int .u64 0) (.int .u64 a) (.int .u64 0) (.int .u64 b) (.int .u64 0) (.int .u64 (IntKind.u64.wrap ((a : Int) / b))) (.int .u64 0) (.int .u64 ((a : Int) % b))).drew
  refine bodyPost_ret (res_two rfl _ _ (w.heap.size + 1 + 1) (w.heap.size + 1 + 1 + 1) 65 _ _ _ rfl rfl T.rowC T.rowD Try.underlying65 rfl info46 info46) rfl ?_
  refine ⟨?_, T.1⟩
  have e : IntKind.u64.wrap ((a : Int) / b) = ((a / b : Nat) : Int) := by
    rw [← Int.natCast_ediv]
    generalize a / b = q at *
    exact IntWalk.u64_in _ (by omega)
  rw [e]; rfl

set_option maxHeartbeats 2000000 in
set_option maxRecDepth 100000 in
/-- The first is less than the second. -/
theorem divide_less1 (a1 a2 b1 b2 : Int) (g : (a1 == 0) = false) (LT : Hid (∀ w : World, Calls Try.prog 64 #[.agg #[.int .u64 a1, .int .u64 a2], .agg #[.int .u64 b1, .int .u64 b2]] w fun e w' => e = .returned (.bool true) ∧ Below w.heap.size w w')) (w : World) :
    Calls Try.prog 98 #[.agg #[.int .u64 a1, .int .u64 a2], .agg #[.int .u64 b1, .int .u64 b2]] w fun e w' => e = .returned (.tuple #[.agg #[.int .u64 0, .int .u64 0], .agg #[.int .u64 a1, .int .u64 a2]]) ∧ Below w.heap.size w w' := by
  go_enter Try.func98, Try.ntmps98
  go_wp2_with fail
  refine (LT.out _).mono ?_
  rintro e w1 ⟨rfl, hb1⟩
  have T1 := Lib.hid ((E4.start w (.int .u64 a1) (.int .u64 a2) (.int .u64 b1) (.int .u64 b2) (.int .u64 0) (.int .u64 0) (.int .u64 0) (.int .u64 0)).step hb1)
  clear hb1
  obtain ⟨⟨_, _⟩, ⟨_, _⟩, ⟨_, _⟩, ⟨_, _⟩, ⟨_, _⟩, ⟨_, _⟩⟩ := T1.out.cells
  go_wp2
  go_region
  go_wp2
  have T := (((T1.out.setC (.int .u64 0) (.int .u64 0)).setD (.int .u64 a1) (.int .u64 a2)).drew)
  refine bodyPost_ret (res_two rfl _ _ (w.heap.size + 1 + 1) (w.heap.size + 1 + 1 + 1) 65 _ _ _ rfl rfl T.rowC T.rowD Try.underlying65 rfl info46 info46) rfl ?_
  exact ⟨rfl, T.1⟩
set_option maxHeartbeats 2000000 in
set_option maxRecDepth 100000 in
theorem divide_less2 (a2 b1 b2 : Int) (g : (b1 == 0) = false) (LT : Hid (∀ w : World, Calls Try.prog 64 #[.agg #[.int .u64 0, .int .u64 a2], .agg #[.int .u64 b1, .int .u64 b2]] w fun e w' => e = .returned (.bool true) ∧ Below w.heap.size w w')) (w : World) :
    Calls Try.prog 98 #[.agg #[.int .u64 0, .int .u64 a2], .agg #[.int .u64 b1, .int .u64 b2]] w fun e w' => e = .returned (.tuple #[.agg #[.int .u64 0, .int .u64 0], .agg #[.int .u64 0, .int .u64 a2]]) ∧ Below w.heap.size w w' := by
  go_enter Try.func98, Try.ntmps98
  go_wp2_with fail
  refine (LT.out _).mono ?_
  rintro e w1 ⟨rfl, hb1⟩
  have T1 := Lib.hid ((E4.start w (.int .u64 0) (.int .u64 a2) (.int .u64 b1) (.int .u64 b2) (.int .u64 0) (.int .u64 0) (.int .u64 0) (.int .u64 0)).step hb1)
  clear hb1
  obtain ⟨⟨_, _⟩, ⟨_, _⟩, ⟨_, _⟩, ⟨_, _⟩, ⟨_, _⟩, ⟨_, _⟩⟩ := T1.out.cells
  go_wp2
  go_region
  go_wp2
  have T := (((T1.out.setC (.int .u64 0) (.int .u64 0)).setD (.int .u64 0) (.int .u64 a2)).drew)
  refine bodyPost_ret (res_two rfl _ _ (w.heap.size + 1 + 1) (w.heap.size + 1 + 1 + 1) 65 _ _ _ rfl rfl T.rowC T.rowD Try.underlying65 rfl info46 info46) rfl ?_
  exact ⟨rfl, T.1⟩
end Go.Proofs.Ytbiegbnncnjnmaa.Pro
