/- Layer 6: operations on whole rows, the worlds behind them as variables. -/
import Derived.Test.YtilfggnhaehbcaaK2
set_option linter.unusedVariables false
set_option linter.unusedSimpArgs false
namespace Go.Proofs.Ytilfggnhaehbcaa.Rx
open Go.RowKit
section
variable {P : Program}
/-- A variable of many cells. -/
theorem wpList_alloc_abs {ops : Array Oper} {rest : List Oper} {o : Oper} {a : Act} {w : World} {Q : Exit → Act → World → Prop} (hgd : o.guard = none) (t : TypeId) (ho : o.op = .alloc t) (Z : List Value)
    (hz : (P.info? t).map (·.zero) = some (some (.agg Z.toArray)))
    (h : ∀ g w', Hid (w.heap.size = g) → Hid (Blk w' g t Z) → Hid (Below w.heap.size w w') → Hid (w'.heap.size = g + 1) → wpList P ops Q rest (a.put o.dst (.pointer (some ⟨g, 0, none⟩))) w') : wpList P ops Q (o :: rest) a w :=
  wpList_alloc_big hgd t ho Z hz (h w.heap.size _ rfl (Blk.new w t Z) ((Below.refl _ _).alloc (Nat.le_refl _) _) (by show (World.alloc _ _).heap.size = _; rw [World.size_alloc]))
/-- A row of many cells is stored whole. -/
theorem wpList_store_abs {ops : Array Oper} {rest : List Oper} {o : Oper} {a : Act} {w : World} {Q : Exit → Act → World → Prop} (hgd : o.guard = none) (ty : TypeId) (x y : Operand) (ho : o.op = .store ty x y) (hd : o.dst = none)
    (g : Nat) (l : List Value) (hx : a.eval x = .pointer (some ⟨g, 0, none⟩)) (hy : a.eval y = .agg l.toArray)
    (t : TypeId) (old : List Value) (hg : Blk w g t old) (n : Nat) (hi : (P.info? ty).map (·.size) = some n) (hn : l.length = n)
    (hold : old.length = n) (h1 : ∀ v ∈ l, v.oneCell' = true)
    (h : ∀ w', Hid (Blk w' g t l) → Hid (But (· = g) w w') → Hid (w'.heap.size = w.heap.size) → wpList P ops Q rest a w') : wpList P ops Q (o :: rest) a w :=
  wpList_store_big hgd ty x y ho g l hx hy t old hg (hi.trans (by rw [hn])) (hold.trans hn.symm) h1 (by
    rw [hd]
    exact h _ (hg.setRow l) (But.setRow (S := (· = g)) (But.refl _ w) (fun _ => rfl) _) (setRow_size _ _ _))
/-- A row of many cells is read whole. -/
theorem wpList_load_abs {ops : Array Oper} {rest : List Oper} {o : Oper} {a : Act} {w : World} {Q : Exit → Act → World → Prop} (hgd : o.guard = none) (ty : TypeId) (x : Operand) (ho : o.op = .load ty x)
    (b off : Nat) (hx : a.eval x = .pointer (some ⟨b, off, none⟩)) (cs : List Value) (hc : w.rangeAt b off cs) (d : TypeDesc)
    (hu : P.underlying ty = some d) (hd : d.isRow = true) (n : Nat) (hi : (P.info? ty).map (·.size) = some n) (hn : cs.length = n)
    (h : wpList P ops Q rest (a.put o.dst (.agg cs.toArray)) w) : wpList P ops Q (o :: rest) a w :=
  wpList_load_mid hgd ty x ho b off hx cs d hc hu hd (hi.trans (by rw [hn])) h
/-- One cell of a row is stored. -/
theorem wpList_store_cell {ops : Array Oper} {rest : List Oper} {o : Oper} {a : Act} {w : World} {Q : Exit → Act → World → Prop} (hgd : o.guard = none) (ty : TypeId) (x y : Operand) (ho : o.op = .store ty x y) (hd : o.dst = none)
    (g j : Nat) (v : Value) (hx : a.eval x = .pointer (some ⟨g, j, none⟩)) (hy : a.eval y = v) (h1 : v.oneCell' = true)
    (t : TypeId) (l : List Value) (hg : Blk w g t l) (hj : j < l.length) (hi : (P.info? ty).map (·.size) = some 1)
    (h : ∀ w', Hid (Blk w' g t (l.set j v)) → Hid (But (· = g) w w') → Hid (w'.heap.size = w.heap.size) → wpList P ops Q rest a w') : wpList P ops Q (o :: rest) a w := by
  have hc : v.cells = #[v] := by cases v <;> first | rfl | cases h1
  have hcell : w.cell? ⟨g, j, none⟩ = some l[j] := by rw [hg.cell]; exact List.getElem?_eq_getElem hj
  have hfro := hg.froz j
  have hst : (storeVar ty ⟨g, j, none⟩ v).run P w = .ok () (w.setCell ⟨g, j, none⟩ v) := by
    have h0 := run_storeCells_cells (P := P) g j [v] 0 w (fun i hi => by
      have : i = 0 := by simpa using hi
      subst this
      simp [hcell]) (fun i hi => by
      have : i = 0 := by simpa using hi
      subst this
      simp [hfro]) (fun u hu => by simp only [List.mem_singleton] at hu; subst hu; exact h1)
    cases hq : P.info? ty with
    | none => rw [hq] at hi; cases hi
    | some i =>
      have hs : i.size = 1 := by rw [hq] at hi; simpa using hi
      simp only [Nat.add_zero] at h0
      simp [storeVar, sizeOf, typeInfo, hq, hc, hs, h0, World.setCells]
  refine wpList_plain hgd fun _ hK => ?_
  unfold Oper.wp execOp
  simp only [ho, hx, hy, Instr.storeAt, Instr.sureAddr, Sem.run_bind, Sem.run_pure, Result.andThen_ok, hst]
  refine hK _ _ ?_
  rw [hd]
  refine h _ (hg.set j v) (But.setCell (S := (· = g)) (But.refl _ w) (p := ⟨g, j, none⟩) (fun _ => rfl) v) ?_
  show (World.setCell _ _ _).heap.size = _
  rw [World.size_setCell]
/-- A literal: its cells said. -/
theorem wpList_build_abs {ops : Array Oper} {rest : List Oper} {o : Oper} {a : Act} {w : World} {Q : Exit → Act → World → Prop} (hg : o.guard = none) (t : TypeId) (parts : Array (Nat × Operand)) (ho : o.op = .build t parts)
    (vs : List (Nat × Value)) (hv : (parts.map fun (i, x) => (i, a.eval x)).toList = vs) (l : List Value) (hf : P.built t vs = some l.toArray)
    (h : wpList P ops Q rest (a.put o.dst (.agg l.toArray)) w) : wpList P ops Q (o :: rest) a w :=
  Go.wpList_buildTo hg t parts ho o.dst rfl l.toArray (by rw [hv]; exact hf) h
/-- A slice of one element of many cells. -/
theorem wpList_buildSlice_abs {ops : Array Oper} {rest : List Oper} {o : Oper} {a : Act} {w : World} {Q : Exit → Act → World → Prop} (hgd : o.guard = none) (t e : TypeId) (x : Operand) (ho : o.op = .buildSlice t 1 #[(0, x)])
    (l : List Value) (hx : a.eval x = .agg l.toArray) (n : Nat) (hn : l.length = n) (h0 : 0 < n) (hsm : n ≤ 2 ^ 24) (z : Value)
    (hu : P.underlying t = some (.slice e)) (hi : (P.info? e).map (fun i => (i.zero, i.size)) = some (some z, n))
    (h : ∀ g w', Hid (w.heap.size = g) → Hid (Blk w' g e l) → Hid (Below w.heap.size w w') → Hid (w'.heap.size = g + 1) → wpList P ops Q rest (a.put o.dst (.slice (some ⟨g, 0, none⟩) 1 1)) w') : wpList P ops Q (o :: rest) a w := by
  cases hq : P.info? e with
  | none => rw [hq] at hi; cases hi
  | some ie =>
    rw [hq] at hi
    simp only [Option.map_some, Option.some.injEq, Prod.mk.injEq] at hi
    obtain ⟨hz, hs⟩ := hi
    refine Go.wpList_buildSlice hgd t e 1 #[(0, x)] ho l.toArray ie z hu hq hz (by rw [hs]; omega) (by rw [hs]; omega) ?_ (h w.heap.size _ rfl (Blk.new w e l) ((Below.refl _ _).alloc (Nat.le_refl _) _) (by show (World.alloc _ _).heap.size = _; rw [World.size_alloc]))
    rw [hs]
    have e0 : (#[(0, x)].map fun ((i, x) : Nat × Operand) => (i, a.eval x)).toList = [(0, a.eval x)] := by simp
    rw [e0, hx]
    have hl : (Value.agg l.toArray).cells.size = n := by simpa [Value.cells] using hn
    have := Great.fill_whole (s := n) h0 [Value.agg l.toArray] ((Array.range (1 * n)).map (z.cells[· % z.cells.size]!)) (fun v hv => by simp only [List.mem_singleton] at hv; rw [hv]; exact hl) (by simp)
    simpa [Value.cells] using this
end
theorem places47 : (Try.prog.info? 47).isSome = true := by kernel_rfl
/-- A factor's literal. -/
theorem built47 (vs : List (Nat × Value)) : Try.prog.built 47 vs = Instr.fill (#[(0, 256), (256, 1), (257, 1), (258, 1), (259, 1)][·]?) (facL none_ (.slice none 0 0) false 0 0).toArray vs := by kernel_rfl
theorem fill_nil (pl : Nat → Option (Nat × Nat)) (C : Array Value) : Instr.fill pl C [] = some C := rfl
theorem fill_cell {pl : Nat → Option (Nat × Nat)} {C : List Value} {i off : Nat} {v : Value} {vs : List (Nat × Value)} (hp : pl i = some (off, 1)) (hv : v.cells = #[v]) (ho : off < C.length) : Instr.fill pl C.toArray ((i, v) :: vs) = Instr.fill pl (C.set off v).toArray vs := by
  rw [Instr.fill, hp]
  simp only [hv]
  rw [if_neg (by simp; omega)]
  simp
theorem fill_front {pl : Nat → Option (Nat × Nat)} {A B D : List Value} {i n : Nat} {vs : List (Nat × Value)} (hp : pl i = some (0, n)) (ha : A.length = n) (hb : B.length = n) : Instr.fill pl (B ++ D).toArray ((i, .agg A.toArray) :: vs) = Instr.fill pl (A ++ D).toArray vs := by
  rw [Instr.fill, hp]
  have hv : (Value.agg A.toArray).cells = A.toArray := rfl
  simp only [hv]
  rw [if_neg (by simp; omega)]
  congr 1
  have h := splice A 0 (B ++ D).toArray (by simp; omega)
  have e : ((A ++ D).toArray).toList = A ++ D := rfl
  apply Array.toList_inj.1
  rw [e]
  simp only [Nat.zero_add] at h ⊢
  rw [show (A.toArray.zipIdx) = (A.zipIdx 0).toArray by simp, List.foldl_toArray']
  · rw [h]
    simp [hb, ha]
  · simp
theorem built_zero : Try.prog.built 47 [] = some (facL none_ (.slice none 0 0) false 0 0).toArray := by rw [built47, fill_nil]
theorem built_lit (c : Int) : Try.prog.built 47 [(2, .bool true), (3, .int .u8 c)] = some (clsC none_ ++ [Value.slice none 0 0, Value.bool true, Value.int .u8 c, Value.int .u8 0]).toArray := by
  rw [built47, fill_cell (off := 257) rfl rfl (by rw [facL_len]; omega), fill_cell (off := 258) rfl rfl (by rw [List.length_set, facL_len]; omega), fill_nil]
  unfold facL
  rw [List.set_append, if_neg (by rw [clsC_len]; omega), clsC_len, List.set_append, if_neg (by rw [clsC_len]; omega), clsC_len]
  rfl
theorem built_cls (f : UInt8 → Bool) : Try.prog.built 47 [(0, .agg (clsC f).toArray)] = some (facL f (.slice none 0 0) false 0 0).toArray := by
  rw [built47]
  unfold facL
  rw [fill_front rfl (clsC_len f) (clsC_len none_), fill_nil]
theorem built_sub (v : Value) (hv : v.cells = #[v]) : Try.prog.built 47 [(1, v)] = some (facL none_ v false 0 0).toArray := by
  rw [built47, fill_cell (off := 256) rfl hv (by rw [facL_len]; omega), fill_nil]
  unfold facL
  rw [List.set_append, if_neg (by rw [clsC_len]; omega), clsC_len]
  rfl
end Go.Proofs.Ytilfggnhaehbcaa.Rx
