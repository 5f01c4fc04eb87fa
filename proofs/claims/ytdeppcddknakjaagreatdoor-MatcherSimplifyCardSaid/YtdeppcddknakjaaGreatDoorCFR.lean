
/- Layer 7: what the frames of this seat's laws share: what the rows list, a start that fits, lists of matchers and of labels among the arguments. -/
import Derived.Test.YtdeppcddknakjaaGreatDoorRows
import Derived.Test.YtdeppcddknakjaaGreatDoorCY
import Derived.Deep.SlicePairs
import Derived.Deep.Strs
import Derived.WalkKit
import Derived.ProofKit
import Derived.OpenShut
import Derived.ShutString
import Derived.LaidMore
import Derived.Lay
import Derived.Stop.Joined
import Derived.HandedShaped
import Derived.Lib.SmallJoins
import Derived.Lib.LaidTab
import Derived.ChangeOld
set_option maxRecDepth 100000
set_option linter.unusedVariables false
set_option linter.unusedSimpArgs false
namespace Go.Proofs.YtdeppcddknakjaaGreatDoor.Fr
open Go.ChangeShapes Go.WideShapes Go.ChangeAt Go.RowKit Go.Deep Mx
open Go.Proofs.YtdeppcddknakjaaGreatDoor.Lab (Lb LS)
theorem own : ownKnob Tryz.prog.godebug = none := by kernel_rfl
theorem laidOut : laidOutB Tryz.prog = true := by kernel_rfl
theorem cells3 : Tryz.prog.cellsOf 3 = 1 := by kernel_rfl
theorem cells9 : Tryz.prog.cellsOf 9 = 1 := by kernel_rfl
theorem cells25 : Tryz.prog.cellsOf 25 = 3 := by kernel_rfl
theorem cells79 : Tryz.prog.cellsOf 79 = 4 := by kernel_rfl
/-- What the rows list. -/
def laid3 : List (String × DataW Unit) := [("unicode/utf8.acceptRanges", Rows.laid_unicode_utf8_acceptRanges), ("lookout/matcher.operators", Rows.laid_lookout_matcher_operators), ("unicode/utf8.first", Rows.laid_unicode_utf8_first)]
theorem g0 : Tryz.prog.globalNamed "lookout/matcher.operators" = some 0 := by kernel_rfl
theorem t0 : (Tryz.prog.globals[0]?).map (·.type) = some 79 := by kernel_rfl
/-- An array of strings that is listed. -/
theorem cells_of_strs {H : Type} {enc : TypeId × Value → H} {P : Program} {w : World} {base : Nat} {sp : Nat → Bool} {held : Bool} {fuel : Nat} {t e : TypeId} {n : Nat} {cs : List Value} {zs : List (List UInt8)} {p : List MemPlace}
  (ht : P.underlying t = some (.array n e)) (he : P.underlying e = some .string) (hce : P.cellsOf e = 1) (hct : P.cellsOf t = n)
  (h : DataW.trod enc P w base sp held fuel t cs = some (.agg (zs.map fun z => .lit (.string z)), p)) : cs = zs.map fun z => Value.string ⟨z.toArray⟩ := by
 cases fuel with
 | zero => simp [DataW.trod] at h
 | succ fuel =>
  simp only [DataW.trod, ht, hce, hct, Nat.mul_one] at h
  split at h
  ·rename_i hl
   obtain ⟨xs, hm, hx⟩ := Option.map_eq_some_iff.1 h
   have hxs : xs.map (·.1) = zs.map fun z => (DataW.lit (.string z) : DataW H) := by
    have := congrArg Prod.fst hx
    simpa using this
   have hxl : xs.length = n := by simpa using Lib.mapM_length hm
   have hzl : zs.length = n := by
    have := congrArg List.length hxs
    simp at this
    omega
   apply List.ext_getElem?
   intro i
   by_cases hi : i < n
   ·obtain ⟨b, hb, hf⟩ := Lib.mapM_at hm i i (by simp [hi])
    obtain ⟨s, hc, hbs, _⟩ := DataW.trod_string he hf
    have h1 : cs[i]? = some (.string s) := by
     have := congrArg (·[0]?) hc
     simpa [List.getElem?_take, List.getElem?_drop] using this
    have h2 : (xs.map (·.1))[i]? = some (DataW.lit (.string s.data.toList) : DataW H) := by
     rw [List.getElem?_map, hb]
     simp [hbs]
    rw [hxs] at h2
    simp only [List.getElem?_map, Option.map_eq_some_iff, DataW.lit.injEq, Lit.string.injEq] at h2
    obtain ⟨z', hz', e2⟩ := h2
    rw [h1, List.getElem?_map, hz', e2]
    simp [Lib.mk_data]
   ·rw [List.getElem?_eq_none (by omega), List.getElem?_eq_none (by simp; omega)]
  ·cases h
theorem ops3 {W : World} (h : laidMetH Tryz.prog laid3 W) : OpsW W := by
 rw [MakeChecks.laidMetH_plain _ _ _ (by kernel_rfl)] at h
 obtain ⟨ps, hv, _, _⟩ := h
 obtain ⟨_, _, _, _, _, _, _, _, _, _, hr1, hr2⟩ := hv
 obtain ⟨g', t', cs, fuel, p, q, hg', ht', hvar, hd, _, _⟩ := (by first | exact hr1 | exact hr2 : DataW.LaidVars Tryz.prog W [("lookout/matcher.operators", Rows.laid_lookout_matcher_operators), ("unicode/utf8.first", Rows.laid_unicode_utf8_first)] _)
 obtain rfl := Option.some.inj (g0.symm.trans hg')
 obtain rfl := Option.some.inj (t0.symm.trans ht')
 have hcs := cells_of_strs (zs := [[61], [33, 61], [61, 126], [33, 126]]) Tryz.underlying79 Tryz.underlying9 cells9 cells79 hd
 have hca : cs = #[.string ⟨#[61]⟩, .string ⟨#[33, 61]⟩, .string ⟨#[61, 126]⟩, .string ⟨#[33, 126]⟩] := Array.toList_inj.1 (hcs.trans rfl)
 subst hca
 refine ⟨?_, ?_, ?_, ?_⟩
 ·have := World.var?_cell g0 hvar 0
  simpa using this
 ·have := World.var?_cell g0 hvar 1
  simpa using this
 ·have := World.var?_cell g0 hvar 2
  simpa using this
 ·have := World.var?_cell g0 hvar 3
  simpa using this
/-- The wrap that hands over what the row lists. -/
theorem handed {H : Type} {enc : TypeId × Value → H} {a : Assume} {C : Checked} {os : Os} {f : FuncId} {fn : Func} {s : ChangeSpec} {conds : List PathCond} {apart fresh handsOn again : Bool} {X : World → Array Value → Prop}
  (hX : ∀ (w w' : World) (args : Array Value), w.heap = w'.heap → X w args → X w' args)
  (own : ownKnob C.prog.godebug = none) (started : os.Started) (noInit : C.prog.inits.idxOf? f = none) (hfn : C.prog.funcs[f]? = some fn)
  (witness : ∃ (w : World) (tape : Tape) (i : Input), w.os = os ∧ (w.forCall tape i).Shaped C.prog ∧ i.vars = [] ∧ Input.okWide C.prog (w.forCall tape i) .any w.heap.size f i ∧
   ((s.pre enc C.prog fn conds apart (w.forCall tape i).memory i.args ∧ X (w.forCall tape i).memory i.args) ∧ sizedMet enc C.prog fn (OpenSpec.ofChange s) apart (w.forCall tape i).memory i.args) ∧ a.holds C.prog (lone (Frame.enter C.prog f i.args .normal) [] (w.forCall tape i)))
  (contract : ∀ (W : World) (base : Nat) (args : Array Value) (ds gs : List (DataW H)) (before : List MemPlace),
   (∀ (j : Nat) t v, fn.params[j]? = some t → args[j]? = some v → Value.okWide C.prog W .any base t v) →
   DataW.Whole enc C.prog fn.params.toList s.vars apart W args.toList ds gs before → X W args → W.ShapedOpen C.prog →
   Calls C.prog f args W fun e W' => ∃ v, e = .returned v ∧ s.post enc C.prog fn apart fresh handsOn again W args v W') :
  ReturnsInHanded a C os f .any (fun w args => (s.pre enc C.prog fn conds apart w args ∧ X w args) ∧ sizedMet enc C.prog fn (OpenSpec.ofChange s) apart w args) (s.post enc C.prog fn apart fresh handsOn again) := by
 refine returnsInHanded_of_calls own started noInit witness ?_
 intro w tape i _ hsh _ hok hpre hholds
 obtain ⟨_, _, _, fn', hfn', _, _, _, _, hval⟩ := hok
 have e : fn' = fn := Option.some.inj (hfn'.symm.trans hfn)
 subst e
 obtain ⟨⟨⟨ds, gs, before, hw, hc⟩, hx⟩, hz⟩ := hpre
 have hw' := DataW.Whole.of_heap (w' := w.forCall tape i) (by rfl) hw
 refine (contract (w.forCall tape i) w.heap.size i.args ds gs before hval hw' (hX _ _ _ (by rfl) hx) hsh).mono fun e W' ⟨v, he, hp⟩ => ?_
 subst he
 exact ChangeSpec.post_blind hp
section
variable {H : Type} {enc : TypeId × Value → H} {W : World}
/-- A list of matchers among the arguments. -/
theorem open_mts {base : Nat} {v : Value} {d : DataW H} {ps : List MemPlace} (hv : Value.okWide Tryz.prog W .any base 22 v) (h : DataW.Trod enc Tryz.prog W 0 (fun _ => true) true 22 v d ps) :
  ∃ A c l, v = .slice A l.length c ∧ Sz' l ∧ MS W W.heap.size A l := by
 obtain ⟨a0, len0, cap0, rfl⟩ := okWide_slice Tryz.underlying22 hv
 obtain ⟨fuel, hf⟩ := h
 rcases open_slice Tryz.underlying22 hf with ⟨hc, _⟩ | ⟨a, len, cap, m, n, D, Pl, hc, _, hl, hm, hmm, _, hall⟩
 ·simp [Value.cells] at hc
  obtain ⟨rfl, rfl, rfl⟩ := hc
  exact ⟨none, 0, [], rfl, ⟨by unfold maxLen; simp, fun m hm => by cases hm⟩, MS.nil _ _ _⟩
 ·simp [Value.cells] at hc
  obtain ⟨rfl, rfl, rfl⟩ := hc
  simp only [if_true] at hmm
  subst hmm
  have key : ∀ i, i < m → ∃ x : Mt, W.cell? (a.add (i * 3)) = some (.int .i64 x.k) ∧ W.cell? (a.add (i * 3 + 1)) = some (.string x.n) ∧ W.cell? (a.add (i * 3 + 2)) = some (.string x.v) ∧ x.n.size ≤ maxLen ∧ x.v.size ≤ maxLen := fun i hi => by
   obtain ⟨cs', h1, h2⟩ := hall i hi
   rw [cells25] at h1
   obtain ⟨_, hlen, hcell⟩ := World.cells?_some h1
   obtain ⟨y0, y1, y2, k, _, _, g0, g1, g2⟩ := trod_struct3 Tryz.underlying25 h2
   match cs', hlen with
   | [v0, v1, v2], _ =>
    have e0 := hcell 0 (by omega)
    have e1 := hcell 1 (by omega)
    have e2 := hcell 2 (by omega)
    rw [add_add] at e0 e1 e2
    obtain ⟨z, ez, _, _⟩ := DataW.trod_int Tryz.underlying3 (by simpa [cells3] using g0)
    obtain ⟨s1, es1, _, z1⟩ := DataW.trod_string Tryz.underlying9 (by simpa [cells9] using g1)
    obtain ⟨s2, es2, _, z2⟩ := DataW.trod_string Tryz.underlying9 (by simpa [cells9] using g2)
    simp only [List.cons.injEq, and_true] at ez es1 es2
    subst ez es1 es2
    exact ⟨⟨z, s1, s2⟩, by simpa using e0, by simpa using e1, by simpa using e2, z1, z2⟩
  obtain ⟨q, hq⟩ := choose_lt key
  refine ⟨some a, m, (List.range len0).map q, by simp, ⟨by simp; omega, ?_⟩, ?_⟩
  ·intro y hy
   obtain ⟨i, hi, rfl⟩ := List.mem_map.1 hy
   have := hq i (by have := List.mem_range.1 hi; omega)
   exact ⟨this.2.2.2.1, this.2.2.2.2⟩
  ·intro hne
   have h0 : 0 < len0 := by
    rcases Nat.eq_zero_or_pos len0 with h | h
    ·subst h; exact absurd rfl hne
    ·exact h
   obtain ⟨sb, so, spot⟩ := a
   have c0 := (hq 0 (by omega)).1
   have hspot : spot = none := by simpa [Addr.add] using World.cell?_spot c0
   subst hspot
   refine ⟨sb, so, rfl, ?_, ?_⟩
   ·have := World.block_lt_of_cell? _ _ c0
    simpa [Addr.add] using this
   ·intro j hj
    have hj' : j < len0 := by simpa using hj
    obtain ⟨k0, k1, k2, _⟩ := hq j (by omega)
    rw [add_plain] at k0 k1 k2
    simpa [Nat.add_assoc] using And.intro k0 (And.intro k1 k2)
end
end Go.Proofs.YtdeppcddknakjaaGreatDoor.Fr
