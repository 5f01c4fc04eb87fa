/- Layer 10: the reference's Encode. -/
import Derived.Lib.QuietBelow
import Derived.Lib.AppendZeros
import Derived.Deep.RegionLaw
import Derived.Deep.Onto
import Derived.Test.YtpinmmmbmhfmiaaDtE
import Derived.Test.YtpinmmmbmhfmiaaDtG
set_option linter.unusedVariables false
set_option linter.unusedSimpArgs false
namespace Go.Proofs.Ytpinmmmbmhfmiaa.Dt
open Go.RowKit Go.Sort Dc
theorem step_append_run {P : Program} {w : World} {ops : Array Oper} {o : Oper} {a : Act} {K : Act → World → Prop} {Q : Exit → Act → World → Prop} {E : Prop} (hgd : o.guard = none) (s x : Operand) (t tn : TypeId)
    (ho : o.op = .call { callee := .builtin .append, args := #[s, x], argTypes := #[t, tn] }) (vs vx : Value) (hs : a.eval s = vs) (hx : a.eval x = vx)
    (v' : Value) (w' : World) (hr : (Builtin.append_ #[t, tn] o.type #[vs, vx]).run P w = .ok v' w') (h : K (a.put o.dst v') w') :
    if Region.wanted o (yielded ops a.tmps) = true then Oper.wp P o a w K Q else E := by
  have hw : Region.wanted o (yielded ops a.tmps) = true := by simp [Region.wanted, hgd]
  rw [if_pos hw]
  exact Lib.wp_append_run w s x t tn ho vs vx hs hx v' w' hr h
theorem wpList_convert_run {P : Program} (w : World) {ops : Array Oper} {rest : List Oper} {o : Oper} {a : Act} {Q : Exit → Act → World → Prop} (hgd : o.guard = none) (x : Operand) (t u : TypeId)
    (ho : o.op = .convert t u x) (vx : Value) (hx : a.eval x = vx) {v' : Value} {w' : World} (hr : (convert t u vx).run P w = .ok v' w') (h : wpList P ops Q rest (a.put o.dst v') w') : wpList P ops Q (o :: rest) a w :=
  wpList_plain hgd fun K hK => by
    unfold Oper.wp execOp
    simp only [ho, hx, hr, Sem.run_bind, Sem.run_pure, Result.andThen_ok]
    exact hK _ _ h
/-- What []byte(s) lays. -/
theorem conv_new (w : World) (u : List UInt8) (hu : u.length ≤ 1000000) : OwnG w.heap.size (Lib.bytesWorld w 5 ⟨u.toArray⟩) (.slice (some ⟨w.heap.size, 0, none⟩) u.length (grownCap w u.length 0 5)) u ∧ Below w.heap.size w (Lib.bytesWorld w 5 ⟨u.toArray⟩) := by
  have hus : (⟨u.toArray⟩ : ByteArray).size = u.length := by show u.toArray.size = _; simp
  have hge := grownCap_ge w u.length 0 5
  have hcm := grownCap_le_maxLen w u.length 0 5 (by unfold maxLen; omega)
  have hcs : (Lib.bytesCells w 5 ⟨u.toArray⟩).size = grownCap w u.length 0 5 := by
    unfold Lib.bytesCells
    rw [Array.size_append, Array.size_map, Array.size_replicate, hus, List.size_toArray]
    omega
  have hn := Lib.bytesWorld_at_new w 5 ⟨u.toArray⟩
  rw [hcs] at hn
  refine ⟨.inr ⟨w.heap.size, _, _, rfl, Nat.le_refl _, hn, hge, hcm, hcs, ?_⟩, ?_⟩
  · unfold Lib.bytesCells Lib.byteCells
    rw [Array.toList_append, Array.toList_map]
    rw [List.take_left' (by simp)]
  · exact ⟨rfl, rfl, rfl, by rw [Lib.bytesWorld_size]; omega, fun k hk => Lib.bytesWorld_at_old w _ _ k hk⟩
theorem run_conv (w : World) (u : List UInt8) : (convert 9 49 (.string ⟨u.toArray⟩)).run Try.prog w = .ok (.slice (some ⟨w.heap.size, 0, none⟩) u.length (grownCap w u.length 0 5)) (Lib.bytesWorld w 5 ⟨u.toArray⟩) := by
  have hus : (⟨u.toArray⟩ : ByteArray).size = u.length := by show u.toArray.size = _; simp
  have h := Lib.run_convert_string_bytes (P := Try.prog) w 9 49 5 ⟨u.toArray⟩ Try.underlying9 Try.underlying49 Try.underlying5
  rw [hus] at h
  exact h
/-- 'string(b)' of bytes of the call's own. -/
theorem conv_back {B : Nat} {W : World} {v : Value} {l : List UInt8} (h : OwnG B W v l) (h1 : 1 ≤ l.length) :
    ∃ g cap, v = .slice (some ⟨g, 0, none⟩) l.length cap ∧ (convert 49 9 (.slice (some ⟨g, 0, none⟩) l.length cap)).run Try.prog W = .ok (.string ⟨l.toArray⟩) W := by
  rcases h with h | ⟨g, cap, cur, rfl, hb, hg, hnc, hcm, hcs, htake⟩
  · obtain ⟨k, hk⟩ : ∃ k, l.length = k + 1 := ⟨l.length - 1, by omega⟩
    have h' : W.ownsRow B 5 1 v l.length (Lib.byteCells l) := h
    rw [hk] at h'
    obtain ⟨g, cap, rfl⟩ := ownsRow_succ h'
    rw [← hk]
    refine ⟨g, cap, rfl, run_convert_bytes_back W 49 9 5 ⟨g, 0, none⟩ cap l Try.underlying49 Try.underlying5 Try.underlying9 fun j hj => ?_⟩
    rw [h'.cells rfl j (.int .u8 (l[j].toNat : Int)) (by simp [Lib.byteCells, List.getElem?_eq_getElem hj])]
  · refine ⟨g, cap, rfl, run_convert_bytes_back W 49 9 5 ⟨g, 0, none⟩ cap l Try.underlying49 Try.underlying5 Try.underlying9 fun j hj => ?_⟩
    have hx : (Lib.byteCells l)[j]? = some (.int .u8 (l[j].toNat : Int)) := by simp [Lib.byteCells, List.getElem?_eq_getElem hj]
    rw [← htake, List.getElem?_take, if_pos hj] at hx
    rw [add_lit, Nat.zero_add]
    simpa [World.cell?, hg] using hx
theorem OwnS.more {B C : Nat} {w : World} {v : Value} {l : List BA} (h : OwnS B w v l) (hb : C ≤ B) : OwnS C w v l := World.ownsRow.mono h hb
theorem OwnG.more {B C : Nat} {w : World} {v : Value} {l : List UInt8} (h : OwnG B w v l) (hb : C ≤ B) : OwnG C w v l := by
  rcases h with h | ⟨g, cap, cur, e, h1, h2⟩
  · exact .inl (World.ownsRow.mono h hb)
  · exact .inr ⟨g, cap, cur, e, Nat.le_trans hb h1, h2⟩
/-- The string ahead of d[i], or none. -/
def prevB (d : List BA) (i : Nat) : List UInt8 := if i = 0 then [] else (d[i - 1]?.getD ⟨#[]⟩).data.toList
theorem dicB_snoc : ∀ (d : List BA) (a : List UInt8) (x : BA), dicB a (d ++ [x]) = dicB a d ++ entB (if d = [] then a else (d.getLast?.getD ⟨#[]⟩).data.toList) x
  | [], a, x => by simp [dicB]
  | y :: d, a, x => by
    rw [List.cons_append, dicB, dicB_snoc d y.data.toList x, dicB]
    rw [if_neg (List.cons_ne_nil _ _)]
    cases d with
    | nil => simp
    | cons z d => simp [List.getLast?_cons]
theorem dicB_step {d : List BA} {i : Nat} {x : BA} (h : i < d.length) (hx : d[i] = x) : dicB [] (d.take (i + 1)) = dicB [] (d.take i) ++ entB (prevB d i) x := by
  rw [List.take_succ_eq_append_getElem h, hx, dicB_snoc]
  congr 2
  unfold prevB
  by_cases h0 : i = 0
  · subst h0; simp
  · have hne : d.take i ≠ [] := fun e => by
      have := congrArg List.length e
      rw [List.length_take, List.length_nil] at this
      omega
    rw [if_neg hne, if_neg h0]
    congr 1
    rw [List.getLast?_eq_getElem?, List.length_take, List.getElem?_take_of_lt (by omega), show min i d.length - 1 = i - 1 by omega]
theorem entB_len (a : List UInt8) (x : BA) (h : x.size ≤ 1000) : (entB a x).length ≤ 1018 := by
  have hc := comN_le a x.data.toList
  have hxl : x.data.toList.length = x.size := Array.length_toList
  have h1 := uv_len9 (m := comN a x.data.toList) (by omega)
  have h2 := uv_len9 (m := x.size - comN a x.data.toList) (by omega)
  unfold entB uv
  rw [List.length_append, List.length_append, List.length_drop]
  omega
end Go.Proofs.Ytpinmmmbmhfmiaa.Dt
