/- Layer 11: the library's Backward at samples. -/
import Derived.Test.YtobipbedkkmlcaaLc
import Derived.Test.YtobipbedkkmlcaaTaL
set_option maxRecDepth 100000
set_option linter.unusedVariables false
set_option linter.unusedSimpArgs false
namespace Go.Proofs.Ytobipbedkkmlcaa.Sr
open Go.RowKit Go.Shelf
attribute [local go_sem] Oper.semAt_some
/-- An index and a sample of which R holds. -/
abbrev BE (R : S → Prop) := { p : Int × S // R p.2 }
abbrev encB {R : S → Prop} (x : BE R) : Array Value := #[.int .i64 x.1.1, .agg #[.int .i64 x.1.2.1, .int .i64 x.1.2.2]]
def valB {R : S → Prop} (l : List (BE R)) : List S := l.map (·.1.2)
theorem valB_snoc {R : S → Prop} (l : List (BE R)) (x : BE R) : valB (l ++ [x]) = valB l ++ [x.1.2] := by unfold valB; rw [List.map_append]; rfl
theorem valB_length {R : S → Prop} (l : List (BE R)) : (valB l).length = l.length := List.length_map ..
theorem rev_step {l : List S} {m : Nat} (h : m < l.length) : (l.drop m).reverse = (l.drop (m + 1)).reverse ++ [l[m]] := by
  rw [List.drop_eq_getElem_cons h, List.reverse_cons]
set_option maxHeartbeats 1000000 in
theorem bw1_in (R : S → Prop) (n : Nat) (hn : 1 ≤ n) (lc b1 b2 o c : Nat) (a : Option Addr) (l : List S) (hl : l.length ≤ 100000) (hR : ∀ x ∈ l, R x)
    (J Jx : List (BE R) → World → Prop) (W : World)
    (hY : ∀ pre x W, J pre W → pre.length < l.length → YieldAt Fence.wide (n - 1) Try.prog lc (encB x) W fun e W' =>
      (e = .returned (.bool true) ∧ J (pre ++ [x]) W' ∧ KK b1 b2 W W') ∨ (e = .returned (.bool false) ∧ Jx (pre ++ [x]) W'))
    (hL : LiesS b1 b2 o c a l W) (h0 : J [] W) :
    CallsIn Fence.wide n Try.prog 47 #[.func (.yield lc) #[] #[], .pointer (some ⟨b2, 0, none⟩)] W fun e W' => (∃ v, e = .returned v) ∧
      ((∃ ys, valB ys = l.reverse ∧ J ys W') ∨ (∃ pre, True ∧ Jx pre W')) := by
  have HY := Lib.hid hY
  have HL := Lib.hid hL
  have HRR := Lib.hid hR
  have H0 : Hid (J [] W) := h0
  have hbox0 := hL.box
  have hw0 : IntKind.i64.wrap ((l.length : Int) - 1) = (l.length : Int) - 1 := by rw [IntWalk.i64_in _ (by omega)]
  clear hY hL hR h0
  refine callsIn_of_wp Try.func47 rfl trivial ?_ rfl
  simp only [Try.ntmps47, List.size_toArray, List.length_cons, List.length_nil, Nat.reduceAdd, Nat.reduceSub, Array.replicate_succ, Array.replicate_zero, List.push_toArray, List.append_toArray, List.nil_append, List.cons_append]
  gi_wp2
  clear hbox0
  gi_loopw [3] (fun vi wr => ∃ (k : Nat) (pre : List (BE R)), k ≤ l.length ∧ vi = .int .i64 ((k : Int) - 1) ∧ Hid (valB pre = (l.drop k).reverse ∧ pre.length + k = l.length) ∧ Hid (J pre wr) ∧ Hid (KK b1 b2 W wr)) (fun vi _ => (intOf vi + 1).toNat)
  case atStart => exact ⟨l.length, [], Nat.le_refl _, rfl, ⟨by simp [valB], by simp⟩, H0, KK.refl _ _ _⟩
  case round =>
    clear H0
    obtain ⟨k, pre, hk, rfl, HP, HJk, HK⟩ := hrel
    have hbox := (HL.out.kept HK.out).box
    rcases k with _ | m
    · have HF : Hid (valB pre = l.reverse) := HP.out.1
      clear HY
      gi_wp2
      go_end0
      exact ⟨⟨_, rfl⟩, .inl ⟨_, HF.out, HJk.out⟩⟩
    · have hlt : m < l.length := by omega
      obtain rfl := HL.out.at_ (by omega)
      obtain ⟨h1, h2⟩ := (HL.out.kept HK.out).cells m hlt
      have hi : (m : Int) < l.length := by omega
      have hi0 : (0 : Int) ≤ (m : Int) := by omega
      have hw1 : IntKind.i64.wrap ((m : Int) - 1) = (m : Int) - 1 := by rw [IntWalk.i64_in _ (by omega)]
      obtain ⟨X, hX⟩ : ∃ X : BE R, X.1 = ((m : Int), l[m]) := ⟨⟨((m : Int), l[m]), HRR.out _ (List.getElem_mem hlt)⟩, rfl⟩
      have HV : Hid (valB (pre ++ [X]) = (l.drop m).reverse ∧ (pre ++ [X]).length + m = l.length) := by
        refine ⟨?_, ?_⟩
        · rw [valB_snoc, HP.out.1, rev_step hlt, hX]
        · rw [List.length_append]
          have := HP.out.2
          simp only [List.length_cons, List.length_nil]
          omega
      obtain ⟨fn, tmps, assign, body, hy, hR⟩ := HY.out pre X wr HJk.out (by have := HP.out.2; omega)
      dsimp only [encB] at hy
      rw [hX] at hy
      dsimp only at hy
      have HR := Lib.hid hR
      clear hR HJk HP HRR hX
      generalize l[m] = x at *
      gi_wp2
      refine HR.out.mono ?_
      rintro e W5 (⟨rfl, hj, hk5⟩ | ⟨rfl, hjx⟩)
      · have HJ5 := Lib.hid hj
        have HK5 := Lib.hid (HK.out.trans hk5)
        clear hj hk5 HR hy
        gi_wp2
        go_roundw
        case rel => exact ⟨m, _, by omega, rfl, HV, HJ5, HK5⟩
        case measure => simp [intOf]
      · gi_wp2
        refine bodyPost_ret (results_none rfl _ _ _) rfl ?_
        exact ⟨⟨_, rfl⟩, .inr ⟨_, trivial, hjx⟩⟩
theorem bw_in (dp : Nat) (a : Option Addr) (n c : Nat) (w : World) :
    CallsIn Fence.wide dp Try.prog 29 #[.slice a n c] w fun e w' => e = .returned (.func (.func 47) #[] #[.pointer (some ⟨w.heap.size, 0, none⟩)]) ∧ w' = w.alloc (.cells #[.slice a n c] 22) := by
  refine callsIn_of_wp Try.func29 rfl trivial ?_ rfl
  simp only [Try.ntmps29, List.size_toArray, List.length_cons, List.length_nil, Nat.reduceAdd, Nat.reduceSub, Array.replicate_succ, Array.replicate_zero, List.push_toArray, List.append_toArray, List.nil_append, List.cons_append]
  gi_wp2
  go_ret
  exact ⟨rfl, rfl⟩
theorem bw_stops (R : S → Prop) (n : Nat) (hn : 1 ≤ n) (b1 b2 o c : Nat) (a : Option Addr) (l : List S) (hl : l.length ≤ 100000) (hR : ∀ x ∈ l, R x) (w : World) (h1 : b1 < w.heap.size) (h2 : b2 < w.heap.size) (hL : LiesS b1 b2 o c a l w) :
    SeqStopsK Fence.wide n Try.prog 47 #[.pointer (some ⟨b2, 0, none⟩)] encB (KK b1 b2) (fun (ys : List (BE R)) => valB ys = l.reverse) (fun _ => True) l.length w := fun lc J Jx W hW _ _ hY h0 =>
  bw1_in R n hn lc b1 b2 o c a l hl hR J Jx W hY (hL.kept ⟨hW.block b1 h1, hW.block b2 h2⟩) h0
/-- A list and its slice stay as they are, whatever a walk's own records do. -/
theorem lf_own {β : Type} (A : β → Option Addr) (c : β → Nat) (l : β → List S) : Own (fun s W => LF W (A s) (c s) (l s)) := fun s X Y row h hg hr => by
  refine ⟨fun hne => ?_, h.le, h.max, h.af⟩
  obtain ⟨b, off, e, hb, hc⟩ := h.ls hne
  refine ⟨b, off, e, Nat.lt_of_lt_of_le hb hg.size, fun j hj => ⟨cell_kept (hc j hj).1 hg hr, cell_kept (hc j hj).2 hg hr⟩⟩
theorem def_up {W V : World} {D : Nat} {o : Obj} (h : W.heap[D]? = some o) (hb : Below W.heap.size W V) : V.heap[D]? = some o := (hb.block D (Array.getElem?_eq_some_iff.1 h).1).trans h
end Go.Proofs.Ytobipbedkkmlcaa.Sr
