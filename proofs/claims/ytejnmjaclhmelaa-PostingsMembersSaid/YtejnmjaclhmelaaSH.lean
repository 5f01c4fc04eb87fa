/- Layer 8: the program's clone of a list, and lists of lists that are halved. -/
import Derived.Test.YtejnmjaclhmelaaSG
import Derived.Deep.RegionHeld3
import Derived.RegionTactic
set_option linter.unusedVariables false
set_option linter.unusedSimpArgs false
namespace Go.Proofs.Ytejnmjaclhmelaa.Po
open Go.RowKit
set_option maxHeartbeats 2000000 in
set_option maxRecDepth 100000 in
theorem cloneI_any (l : List Int) (hl : l.length ≤ 1000000) (sv : Value) (w : World) (hI : Ints w.heap.size w sv l) :
    Calls Try.prog 56 #[sv] w (IntsOut w l) := by
  obtain ⟨i0, hi, hz0, hz1, hz2⟩ := info_parts infoI
  obtain ⟨a, cap, rfl, hr⟩ := hI
  have q22 : ∀ (w : World) (a : Option Addr) (n c n' c' : Nat), (binOp .eql 22 (.slice a n c) (.slice none n' c')).run Try.prog w = .ok (.bool a.isNone) w := fun w a n c n' c' => Lib.run_eql_slice_nil w _ _ a n c n' c' Try.underlying22
  cases a with
  | none =>
    have h0 := hr.nil rfl
    have hl0 : l = [] := List.length_eq_zero_iff.1 (by have := hr.le; omega)
    subst hl0 h0
    have hq := fun w => q22 w none 0 0 0 0
    clear q22 hr
    go_enter Try.func56, Try.ntmps56
    go_wp2
    go_ret
    exact ⟨_, rfl, Ints.nil_ _ _, Below.refl _ _⟩
  | some ad =>
    have B1 : Hid (Below w.heap.size w (w.alloc (.cells #[] 3))) := (Below.refl _ _).alloc (Nat.le_refl _) _
    have O1 : Hid ((w.alloc (.cells #[] 3)).ownsRow w.heap.size 3 1 (.slice (some ⟨w.heap.size, 0, none⟩) 0 0) 0 []) := World.ownsRow_made w #[] 0 (Nat.le_refl _) (by unfold maxLen; omega) (by simp)
    have R1 := Lib.hid (hr.reads.alloc (Nat.le_refl _) (.cells #[] 3))
    have hq := fun w => q22 w (some ad) l.length cap 0 0
    have H1 := Lib.hid (ic_one l)
    clear q22 hr
    go_enter Try.func56, Try.ntmps56
    go_wp2_with (at_builtin; refine wpList_append_any _ rfl (.tmp 5) (.tmp 6) 22 rfl w.heap.size 3 i0 _ 1 8 Try.underlying22 hi hz0 hz1 hz2 rfl (by decide) (.slice (some ⟨w.heap.size, 0, none⟩) 0 0) 0 [] rfl O1.out w.heap.size (some ad) l.length cap (ic l) rfl R1.out H1.out (by simp only [maxLen]; omega) (by omega) (by simp) ?_; intro v5 w5 ho hg _; have HO := Lib.hid ho; have HG := Lib.hid hg; clear ho hg)
    go_ret
    refine ⟨_, rfl, Ints.of_own (B := w.heap.size) ?_ (Nat.le_refl _), B1.out.grown HG.out (by simp) (fun g e => (World.ownsRow.lt O1.out g e).1)⟩
    have := HO.out
    simpa using this
/-- A list of lists with room for all of them. -/
def IntsM (B : Nat) (w : World) (v : Value) (ls : List (List Int)) : Prop := (∃ a cap, v = .slice a ls.length cap ∧ ls.length ≤ cap) ∧ IntsL B w v ls
theorem IntsM.below {B : Nat} {w w' : World} {v : Value} {ls : List (List Int)} (h : IntsM B w v ls) (hb : Below B w w') : IntsM B w' v ls := ⟨h.1, h.2.below hb⟩
theorem IntsM.mono {B C : Nat} {w : World} {v : Value} {ls : List (List Int)} (h : IntsM B w v ls) (hn : B ≤ C) : IntsM C w v ls := ⟨h.1, h.2.mono hn⟩
theorem IntsM.onto {w v : World} {sv : Value} {ls : List (List Int)} (h : IntsM w.heap.size w sv ls) (hb : Below w.heap.size w v) : IntsM v.heap.size v sv ls := (h.below hb).mono hb.size
theorem IntsM.halves {B : Nat} {w : World} {v : Value} {ls : List (List Int)} (h : IntsM B w v ls) {k : Nat} (hk : k < ls.length) : ∃ b off cap, v = .slice (some ⟨b, off, none⟩) ls.length cap ∧ ls.length ≤ cap ∧
    IntsM B w (.slice (some ⟨b, off, none⟩) k cap) (ls.take k) ∧ IntsM B w (.slice (some ⟨b, off + k, none⟩) (ls.length - k) (cap - k)) (ls.drop k) := by
  obtain ⟨⟨a0, cap0, e0, hle⟩, a, cap, e, V, h1, h2⟩ := h
  obtain ⟨b, off, rfl, hb, hc⟩ := h1 (by omega)
  rw [e] at e0
  injection e0 with _ _ e1
  subst e1
  have ht : (ls.take k).length = k := by rw [List.length_take]; omega
  have hd : (ls.drop k).length = ls.length - k := List.length_drop ..
  refine ⟨b, off, cap, e, hle, ⟨⟨_, _, by rw [ht], by omega⟩, some ⟨b, off, none⟩, cap, by rw [ht], V, fun _ => ⟨b, off, rfl, hb, fun j hj => hc j (by omega)⟩, fun j hj => ?_⟩, ⟨⟨_, _, by rw [hd], by omega⟩, some ⟨b, off + k, none⟩, cap - k, by rw [hd], fun j => V (k + j), fun _ => ⟨b, off + k, rfl, hb, fun j hj => ?_⟩, fun j hj => ?_⟩⟩
  · have := h2 j (by omega)
    rwa [List.getElem?_take_of_lt (by omega)]
  · have := hc (k + j) (by omega)
    rwa [← Nat.add_assoc] at this
  · have := h2 (k + j) (by omega)
    rwa [List.getElem?_drop]
theorem tot_take (ls : List (List Int)) (k : Nat) : tot (ls.take k) ≤ tot ls := by
  have h := congrArg tot (List.take_append_drop k ls)
  unfold tot at h ⊢
  rw [List.map_append, List.sum_append] at h
  omega
theorem tot_drop (ls : List (List Int)) (k : Nat) : tot (ls.drop k) ≤ tot ls := by
  have h := congrArg tot (List.take_append_drop k ls)
  unfold tot at h ⊢
  rw [List.map_append, List.sum_append] at h
  omega
theorem mrgL_len (ls : List (List Int)) : (mrgL ls).length ≤ tot ls := by
  have := mrg_len ls []
  unfold mrgL
  simpa using this
theorem sliceH (b off n k cap : Nat) (h : k ≤ cap) (v : World) : (Instr.slice 31 (.slice (some ⟨b, off, none⟩) n cap) none (some (.int .i64 (k : Int))) none).run Try.prog v = .ok (.slice (some ⟨b, off, none⟩) k cap) v := by
  rw [run_slice_h (P := Try.prog) v 31 _ n cap Try.underlying31 .i64 k (by omega) (by omega)]
  have e : ((sizeOf (Try.prog.elem 31)).run Try.prog v) = .ok 1 v := by go_simp
  rw [e]
  by_cases h0 : cap = 0 <;> simp [Result.andThen, sliced, h0, Addr.add]
theorem sliceL (b off n k cap : Nat) (h : k ≤ n) (h2 : k < cap) (v : World) : (Instr.slice 31 (.slice (some ⟨b, off, none⟩) n cap) (some (.int .i64 (k : Int))) none none).run Try.prog v = .ok (.slice (some ⟨b, off + k, none⟩) (n - k) (cap - k)) v := by
  rw [run_slice_l (P := Try.prog) v 31 _ n cap Try.underlying31 .i64 k (by omega) (by omega)]
  have e : ((sizeOf (Try.prog.elem 31)).run Try.prog v) = .ok 1 v := by go_simp
  rw [e]
  have hc : cap ≠ k := by omega
  simp [Result.andThen, sliced, hc, add_lit]
end Go.Proofs.Ytejnmjaclhmelaa.Po
