/- Layer 10: lists of strings in memory; rows of strings of the call's own. -/
import Derived.Test.YtpinmmmbmhfmiaaDcK
import Derived.Test.YtpinmmmbmhfmiaaDtB
set_option linter.unusedVariables false
set_option linter.unusedSimpArgs false
namespace Go.Proofs.Ytpinmmmbmhfmiaa.Dt
open Go.RowKit Dc
theorem infoS : (Try.prog.info? 9).map (fun i => (i.zero, i.size, i.bytes)) = some (some (.string ⟨#[]⟩), 1, 16) := by kernel_rfl
/-- A list of strings that lies below B, nil let in. -/
def sc (l : List BA) : List Value := l.map Value.string
theorem sc_len (l : List BA) : (sc l).length = l.length := List.length_map ..
theorem sc_one (l : List BA) : ∀ u ∈ sc l, u.oneCell' = true := fun u hu => by
  obtain ⟨z, _, rfl⟩ := List.mem_map.1 hu
  rfl
theorem sc_app (a b : List BA) : sc a ++ sc b = sc (a ++ b) := by unfold sc; rw [List.map_append]
theorem sc_snoc (a : List BA) (x : BA) : sc (a ++ [x]) = sc a ++ [.string x] := by unfold sc; rw [List.map_append]; rfl
theorem sc_at {l : List BA} {j : Nat} (h : j < l.length) : (sc l)[j]? = some (.string (l[j]?.getD ⟨#[]⟩)) := by unfold sc; rw [List.getElem?_map, List.getElem?_eq_getElem h]; rfl
structure StrsR (B : Nat) (w : World) (a : Option Addr) (cap : Nat) (l : List BA) : Prop where
  reads : Reads w B 1 a l.length (sc l)
  le : l.length ≤ cap
  plain : 0 < cap → ∀ ad, a = some ad → ad.spot = none
  nil : a = none → cap = 0
def Strs (B : Nat) (w : World) (v : Value) (l : List BA) : Prop := ∃ a cap, v = .slice a l.length cap ∧ StrsR B w a cap l
theorem StrsR.below {B cap : Nat} {w w' : World} {a : Option Addr} {l : List BA} (h : StrsR B w a cap l) (hb : Below B w w') : StrsR B w' a cap l := ⟨h.reads.below hb, h.le, h.plain, h.nil⟩
theorem StrsR.mono {B C cap : Nat} {w : World} {a : Option Addr} {l : List BA} (h : StrsR B w a cap l) (hn : B ≤ C) : StrsR C w a cap l := ⟨h.reads.more hn, h.le, h.plain, h.nil⟩
theorem Strs.below {B : Nat} {w w' : World} {v : Value} {l : List BA} (h : Strs B w v l) (hb : Below B w w') : Strs B w' v l := by
  obtain ⟨a, cap, e, h⟩ := h
  exact ⟨a, cap, e, h.below hb⟩
theorem Strs.mono {B C : Nat} {w : World} {v : Value} {l : List BA} (h : Strs B w v l) (hn : B ≤ C) : Strs C w v l := by
  obtain ⟨a, cap, e, h⟩ := h
  exact ⟨a, cap, e, h.mono hn⟩
theorem Strs.onto {w v : World} {sv : Value} {l : List BA} (h : Strs w.heap.size w sv l) (hb : Below w.heap.size w v) : Strs v.heap.size v sv l := (h.below hb).mono hb.size
theorem Strs.nil_ (B : Nat) (w : World) : Strs B w (.slice none 0 0) [] :=
  ⟨none, 0, rfl, ⟨by simp [sc], fun hn => absurd hn (by simp)⟩, Nat.le_refl _, fun hn => absurd hn (by simp), fun _ => rfl⟩
/-- Its cells. -/
def StrsAt (B : Nat) (w : World) (sv : Value) (l : List BA) : Prop :=
  ∃ a cap, sv = .slice a l.length cap ∧ (0 < l.length → ∃ b off, a = some ⟨b, off, none⟩ ∧ b < B ∧ ∀ j, j < l.length → w.cell? ⟨b, off + j, none⟩ = some (.string (l[j]?.getD ⟨#[]⟩)))
theorem Strs.at {B : Nat} {w : World} {v : Value} {l : List BA} (h : Strs B w v l) : StrsAt B w v l := by
  obtain ⟨a, cap, e, h⟩ := h
  refine ⟨a, cap, e, fun hp => ?_⟩
  obtain ⟨ad, rfl, hb, hc⟩ := h.reads.2 hp
  have hs := h.plain (Nat.lt_of_lt_of_le hp h.le) ad rfl
  obtain ⟨b, off, spot⟩ := ad
  subst hs
  refine ⟨b, off, rfl, hb, fun j hj => ?_⟩
  have h2 := hc j _ (sc_at hj)
  rw [add_lit] at h2
  exact h2
theorem StrsAt.below {B : Nat} {w w' : World} {v : Value} {l : List BA} (h : StrsAt B w v l) (hb : Below B w w') : StrsAt B w' v l := by
  obtain ⟨a, cap, e, h⟩ := h
  refine ⟨a, cap, e, fun hp => ?_⟩
  obtain ⟨b, off, e2, hlt, hc⟩ := h hp
  exact ⟨b, off, e2, hlt, fun j hj => (hb.cell (p := ⟨b, off + j, none⟩) hlt).trans (hc j hj)⟩
theorem StrsAt.mono {B C : Nat} {w : World} {v : Value} {l : List BA} (h : StrsAt B w v l) (hn : B ≤ C) : StrsAt C w v l := by
  obtain ⟨a, cap, e, h⟩ := h
  refine ⟨a, cap, e, fun hp => ?_⟩
  obtain ⟨b, off, e2, hlt, hc⟩ := h hp
  exact ⟨b, off, e2, by omega, hc⟩
theorem StrsAt.onto {w v : World} {sv : Value} {l : List BA} (h : StrsAt w.heap.size w sv l) (hb : Below w.heap.size w v) : StrsAt v.heap.size v sv l := (h.below hb).mono hb.size
theorem Strs.of_own {B C : Nat} {w : World} {v : Value} {l : List BA} (h : w.ownsRow B 9 1 v l.length (sc l)) (hC : w.heap.size ≤ C) : Strs C w v l := by
  rcases h.2 with ⟨rfl, h0⟩ | ⟨g, cap, cur, rfl, _, _, hnc, _⟩
  · exact ⟨none, 0, by rw [h0], by rw [h0]; exact ⟨by rw [sc_len, h0], fun hn => absurd hn (by omega)⟩, by omega, fun hn => absurd hn (by omega), fun _ => rfl⟩
  · exact ⟨_, cap, rfl, (Reads.of_own h).more hC, hnc, fun _ ad e => by cases e; rfl, fun e => by cases e⟩
/-- A row of strings of the call's own. -/
def OwnS (B : Nat) (w : World) (v : Value) (l : List BA) : Prop := w.ownsRow B 9 1 v l.length (sc l)
theorem OwnS.nil_ (B : Nat) (w : World) : OwnS B w (.slice none 0 0) [] := World.ownsRow_nil _ _ _ _
theorem OwnS.step {B : Nat} {w w' : World} {v : Value} {l : List BA} (h : OwnS B w v l) (hb : Below w.heap.size w w') : OwnS B w' v l := own_belowP h hb
theorem OwnS.strs {B : Nat} {w : World} {v : Value} {l : List BA} (h : OwnS B w v l) : Strs w.heap.size w v l := Strs.of_own h (Nat.le_refl _)
def StrsOut (w : World) (l : List BA) (e : Ending) (w' : World) : Prop := ∃ v, e = .returned v ∧ OwnS w.heap.size w' v l ∧ Below w.heap.size w w'
theorem emp_false {s : BA} (h : 0 < s.size) : s.toList.isEmpty = false := by
  rw [ByteArray.toList_eq]
  cases hl : s.data.toList with
  | nil =>
    have : s.data.toList.length = s.size := Array.length_toList
    rw [hl] at this
    simp at this
    omega
  | cons x l => rfl
theorem emp_true {s : BA} (h : s.size = 0) : s.toList.isEmpty = true := by
  rw [ByteArray.toList_eq]
  cases hl : s.data.toList with
  | nil => rfl
  | cons x l =>
    have : s.data.toList.length = s.size := Array.length_toList
    rw [hl] at this
    simp at this
    omega
theorem at_get {l : List BA} {k : Nat} (h : k < l.length) : l[k]?.getD ⟨#[]⟩ = l[k] := by rw [List.getElem?_eq_getElem h]; rfl
theorem eq_no {a b : BA} (h : a ≠ b) : (a.toList == b.toList) = false := by rw [ba_eq]; exact decide_eq_false h
theorem eq_yes {a b : BA} (h : a = b) : (a.toList == b.toList) = true := by rw [ba_eq]; exact decide_eq_true h
end Go.Proofs.Ytpinmmmbmhfmiaa.Dt
