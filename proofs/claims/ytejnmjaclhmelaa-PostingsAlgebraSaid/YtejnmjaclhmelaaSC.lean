/- Layer 8: the iterator over two lists side by side. -/
import Derived.RangeFuncNested
import Derived.RangeFuncBound
import Derived.RangeFuncCalls
import Derived.RangeFuncLeaves
import Derived.RangeFuncBox
import Derived.Maps.AppendAt
import Derived.Maps.OwnIn
import Derived.Shelf.Abstract
import Derived.Shelf.RegionOpen
import Derived.WalkKit
import Derived.OwnWalkIn
import Derived.TacticsInMore
import Derived.LoopNIn
import Derived.LoopIn
import Derived.Test.YtejnmjaclhmelaaSB
set_option linter.unusedVariables false
set_option linter.unusedSimpArgs false
namespace Go.Proofs.Ytejnmjaclhmelaa.Po
open Go.RowKit Go.Shelf

attribute [local go_sem] Oper.semAt_some

/-- A number, and who has it. -/
abbrev NH := Int × Bool × Bool
abbrev encS (x : NH) : Array Value := #[.int .i64 x.1, .agg #[.bool x.2.1, .bool x.2.2]]
def slN : Value → Nat
  | .slice _ n _ => n
  | _ => 0
theorem cut1 {B cap : Nat} {w : World} {a : Option Addr} {l : List Int} (h : IntsR B w a cap l) (hp : 0 < l.length) :
    ∃ A' c', (∀ v : World, (Instr.slice 22 (.slice a l.length cap) (some (.int .i64 1)) none none).run Try.prog v = .ok (.slice A' l.tail.length c') v) ∧ IntsR B w A' c' l.tail := by
  refine ⟨if cap = 1 then a else a.map (·.add 1), cap - 1, fun v => ?_, ?_, ?_, ?_, ?_⟩
  · have := run_slice_l (P := Try.prog) v 22 a l.length cap Try.underlying22 .i64 1 (by omega) (by omega)
    rw [this]
    have e : ((sizeOf (Try.prog.elem 22)).run Try.prog v) = .ok 1 v := by go_simp
    rw [e, List.length_tail]
    rfl
  · have h1 := h.reads.cut (k := 1) (cap := cap) (by omega) h.le
    rw [Nat.one_mul] at h1
    have e : ic l.tail = (ic l).drop 1 := by unfold ic; rw [← List.map_drop, List.drop_one]
    rw [e, List.length_tail]
    exact h1
  · rw [List.length_tail]; have := h.le; omega
  · intro hc ad e
    rw [if_neg (by omega)] at e
    cases a with
    | none => cases e
    | some a0 =>
      cases e
      have := h.plain (by omega) a0 rfl
      obtain ⟨b, o, s⟩ := a0
      dsimp only at this
      subst this
      show ((⟨b, o, none⟩ : Addr).add 1).spot = none
      rw [add_lit]
  · intro e
    have : a = none := by
      split at e
      · exact e
      · cases a with
        | none => rfl
        | some a0 => cases e
    have := h.nil this
    omega
theorem side_step {n : Nat} {a b : List Int} (h : ¬ (a = [] ∧ b = [])) (hl : a.length + b.length ≤ n) : ∃ m, n = m + 1 ∧ sideF n a b = (min (hdI a) (hdI b), decide (hdI a ≤ hdI b), decide (hdI b ≤ hdI a)) :: sideF m (if hdI a ≤ hdI b then a.tail else a) (if hdI b ≤ hdI a then b.tail else b) := by
  obtain ⟨m, rfl⟩ : ∃ m, n = m + 1 := ⟨n - 1, by
    have : 0 < a.length + b.length := by
      cases a with
      | nil => cases b with
        | nil => exact absurd ⟨rfl, rfl⟩ h
        | cons y b => simp
      | cons x a => simp; omega
    omega⟩
  exact ⟨m, rfl, by rw [sideF, if_neg h]⟩
theorem hd_small {l : List Int} (h : Val l) (hp : 0 < l.length) : hdI l ≤ 1152921504606846976 := by
  cases l with
  | nil => simp at hp
  | cons x l => exact h.hd_le
theorem hd_big {l : List Int} (hp : ¬ 0 < l.length) : hdI l = 1152921504606846977 := by
  cases l with
  | nil => rfl
  | cons x l => simp at hp
theorem Val.tl {l : List Int} (h : Val l) : Val l.tail := by
  cases l with
  | nil => exact h
  | cons x l => exact h.tail
/-- What one round does; by who has the number. -/
theorem side_lt {n : Nat} {a b : List Int} {full pre : List NH} (ha : Val a) (hb : Val b) (hl : a.length + b.length ≤ n) (hp : pre ++ sideF n a b = full) (h0 : 0 < a.length ∨ 0 < b.length) (h : hdI a < hdI b) :
    0 < a.length ∧ pre.length < full.length ∧ ∃ m, a.tail.length + b.length ≤ m ∧ (pre ++ [(hdI a, true, false)]) ++ sideF m a.tail b = full := by
  obtain ⟨m, rfl, e⟩ := side_step (n := n) (a := a) (b := b) (fun h => by rcases h with ⟨rfl, rfl⟩; simp at h0) hl
  have ha0 : 0 < a.length := by
    rcases Nat.eq_zero_or_pos a.length with h1 | h1
    · have := hd_big (l := a) (by omega)
      have := hd_small hb (by omega)
      omega
    · exact h1
  rw [e, if_pos (by omega), if_neg (by omega), decide_eq_true (show hdI a ≤ hdI b by omega), decide_eq_false (show ¬ hdI b ≤ hdI a by omega), show min (hdI a) (hdI b) = hdI a by omega] at hp
  refine ⟨ha0, by rw [← hp, List.length_append, List.length_cons]; omega, m, by rw [List.length_tail]; omega, by rw [← hp]; simp⟩
theorem side_gt {n : Nat} {a b : List Int} {full pre : List NH} (ha : Val a) (hb : Val b) (hl : a.length + b.length ≤ n) (hp : pre ++ sideF n a b = full) (h0 : 0 < a.length ∨ 0 < b.length) (h : hdI b < hdI a) :
    0 < b.length ∧ pre.length < full.length ∧ ∃ m, a.length + b.tail.length ≤ m ∧ (pre ++ [(hdI b, false, true)]) ++ sideF m a b.tail = full := by
  obtain ⟨m, rfl, e⟩ := side_step (n := n) (a := a) (b := b) (fun h => by rcases h with ⟨rfl, rfl⟩; simp at h0) hl
  have hb0 : 0 < b.length := by
    rcases Nat.eq_zero_or_pos b.length with h1 | h1
    · have := hd_big (l := b) (by omega)
      have := hd_small ha (by omega)
      omega
    · exact h1
  rw [e, if_neg (by omega), if_pos (by omega), decide_eq_false (show ¬ hdI a ≤ hdI b by omega), decide_eq_true (show hdI b ≤ hdI a by omega), show min (hdI a) (hdI b) = hdI b by omega] at hp
  refine ⟨hb0, by rw [← hp, List.length_append, List.length_cons]; omega, m, by rw [List.length_tail]; omega, by rw [← hp]; simp⟩
theorem side_eq {n : Nat} {a b : List Int} {full pre : List NH} (ha : Val a) (hb : Val b) (hl : a.length + b.length ≤ n) (hp : pre ++ sideF n a b = full) (h0 : 0 < a.length ∨ 0 < b.length) (h : hdI a = hdI b) :
    0 < a.length ∧ 0 < b.length ∧ pre.length < full.length ∧ ∃ m, a.tail.length + b.tail.length ≤ m ∧ (pre ++ [(hdI a, true, true)]) ++ sideF m a.tail b.tail = full := by
  obtain ⟨m, rfl, e⟩ := side_step (n := n) (a := a) (b := b) (fun h => by rcases h with ⟨rfl, rfl⟩; simp at h0) hl
  have hab : 0 < a.length ∧ 0 < b.length := by
    rcases Nat.eq_zero_or_pos a.length with h1 | h1
    · have := hd_big (l := a) (by omega)
      have := hd_small hb (by omega)
      omega
    · rcases Nat.eq_zero_or_pos b.length with h2 | h2
      · have := hd_big (l := b) (by omega)
        have := hd_small ha (by omega)
        omega
      · exact ⟨h1, h2⟩
  rw [e, if_pos (by omega), if_pos (by omega), decide_eq_true (show hdI a ≤ hdI b by omega), decide_eq_true (show hdI b ≤ hdI a by omega), show min (hdI a) (hdI b) = hdI a by omega] at hp
  refine ⟨hab.1, hab.2, by rw [← hp, List.length_append, List.length_cons]; omega, m, by rw [List.length_tail, List.length_tail]; omega, by rw [← hp]; simp⟩
theorem side_end {n : Nat} {a b : List Int} {full pre : List NH} (hp : pre ++ sideF n a b = full) (h1 : ¬ 0 < a.length) (h2 : ¬ 0 < b.length) : full = pre := by
  have e1 : a = [] := List.length_eq_zero_iff.1 (by omega)
  have e2 : b = [] := List.length_eq_zero_iff.1 (by omega)
  subst e1 e2
  rw [← hp, sideF_nil, List.append_nil]
/-- What the walk holds between two rounds. -/
structure SideI (n0 B : Nat) (J : List NH → World → Prop) (full : List NH) (a1 a2 : Option Addr) (c1 c2 : Nat) (la lb : List Int) (pre : List NH) (m : Nat) (V : World) : Prop where
  x : IntsR n0 V a1 c1 la
  y : IntsR n0 V a2 c2 lb
  va : Val la
  vb : Val lb
  le : la.length + lb.length ≤ m
  eq : pre ++ sideF m la lb = full
  j : J pre V
  n : n0 ≤ V.heap.size
theorem SideI.drewN {n0 B : Nat} {J : List NH → World → Prop} {full : List NH} {a1 a2 : Option Addr} {c1 c2 : Nat} {la lb : List Int} {pre : List NH} {m : Nat} {V : World} (h : SideI n0 B J full a1 a2 c1 c2 la lb pre m V) (hJ : AbidesFrom B J) (q : Nat) : SideI n0 B J full a1 a2 c1 c2 la lb pre m (V.drewN q) :=
  ⟨⟨h.x.reads, h.x.le, h.x.plain, h.x.nil⟩, ⟨h.y.reads, h.y.le, h.y.plain, h.y.nil⟩, h.va, h.vb, h.le, h.eq, hJ _ _ _ none h.j ⟨rfl, rfl, rfl, Nat.le_refl _, fun _ _ _ => rfl⟩ (fun r e => by cases e), h.n⟩
theorem SideI.first {n0 B : Nat} {J : List NH → World → Prop} {full : List NH} {a1 a2 : Option Addr} {c1 c2 : Nat} {la lb : List Int} {pre : List NH} {m : Nat} {V : World} (h : SideI n0 B J full a1 a2 c1 c2 la lb pre m V) :
    Calls Try.prog 68 #[.slice a1 la.length c1] V (fun e w' => e = .returned (.int .i64 (hdI la)) ∧ V = w') ∧ Calls Try.prog 68 #[.slice a2 lb.length c2] V (fun e w' => e = .returned (.int .i64 (hdI lb)) ∧ V = w') :=
  ⟨first_any la n0 _ V ⟨_, _, rfl, h.x⟩, first_any lb n0 _ V ⟨_, _, rfl, h.y⟩⟩
end Go.Proofs.Ytejnmjaclhmelaa.Po
