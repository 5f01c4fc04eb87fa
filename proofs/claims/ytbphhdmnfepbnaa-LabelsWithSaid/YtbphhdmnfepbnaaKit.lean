/- Layer 5: words for lists of labels in memory. -/
import Derived.WalkKit
import Derived.WalkSpells
import Derived.WalkLawsBesides
import Derived.Lib.Hide
import Derived.IntWalk
import Derived.KernelRfl
import Derived.Outline
import Derived.Below
import Derived.Laws.OwnMore
import Derived.Deep.Draws
import Derived.Test.YtbphhdmnfepbnaaProg
namespace Go.Proofs.Ytbphhdmnfepbnaa.Lab
open Go.RowKit

/-- A label. -/
structure Lb where
  n : ByteArray
  v : ByteArray
/-- The slice at A reads as the labels l; it lies below block B. -/
def LS (w : World) (B : Nat) (A : Option Addr) (l : List Lb) : Prop :=
  l ≠ [] → ∃ b off, A = some ⟨b, off, none⟩ ∧ b < B ∧ ∀ j (h : j < l.length), w.cell? ⟨b, off + j * 2, none⟩ = some (.string l[j].n) ∧ w.cell? ⟨b, off + j * 2 + 1, none⟩ = some (.string l[j].v)
theorem LS.at_ {w : World} {B : Nat} {A : Option Addr} {l : List Lb} (h : LS w B A l) {k : Nat} (hk : k < l.length) :
    ∃ b off, A = some ⟨b, off, none⟩ ∧ b < B ∧ w.cell? ⟨b, off + k * 2, none⟩ = some (.string l[k].n) ∧ w.cell? ⟨b, off + k * 2 + 1, none⟩ = some (.string l[k].v) := by
  obtain ⟨b, off, e, hb, hc⟩ := h (by intro e; rw [e] at hk; simp at hk)
  exact ⟨b, off, e, hb, hc k hk⟩
theorem LS.keep {w w' : World} {B : Nat} {A : Option Addr} {l : List Lb} (h : LS w B A l) (hk : ∀ p : Addr, p.block < B → w'.cell? p = w.cell? p) : LS w' B A l := fun hne => by
  obtain ⟨b, off, e, hb, hc⟩ := h hne
  exact ⟨b, off, e, hb, fun j hj => ⟨(hk _ hb).trans (hc j hj).1, (hk _ hb).trans (hc j hj).2⟩⟩
theorem LS.below {w w' : World} {B : Nat} {A : Option Addr} {l : List Lb} (h : LS w B A l) (hb : Below B w w') : LS w' B A l := h.keep fun _ hp => hb.cell hp
theorem LS.more {w : World} {B B' : Nat} {A : Option Addr} {l : List Lb} (h : LS w B A l) (hB : B ≤ B') : LS w B' A l := fun hne => by
  obtain ⟨b, off, e, hb, hc⟩ := h hne
  exact ⟨b, off, e, by omega, hc⟩
theorem LS.nil (w : World) (B : Nat) (A : Option Addr) : LS w B A [] := fun h => absurd rfl h
end Go.Proofs.Ytbphhdmnfepbnaa.Lab
