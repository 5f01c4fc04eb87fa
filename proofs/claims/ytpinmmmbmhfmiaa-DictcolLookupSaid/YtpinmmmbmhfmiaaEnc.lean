/- The contracts of Encode and of its twin. -/
import Derived.Test.YtpinmmmbmhfmiaaApp
import Derived.Test.YtpinmmmbmhfmiaaListMath
namespace Go.Proofs.Ytpinmmmbmhfmiaa
open Go.RowKit

/-- The slice value sv reads as the numbers zs; its cells lie below n₀. -/
def IntsAt (n₀ : Nat) (w : World) (sv : Value) (zs : List Int) : Prop :=
  ∃ a cap, sv = .slice a zs.length cap ∧ (zs ≠ [] → ∃ b off, a = some ⟨b, off, none⟩ ∧ b < n₀ ∧ ∀ j, j < zs.length → w.cell? ⟨b, off + j, none⟩ = some (.int .i64 (zs[j]?.getD 0)))
theorem IntsAt.below {n₀ : Nat} {A B : World} {sv : Value} {zs : List Int} (h : IntsAt n₀ A sv zs) (hb : Below n₀ A B) : IntsAt n₀ B sv zs := by
  obtain ⟨a, cap, e, h⟩ := h
  refine ⟨a, cap, e, fun hne => ?_⟩
  obtain ⟨b, off, e2, hlt, hc⟩ := h hne
  exact ⟨b, off, e2, hlt, fun j hj => (hb.cell (p := ⟨b, off + j, none⟩) hlt).trans (hc j hj)⟩
theorem IntsAt.mono {n₀ n₁ : Nat} {w : World} {sv : Value} {zs : List Int} (h : IntsAt n₀ w sv zs) (hn : n₀ ≤ n₁) : IntsAt n₁ w sv zs := by
  obtain ⟨a, cap, e, h⟩ := h
  refine ⟨a, cap, e, fun hne => ?_⟩
  obtain ⟨b, off, e2, hlt, hc⟩ := h hne
  exact ⟨b, off, e2, by omega, hc⟩
theorem intsAt_own {B n₀ : Nat} {w : World} {v : Value} {zs : List Int} (h : w.ownsRow B 3 1 v zs.length (zs.map (Value.int .i64))) (hn : w.heap.size ≤ n₀) : IntsAt n₀ w v zs := by
  rcases h.2 with ⟨rfl, h0⟩ | ⟨g, cap, cur, rfl, _⟩
  · exact ⟨none, 0, by rw [h0], fun hne => absurd (List.length_eq_zero_iff.1 h0) hne⟩
  · refine ⟨some ⟨g, 0, none⟩, cap, rfl, fun _ => ⟨g, 0, rfl, by have := (h.lt g rfl).2; omega, fun j hj => ?_⟩⟩
    have := h.cells rfl j (.int .i64 (zs[j]?.getD 0)) (by simp [List.getElem?_eq_getElem hj])
    have e : (⟨g, 0, none⟩ : Addr).add j = ⟨g, 0 + j, none⟩ := by cases j <;> simp [Addr.add]
    rw [← e]
    exact this

/-- What Encode hands back. -/
def encOut (zs : List Int) : Value := if ∀ z ∈ zs, inR z then .tuple #[.string ⟨(enc zs).toArray⟩, .int .i64 0] else .tuple #[.string ⟨#[]⟩, .int .i64 2]
theorem encOut_ok {zs : List Int} (h : ∀ z ∈ zs, inR z) : encOut zs = .tuple #[.string ⟨(enc zs).toArray⟩, .int .i64 0] := if_pos h
theorem encOut_bad {zs : List Int} (h : ¬ ∀ z ∈ zs, inR z) : encOut zs = .tuple #[.string ⟨#[]⟩, .int .i64 2] := if_neg h

theorem take_snoc (zs : List Int) (k : Nat) (h : k < zs.length) : zs.take (k + 1) = zs.take k ++ [zs[k]?.getD 0] := by
  rw [List.take_add_one, List.getElem?_eq_getElem h]; rfl
theorem enc_len (zs : List Int) (hl : zs.length ≤ 50) (h : ∀ z ∈ zs, inR z) : (enc zs).length ≤ 500 := by
  have := flat_len zs h
  have := uv_len9 (m := zs.length) (by omega)
  unfold enc; rw [List.length_append]; omega

theorem mk_append (l m : List UInt8) : (⟨l.toArray⟩ : ByteArray) ++ ⟨m.toArray⟩ = ⟨(l ++ m).toArray⟩ := by
  apply ByteArray.ext
  simp

end Go.Proofs.Ytpinmmmbmhfmiaa
