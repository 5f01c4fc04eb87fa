/- Layer 9: what a law's parameters read as. -/
import Derived.Test.YtmeekciclfgkkaaDcK
import Derived.Test.YtmeekciclfgkkaaRows
import Derived.Deep.Matrix
import Derived.ProofKit
import Derived.OpenShut
import Derived.ShutString
import Derived.ChangeOld
set_option linter.unusedVariables false
set_option linter.unusedSimpArgs false
namespace Go.Proofs.Ytmeekciclfgkkaa.Fr
open Go.ChangeShapes Go.WideShapes Go.ChangeAt Go.RowKit Go.Deep Dc
theorem own : ownKnob Try.prog.godebug = none := by kernel_rfl
theorem laidOut : laidOutB Try.prog = true := by kernel_rfl
theorem cellsI : Try.prog.cellsOf 3 = 1 := by kernel_rfl
theorem add_plain (b off j : Nat) : (⟨b, off, none⟩ : Addr).add j = ⟨b, off + j, none⟩ := add_lit b off j
section
variable {H : Type} {enc : TypeId × Value → H} {W : World}
/-- A row of numbers, by its cells. -/
theorem ints_of {a : Option Addr} {len cap : Nat} {zs : List Int} (hl : len ≤ cap) (hz : zs.length = cap) (h0 : a = none → cap = 0)
    (hc : ∀ ad, a = some ad → ∀ i, i < cap → W.cell? (ad.add i) = some (.int .i64 (zs[i]?.getD 0))) : ∃ l, l.length = len ∧ Ints W.heap.size W (.slice a len cap) l := by
  have hlen : (zs.take len).length = len := by rw [List.length_take]; omega
  refine ⟨zs.take len, hlen, a, cap, by rw [hlen], ⟨by rw [ic_len, Nat.mul_one], fun hn => ?_⟩, by omega, fun hp ad e => ?_, h0⟩
  · have hl0 : 0 < len := by omega
    cases a with
    | none => have := h0 rfl; omega
    | some ad =>
      refine ⟨ad, rfl, ?_, fun j u hu => ?_⟩
      · have := World.block_lt_of_cell? _ _ (hc ad rfl 0 (by omega))
        simpa [Addr.add] using this
      · have hj : j < (zs.take len).length := by
          have := (List.getElem?_eq_some_iff.1 hu).1
          rwa [ic_len] at this
        rw [hlen] at hj
        rw [hc ad rfl j (by omega), ← hu]
        unfold ic
        rw [List.getElem?_map, List.getElem?_take_of_lt hj, List.getElem?_eq_getElem (by omega)]
        rfl
  · have := World.cell?_spot (hc ad e 0 hp)
    simpa [Addr.add] using this
theorem open_list {base : Nat} {v : Value} {d : DataW H} {ps : List MemPlace} (hv : Value.okWide Try.prog W .any base 22 v) (h : DataW.Trod enc Try.prog W 0 (fun _ => true) true 22 v d ps) :
    ∃ l : List Int, l.length ≤ maxLen ∧ Ints W.heap.size W v l := by
  obtain ⟨a0, len0, cap0, rfl⟩ := okWide_slice Try.underlying22 hv
  obtain ⟨fuel, hf⟩ := h
  rcases open_ints Try.underlying22 Try.underlying3 cellsI hf with ⟨hc, _⟩ | ⟨a, len, cap, zs, hc, _, hl, hm, hz, _, hcell, _⟩
  · simp [Value.cells] at hc
    obtain ⟨rfl, rfl, rfl⟩ := hc
    obtain ⟨l, h1, h2⟩ := ints_of (W := W) (a := none) (len := 0) (cap := 0) (zs := []) (Nat.le_refl _) rfl (fun _ => rfl) (fun ad e => by cases e)
    exact ⟨l, by omega, h2⟩
  · simp [Value.cells] at hc
    obtain ⟨rfl, rfl, rfl⟩ := hc
    simp only [if_true] at hz
    obtain ⟨l, h1, h2⟩ := ints_of (W := W) (a := some a) (len := len0) (cap := cap0) (zs := zs) hl hz (fun e => by cases e) (fun ad e i hi => by
      cases e
      have := hcell i (by omega)
      rwa [List.getD_eq_getElem?_getD] at this)
    exact ⟨l, by omega, h2⟩
end
end Go.Proofs.Ytmeekciclfgkkaa.Fr
