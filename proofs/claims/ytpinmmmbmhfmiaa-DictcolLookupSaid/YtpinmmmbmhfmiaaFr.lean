/- Layer 10: what a law's parameters read as. -/
import Derived.Test.YtpinmmmbmhfmiaaDtK
import Derived.Test.YtpinmmmbmhfmiaaRows
import Derived.Deep.Strs
import Derived.ProofKit
import Derived.OpenShut
import Derived.ShutString
import Derived.ChangeOld
import Derived.SizedLaws
set_option linter.unusedVariables false
set_option linter.unusedSimpArgs false
namespace Go.Proofs.Ytpinmmmbmhfmiaa.Fr
open Go.ChangeShapes Go.WideShapes Go.ChangeAt Go.RowKit Go.Deep Dc Dt
theorem own : ownKnob Try.prog.godebug = none := by kernel_rfl
theorem laidOut : laidOutB Try.prog = true := by kernel_rfl
theorem cellsS : Try.prog.cellsOf 9 = 1 := by kernel_rfl
section
variable {H : Type} {enc : TypeId × Value → H} {W : World}
theorem weights_all {P : Program} {e : TypeId} : ∀ {elems : List (DataW H)} {d : DataW H}, d ∈ elems → ∀ n ∈ d.weights P e, n ∈ DataW.weightsAll P e elems
  | [], _, h, _, _ => by cases h
  | x :: r, d, h, n, hn => by
    simp only [DataW.weightsAll, List.mem_append]
    rcases List.mem_cons.1 h with rfl | h
    · exact .inl hn
    · exact .inr (weights_all h n hn)
theorem sized_elem {P : Program} {ts : List TypeId} {ds : List (DataW H)} (h : (DataW.weightsEach P ts ds).all (· ≤ reachBytes) = true) {j : Nat} {t e : TypeId} {elems spare : List (DataW H)} (ht : ts[j]? = some t) (hd : ds[j]? = some (.slice elems spare)) (hu : P.underlying t = some (.slice e))
    {bytes : List UInt8} (hm : DataW.lit (.string bytes) ∈ elems) : bytes.length ≤ 140737488351232 := by
  have := List.all_eq_true.1 h _ (DataW.weights_mem_each ht hd bytes.length (by
    simp only [DataW.weights, hu, List.mem_cons, List.mem_append]
    exact .inr (.inl (weights_all hm _ (by simp [DataW.weights])))))
  have h2 : bytes.length ≤ reachBytes := of_decide_eq_true this
  exact h2
set_option maxRecDepth 100000 in
theorem open_strl {base : Nat} {v : Value} {d : DataW H} {ps : List MemPlace} (hv : Value.okWide Try.prog W .any base 22 v) (h : DataW.Trod enc Try.prog W 0 (fun _ => true) true 22 v d ps)
    {ts : List TypeId} {ds : List (DataW H)} (hz : (DataW.weightsEach Try.prog ts ds).all (· ≤ reachBytes) = true) {j : Nat} (ht : ts[j]? = some 22) (hd : ds[j]? = some d) :
    ∃ l : List BA, Strs W.heap.size W v l ∧ ∀ x ∈ l, x.size ≤ 140737488351232 := by
  obtain ⟨a0, len0, cap0, rfl⟩ := okWide_slice Try.underlying22 hv
  obtain ⟨fuel, hf⟩ := h
  rcases open_strs Try.underlying22 Try.underlying9 cellsS hf with ⟨hc, _⟩ | ⟨a, len, cap, m, Sx, hc, _, hl, hm, hmm, hx, hall⟩
  · simp [Value.cells] at hc
    obtain ⟨rfl, rfl, rfl⟩ := hc
    exact ⟨[], Strs.nil_ _ _, fun x hx => by cases hx⟩
  · simp [Value.cells] at hc
    obtain ⟨rfl, rfl, rfl⟩ := hc
    simp only [if_true] at hmm
    subst hmm
    simp only [Prod.mk.injEq] at hx
    obtain ⟨rfl, _⟩ := hx
    have hlen : ((List.range len0).map Sx).length = len0 := by simp
    refine ⟨(List.range len0).map Sx, ⟨some a, m, by rw [hlen], ?_, by rw [hlen]; exact hl, fun hp ad e => ?_, fun e => by cases e⟩, fun x hx => ?_⟩
    · refine ⟨by rw [sc_len, Nat.mul_one], fun hn => ⟨a, rfl, ?_, fun j u hu => ?_⟩⟩
      · rw [hlen] at hn
        have := World.block_lt_of_cell? _ _ (hall 0 (by omega)).1
        simpa [Addr.add] using this
      · have hj : j < len0 := by
          have := (List.getElem?_eq_some_iff.1 hu).1
          rwa [sc_len, hlen] at this
        rw [(hall j (by omega)).1, ← hu]
        unfold sc
        rw [List.map_map, List.getElem?_map, List.getElem?_range hj]
        rfl
    · cases e
      have := World.cell?_spot (hall 0 hp).1
      simpa [Addr.add] using this
    · obtain ⟨i, hi, rfl⟩ := List.mem_map.1 hx
      have h2 : (Sx i).data.toList.length = (Sx i).size := Array.length_toList
      rw [← h2]
      exact sized_elem hz ht hd Try.underlying22 (List.mem_map.2 ⟨i, hi, rfl⟩)
end
end Go.Proofs.Ytpinmmmbmhfmiaa.Fr
