/- Layer 10: a law's list of numbers of 16 bits. -/
import Derived.Test.YtpinmmmbmhfmiaaFr
import Derived.Test.YtpinmmmbmhfmiaaDtT
set_option linter.unusedVariables false
set_option linter.unusedSimpArgs false
namespace Go.Proofs.Ytpinmmmbmhfmiaa.Fr
open Go.ChangeShapes Go.WideShapes Go.ChangeAt Go.RowKit Go.Deep Dc Dt
theorem cellsU : Try.prog.cellsOf 31 = 1 := by kernel_rfl
section
variable {H : Type} {enc : TypeId × Value → H} {W : World}
theorem wf_u16 {n : Int} (h : (Lit.int .u16 n).wf = true) : 0 ≤ n ∧ n ≤ 65535 := by
  have := bounds_u16 h
  omega
set_option maxRecDepth 100000 in
theorem open_u16 {base : Nat} {v : Value} {d : DataW H} {ps : List MemPlace} (hv : Value.okWide Try.prog W .any base 28 v) (h : DataW.Trod enc Try.prog W 0 (fun _ => true) true 28 v d ps) :
    ∃ ns : List Nat, U16s W.heap.size W v ns := by
  obtain ⟨a0, len0, cap0, rfl⟩ := okWide_slice Try.underlying28 hv
  obtain ⟨fuel, hf⟩ := h
  rcases open_ints Try.underlying28 Try.underlying31 cellsU hf with ⟨hc, _⟩ | ⟨a, len, cap, zs, hc, _, hl, hm, hz, _, hcell, hwf⟩
  · simp [Value.cells] at hc
    obtain ⟨rfl, rfl, rfl⟩ := hc
    exact ⟨[], none, 0, rfl, fun hp => by simp at hp⟩
  · simp [Value.cells] at hc
    obtain ⟨rfl, rfl, rfl⟩ := hc
    simp only [if_true] at hz
    have hlen : ((zs.take len0).map Int.toNat).length = len0 := by rw [List.length_map, List.length_take]; omega
    refine ⟨(zs.take len0).map Int.toNat, some a, cap0, by rw [hlen], fun hp => ?_⟩
    rw [hlen] at hp
    obtain ⟨b, off, spot⟩ := a
    have c0 := hcell 0 (by omega)
    have hspot : spot = none := by simpa [Addr.add] using World.cell?_spot c0
    subst hspot
    refine ⟨b, off, rfl, ?_, fun j hj => ?_⟩
    · have := World.block_lt_of_cell? _ _ c0
      simpa [Addr.add] using this
    · rw [hlen] at hj
      have hjz : j < zs.length := by omega
      have e1 : ((zs.take len0).map Int.toNat)[j]?.getD 0 = zs[j].toNat := by
        rw [List.getElem?_map, List.getElem?_take_of_lt hj, List.getElem?_eq_getElem hjz]
        rfl
      have hw := wf_u16 (hwf zs[j] (List.getElem_mem hjz))
      have h2 := hcell j hjz
      rw [add_lit, List.getD_eq_getElem?_getD, List.getElem?_eq_getElem hjz] at h2
      rw [e1]
      refine ⟨?_, by omega⟩
      rw [h2, show ((zs[j].toNat : Nat) : Int) = zs[j] by omega]
      rfl
end
end Go.Proofs.Ytpinmmmbmhfmiaa.Fr
