/- Layer 8: a list of lists that is cloned and turned round. -/
import Derived.Test.YtejnmjaclhmelaaSJ
import Derived.Deep.Slices
import Derived.Shelf.SlGeneric
import Derived.Shelf.SlicesE.Reverse
set_option linter.unusedVariables false
set_option linter.unusedSimpArgs false
namespace Go.Proofs
open Go.Shelf
def Try.revL_ren : Go.Shelf.Ren := ⟨fun | 35 => 36 | n => n, fun | 22 => 31 | 23 => 22 | 3 => 3 | 4 => 4 | 0 => 0 | n => n, fun | n => n⟩
theorem Try.revL : Go.Proofs.SlLaysE.n35 Try.prog Try.revL_ren := {
  mixed := by kernel_rfl
  f35 := ⟨Try.f36.name, by decide, Try.func36.trans (congrArg some (by kernel_rfl))⟩
  t0 := Try.underlying0
  a0 := Try.isAgg0
  z0 := Try.sizeOf0
  v0 := Try.zeroValue0
  t3 := Try.underlying3
  a3 := Try.isAgg3
  z3 := Try.sizeOf3
  v3 := Try.zeroValue3
  t4 := Try.underlying4
  a4 := Try.isAgg4
  z4 := Try.sizeOf4
  v4 := Try.zeroValue4
  t22 := Try.underlying31
  a22 := Try.isAgg31
  z22 := Try.sizeOf31
  v22 := Try.zeroValue31
  a23 := Try.isAgg22
  z23 := Try.sizeOf22 }
end Go.Proofs
namespace Go.Proofs.Ytejnmjaclhmelaa.Po
open Go.RowKit Go.Sort
theorem infoL : (Try.prog.info? 22).map (fun i => (i.zero, i.size, i.bytes)) = some (some (.slice none 0 0), 1, 24) := by kernel_rfl
/-- A slice's three parts. -/
abbrev Sl3 := Option Addr × Nat × Nat
instance : Inhabited Sl3 := ⟨(none, 0, 0)⟩
def enc3 (x : Sl3) : Value := .slice x.1 x.2.1 x.2.2
/-- A row of slices of the call's own. -/
def RowL (B : Nat) (w : World) (v : Value) (D : List Sl3) : Prop :=
  (D = [] ∧ ∃ a c, v = .slice a 0 c) ∨ ∃ g cap, v = .slice (some ⟨g, 0, none⟩) D.length cap ∧ D.length ≤ cap ∧ B ≤ g ∧ g < w.heap.size ∧ ∀ j, j < D.length → w.cell? ⟨g, j, none⟩ = some (enc3 (D[j]?.getD (none, 0, 0))) ∧ w.frozen? ⟨g, j, none⟩ = false
def Descs (B : Nat) (w : World) (D : List Sl3) (ls : List (List Int)) : Prop := D.length = ls.length ∧ ∀ j, j < ls.length → Ints B w (enc3 (D[j]?.getD (none, 0, 0))) (ls[j]?.getD [])
theorem RowL.ints {B : Nat} {w : World} {v : Value} {D : List Sl3} {ls : List (List Int)} (h : RowL B w v D) (hd : Descs w.heap.size w D ls) : IntsM w.heap.size w v ls := by
  rcases h with ⟨rfl, a, c, rfl⟩ | ⟨g, cap, rfl, hc, hB, hg, hcell⟩
  · have h0 : ls = [] := List.length_eq_zero_iff.1 hd.1.symm
    subst h0
    exact ⟨⟨a, c, rfl, Nat.zero_le _⟩, a, c, rfl, fun _ => .int .i64 0, fun h => by simp at h, fun j h => by simp at h⟩
  · rw [hd.1] at hc hcell ⊢
    refine ⟨⟨_, _, rfl, hc⟩, _, _, rfl, fun j => enc3 (D[j]?.getD (none, 0, 0)), fun _ => ⟨g, 0, rfl, hg, fun j hj => ?_⟩, hd.2⟩
    rw [Nat.zero_add]
    exact (hcell j hj).1
theorem Descs.rev {B : Nat} {w : World} {D : List Sl3} {ls : List (List Int)} (h : Descs B w D ls) : Descs B w D.reverse ls.reverse := by
  refine ⟨by rw [List.length_reverse, List.length_reverse, h.1], fun j hj => ?_⟩
  rw [List.length_reverse] at hj
  rw [List.getElem?_reverse (by rw [h.1]; exact hj), List.getElem?_reverse hj, h.1]
  exact h.2 _ (by omega)
theorem Descs.below {B : Nat} {w w' : World} {D : List Sl3} {ls : List (List Int)} (h : Descs B w D ls) (hb : Below B w w') : Descs B w' D ls := ⟨h.1, fun j hj => (h.2 j hj).below hb⟩
theorem Descs.mono {B C : Nat} {w : World} {D : List Sl3} {ls : List (List Int)} (h : Descs B w D ls) (hn : B ≤ C) : Descs C w D ls := ⟨h.1, fun j hj => (h.2 j hj).mono hn⟩
/-- The parts of a list of lists that came in. -/
theorem IntsM.descs {B : Nat} {w : World} {v : Value} {ls : List (List Int)} (h : IntsM B w v ls) : ∃ a cap D, v = .slice a ls.length cap ∧ Descs B w D ls ∧ (0 < ls.length → ∃ b off, a = some ⟨b, off, none⟩ ∧ b < B ∧ ∀ j, j < ls.length → w.cell? ⟨b, off + j, none⟩ = some (enc3 (D[j]?.getD (none, 0, 0)))) := by
  obtain ⟨_, a, cap, e, V, h1, h2⟩ := h
  have key : ∀ j, j < ls.length → ∃ x : Sl3, V j = enc3 x := fun j hj => by
    obtain ⟨a', c', e', _⟩ := h2 j hj
    exact ⟨(a', _, c'), e'⟩
  obtain ⟨q, hq⟩ := Go.Deep.choose_lt key
  have hD : ∀ j, j < ls.length → enc3 (((List.range ls.length).map q)[j]?.getD (none, 0, 0)) = V j := fun j hj => by
    rw [List.getElem?_map, List.getElem?_range hj]
    exact (hq j hj).symm
  refine ⟨a, cap, (List.range ls.length).map q, e, ⟨by simp, fun j hj => ?_⟩, fun hp => ?_⟩
  · rw [hD j hj]
    exact h2 j hj
  · obtain ⟨b, off, e1, hb, hc⟩ := h1 hp
    exact ⟨b, off, e1, hb, fun j hj => by rw [hD j hj]; exact hc j hj⟩
set_option maxHeartbeats 2000000 in
set_option maxRecDepth 100000 in
theorem cloneL_any (ls : List (List Int)) (hl : ls.length ≤ 1000000) (sv : Value) (w : World) (hI : IntsM w.heap.size w sv ls) :
    Calls Try.prog 35 #[sv] w fun e w' => (∃ v' D, e = .returned v' ∧ RowL w.heap.size w' v' D ∧ Descs w.heap.size w' D ls) ∧ Below w.heap.size w w' := by
  obtain ⟨i0, hi, hz0, hz1, hz2⟩ := info_parts infoL
  have q22 : ∀ (w : World) (a : Option Addr) (n c n' c' : Nat), (binOp .eql 31 (.slice a n c) (.slice none n' c')).run Try.prog w = .ok (.bool a.isNone) w := fun w a n c n' c' => Lib.run_eql_slice_nil w _ _ a n c n' c' Try.underlying31
  obtain ⟨a, cap, D, rfl, hD, hr⟩ := hI.descs
  have hDl : D.length = ls.length := hD.1
  have HD := Lib.hid hD
  cases a with
  | none =>
    have h0 : ls.length = 0 := by
      rcases Nat.eq_zero_or_pos ls.length with h | h
      · exact h
      · obtain ⟨b, off, e, _⟩ := hr h
        cases e
    have hD0 : D = [] := List.length_eq_zero_iff.1 (by omega)
    have HD0 := Lib.hid hD0
    have hq := fun w => q22 w none 0 cap 0 0
    rw [h0]
    clear q22 hr hD hDl hD0 h0 hI hl
    go_enter Try.func35, Try.ntmps35
    go_wp2
    go_ret
    exact ⟨⟨_, D, rfl, .inl ⟨HD0.out, _, _, rfl⟩, HD.out⟩, Below.refl _ _⟩
  | some ad =>
    have B1 : Hid (Below w.heap.size w (w.alloc (.cells #[] 22))) := (Below.refl _ _).alloc (Nat.le_refl _) _
    have O1 : Hid ((w.alloc (.cells #[] 22)).ownsRow w.heap.size 22 1 (.slice (some ⟨w.heap.size, 0, none⟩) 0 0) 0 []) := World.ownsRow_made w #[] 0 (Nat.le_refl _) (by unfold maxLen; omega) (by simp)
    have hR : Reads w w.heap.size 1 (some ad) ls.length (D.map enc3) := by
      refine ⟨by rw [List.length_map, hDl, Nat.mul_one], fun hp => ?_⟩
      obtain ⟨b, off, e, hb, hc⟩ := hr hp
      cases e
      refine ⟨_, rfl, hb, fun j u hu => ?_⟩
      have hj : j < ls.length := by
        have := (List.getElem?_eq_some_iff.1 hu).1
        rwa [List.length_map, hDl] at this
      rw [add_lit, hc j hj, ← hu, List.getElem?_map, List.getElem?_eq_getElem (by omega)]
      rfl
    have R1 := Lib.hid (hR.alloc (Nat.le_refl _) (.cells #[] 22))
    have hq := fun w => q22 w (some ad) ls.length cap 0 0
    have H1 : Hid (∀ u ∈ D.map enc3, u.oneCell' = true) := Lib.hid fun u hu => by
      obtain ⟨x, _, rfl⟩ := List.mem_map.1 hu
      rfl
    have HDl := Lib.hid hDl
    clear q22 hr hD hDl hR hI
    go_enter Try.func35, Try.ntmps35
    go_wp2_with (at_builtin; refine wpList_append_any _ rfl (.tmp 5) (.tmp 6) 31 rfl w.heap.size 22 i0 _ 1 24 Try.underlying31 hi hz0 hz1 hz2 rfl (by decide) (.slice (some ⟨w.heap.size, 0, none⟩) 0 0) 0 [] rfl O1.out w.heap.size (some ad) ls.length cap (D.map enc3) rfl R1.out H1.out (by simp only [maxLen]; omega) (by omega) (by simp) ?_; intro v5 w5 ho hg _; have HO := Lib.hid ho; have HG := Lib.hid hg; clear ho hg)
    go_ret
    have HB := B1.out.grown HG.out (by simp) (fun g e => (World.ownsRow.lt O1.out g e).1)
    refine ⟨⟨_, D, rfl, ?_, HD.out.below HB⟩, HB⟩
    have h := HO.out
    rw [List.nil_append, Nat.zero_add] at h
    rcases h.2 with ⟨rfl, h0⟩ | ⟨g, cap', cur, rfl, hBg, hg, hnc, hcm, hcs, ht⟩
    · refine .inl ⟨List.length_eq_zero_iff.1 (by rw [HDl.out]; exact h0), _, _, rfl⟩
    · refine .inr ⟨g, cap', by rw [HDl.out]; rfl, by rw [HDl.out]; exact hnc, hBg, (Array.getElem?_eq_some_iff.1 hg).1, fun j hj => ⟨?_, ?_⟩⟩
      · have hc := h.cells (g := g) rfl j (enc3 (D[j]?.getD (none, 0, 0))) (by rw [List.getElem?_map, List.getElem?_eq_getElem hj]; rfl)
        rwa [add_lit, Nat.zero_add] at hc
      · unfold World.frozen?
        rw [hg]
        simp
theorem getB (D : List Sl3) (j : Nat) (h : j < D.length) : D.toArray[j]! = D[j]?.getD (none, 0, 0) := by
  rw [getElem!_pos _ j (by simpa using h), List.getElem?_eq_getElem h]
  simp
theorem below_put {B : Nat} (w : World) (n g : Nat) (d : Array Sl3) (h : B ≤ g) : RowKit.Below B w (putRow enc3 (Go.Sort.ahead w n) g 0 d) := ⟨rfl, rfl, rfl, by simp [Go.Sort.ahead], fun k hk => by
  have : g ≠ k := by omega
  simp [putRow, mapBlock, Go.Sort.ahead, Array.getElem?_modify, this]⟩
theorem revL_any (B : Nat) (D : List Sl3) (hl : D.length ≤ 1000000) (v : Value) (w : World) (hB : B ≤ w.heap.size) (h : RowL B w v D) :
    Calls Try.prog 36 #[v] w fun e w' => e = .returned (.tuple #[]) ∧ RowL B w' v D.reverse ∧ RowKit.Below B w w' := by
  rcases h with ⟨rfl, a, c, rfl⟩ | ⟨g, cap, rfl, hc, hg0, hg, hcell⟩
  · refine (AnyE.slices_Reverse_empty Try.revL a c w).mono fun e w' ⟨he, hw⟩ => ?_
    subst hw
    exact ⟨he, .inl ⟨rfl, a, c, rfl⟩, RowKit.Below.refl _ _⟩
  · have hH : Holds enc3 w g 0 D.toArray := fun j hj => by
      have hj' : j < D.length := by simpa using hj
      rw [getB D j hj', Nat.zero_add]
      exact hcell j hj'
    refine (AnyE.slices_Reverse Try.revL enc3 (fun _ => rfl) g 0 cap D w hH (by omega)).mono fun e w' ⟨he, n, hw⟩ => ?_
    subst hw
    refine ⟨he, .inr ⟨g, cap, by rw [List.length_reverse], by rw [List.length_reverse]; exact hc, hg0, by simpa [Go.Sort.ahead] using hg, fun j hj => ?_⟩, below_put w n g _ hg0⟩
    have hs : D.reverse.toArray.size = D.toArray.size := by simp
    have hH2 := holds_putRow enc3 (Go.Sort.ahead w n) g 0 D.toArray D.reverse.toArray (fun j hj => hH j hj) hs j (by simpa using hj)
    rw [getB _ j hj, Nat.zero_add] at hH2
    exact hH2
end Go.Proofs.Ytejnmjaclhmelaa.Po
