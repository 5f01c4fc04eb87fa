/- Layer 10: slices.Sort, slices.Sorted, slices.Compact at lists of strings; the program's dictionary. -/
import Derived.Shelf.SlicesG.CompactS
import Derived.Shelf.SortM.Plain
import Derived.Shelf.SortM.SortNone
import Derived.Sort.OwnSorted
import Derived.Test.YtpinmmmbmhfmiaaShelf
import Derived.Test.YtpinmmmbmhfmiaaDuB
set_option linter.unusedVariables false
set_option linter.unusedSimpArgs false
namespace Go.Proofs.Ytpinmmmbmhfmiaa.Dt
open Go.RowKit Go.Sort Dc
def bls (l : List BA) : List (List UInt8) := l.map fun x => x.data.toList
def unb (l : List (List UInt8)) : List BA := l.map fun x => ⟨x.toArray⟩
theorem bls_len (l : List BA) : (bls l).length = l.length := List.length_map ..
theorem unb_len (l : List (List UInt8)) : (unb l).length = l.length := List.length_map ..
theorem unb_bls (l : List BA) : unb (bls l) = l := by
  unfold unb bls
  rw [List.map_map]
  conv => rhs; rw [← List.map_id l]
  exact List.map_congr_left fun x _ => mk_data x
theorem bls_unb (l : List (List UInt8)) : bls (unb l) = l := by
  unfold unb bls
  rw [List.map_map]
  conv => rhs; rw [← List.map_id l]
  exact List.map_congr_left fun x _ => by simp
theorem enc_unb (l : List (List UInt8)) : l.map encStr = sc (unb l) := by
  unfold sc unb
  rw [List.map_map]
  rfl
theorem enc_bls (l : List BA) : (bls l).map encStr = sc l := by rw [enc_unb, unb_bls]
theorem unb_mem (l : List (List UInt8)) (x : BA) : x ∈ unb l ↔ x.data.toList ∈ l := by
  unfold unb
  rw [List.mem_map]
  constructor
  · rintro ⟨y, h, rfl⟩
    simpa using h
  · exact fun h => ⟨_, h, mk_data x⟩
/-- Sorted. -/
def srtB (l : List BA) : List (List UInt8) := (bls l).mergeSort fun x y => decide (x ≤ y)
theorem le_of {x y : List UInt8} : decide (x ≤ y) = !Op.bytesLess y x := by
  rw [bytesLess_eq]
  by_cases h : y < x
  · have : ¬ x ≤ y := fun h2 => h2 h
    simp [h, this]
  · have : x ≤ y := h
    simp [h, this]
theorem srtB_sorted (l : List BA) : (srtB l).Pairwise fun a b => Op.bytesLess b a = false := by
  have h := List.pairwise_mergeSort (le := fun (x y : List UInt8) => decide (x ≤ y))
    (fun a b c h1 h2 => by
      rw [le_of] at h1 h2 ⊢
      simp only [Bool.not_eq_true'] at h1 h2 ⊢
      cases hq : Op.bytesLess c a with
      | false => rfl
      | true =>
        cases hb : Op.bytesLess a b with
        | true => rw [bl_trans c a b hq hb] at h2; cases h2
        | false =>
          have e := bl_total a b hb h1
          subst e
          rw [hq] at h2
          cases h2)
    (fun a b => by
      rw [le_of, le_of]
      cases hq : Op.bytesLess b a with
      | false => rfl
      | true =>
        cases hb : Op.bytesLess a b with
        | true => have := bl_trans a b a hb hq; rw [bl_irr] at this; cases this
        | false => rfl) (bls l)
  refine List.Pairwise.imp (fun h => ?_) h
  rw [le_of] at h
  simpa using h
theorem srtB_mem (l : List BA) (x : List UInt8) : x ∈ srtB l ↔ x ∈ bls l := (List.mergeSort_perm (bls l) _).mem_iff
theorem srtB_len (l : List BA) : (srtB l).length = l.length := by rw [← bls_len l]; exact (List.mergeSort_perm (bls l) _).length_eq
/-- Neighbours that are equal are one. -/
theorem compact_upto {zs : List (List UInt8)} (h : zs.Pairwise fun a b => Op.bytesLess b a = false) : ∀ m, m ≤ zs.length →
    (Lib.compactUpTo zs.toArray m).Pairwise (fun a b => Op.bytesLess a b = true) ∧ ∀ x, x ∈ Lib.compactUpTo zs.toArray m ↔ x ∈ zs.take m
  | 0, _ => ⟨List.Pairwise.nil, fun x => by simp [Lib.compactUpTo]⟩
  | m + 1, hm => by
    obtain ⟨h1, h2⟩ := compact_upto h m (by omega)
    have hlt : m < zs.length := hm
    have et : zs.take (m + 1) = zs.take m ++ [zs[m]] := by rw [List.take_add_one, List.getElem?_eq_getElem hlt]; rfl
    have eg : ∀ j (hj : j < zs.length), zs.toArray[j]! = zs[j] := fun j hj => by simp [hj]
    rw [Lib.compactUpTo_succ, et, eg m hlt]
    by_cases hk : Lib.keeps zs.toArray m = true
    · rw [if_pos hk]
      refine ⟨List.pairwise_append.2 ⟨h1, List.pairwise_singleton _ _, fun a ha b hb => ?_⟩, fun x => by rw [List.mem_append, List.mem_append, h2]⟩
      rw [List.mem_singleton] at hb
      subst hb
      obtain ⟨j, hj, rfl⟩ := List.mem_iff_getElem.1 ((h2 a).1 ha)
      rw [List.length_take] at hj
      rw [List.getElem_take]
      have hm0 : m ≠ 0 := by omega
      have hne : zs[m] ≠ zs[m - 1] := by
        unfold Lib.keeps at hk
        rw [decide_eq_true_iff] at hk
        rcases hk with hk | hk
        · exact absurd hk hm0
        · rw [eg m hlt, eg (m - 1) (by omega)] at hk
          exact hk
      have hp := List.pairwise_iff_getElem.1 h
      have hq : Op.bytesLess zs[m] zs[m - 1] = false := hp (m - 1) m (by omega) hlt (by omega)
      have hq2 : Op.bytesLess zs[m - 1] zs[m] = true := by
        cases e : Op.bytesLess zs[m - 1] zs[m] with
        | true => rfl
        | false => exact absurd (bl_total _ _ hq e) hne
      by_cases hjm : j = m - 1
      · subst hjm
        exact hq2
      · have hq3 : Op.bytesLess zs[m - 1] zs[j] = false := hp j (m - 1) (by omega) (by omega) (by omega)
        cases e : Op.bytesLess zs[j] zs[m - 1] with
        | true => exact bl_trans _ _ _ e hq2
        | false => rw [bl_total _ _ e hq3]; exact hq2
    · rw [if_neg hk, List.append_nil]
      refine ⟨h1, fun x => ?_⟩
      rw [h2, List.mem_append, List.mem_singleton]
      refine ⟨.inl, fun hx => hx.elim id fun e => ?_⟩
      unfold Lib.keeps at hk
      rw [decide_eq_true_iff] at hk
      have hm0 : m ≠ 0 := fun e => hk (.inl e)
      have he : zs.toArray[m]! = zs.toArray[m - 1]! := Classical.byContradiction fun e => hk (.inr e)
      rw [eg m hlt, eg (m - 1) (by omega)] at he
      rw [e, he]
      exact List.mem_iff_getElem.2 ⟨m - 1, by rw [List.length_take]; omega, by rw [List.getElem_take]⟩
theorem compact_len (zs : List (List UInt8)) : (Lib.compact zs).length ≤ zs.length := by
  unfold Lib.compact Lib.compactUpTo
  rw [List.length_map]
  refine Nat.le_trans (List.length_filter_le _ _) ?_
  rw [List.length_range]
  exact Nat.le_refl _
theorem dict_is (l : List BA) : dict l = unb (Lib.compact (srtB l)) := by
  obtain ⟨h1, h2⟩ := compact_upto (srtB_sorted l) (srtB l).length (Nat.le_refl _)
  refine dict_of ?_ fun x => ?_
  · unfold asc unb
    rw [List.pairwise_map]
    refine List.Pairwise.imp (fun h => ?_) h1
    unfold ltS
    rw [Lib.toList_data, Lib.toList_data]
    exact h
  · rw [unb_mem]
    show x.data.toList ∈ Lib.compactUpTo (srtB l).toArray (srtB l).length ↔ _
    rw [h2, List.take_length, srtB_mem]
    unfold bls
    rw [List.mem_map]
    constructor
    · rintro ⟨y, hy, e⟩
      rw [← mk_data x, ← e, mk_data]
      exact hy
    · exact fun h => ⟨x, h, rfl⟩
theorem ownsRow_base {W : World} {b c e size k : Nat} {v : Value} {xs : List Value} (h : W.ownsRow b e size v k xs) (hc : c ≤ b) : W.ownsRow c e size v k xs := by
  obtain ⟨h1, h2⟩ := h
  refine ⟨h1, h2.imp id ?_⟩
  rintro ⟨g, cap, cur, e1, hb, r⟩
  exact ⟨g, cap, cur, e1, Nat.le_trans hc hb, r⟩
theorem own_bls {B : Nat} {w : World} {v : Value} {l : List BA} (h : OwnS B w v l) : w.ownsRow B 9 1 v (bls l).length ((bls l).map encStr) := by rw [bls_len, enc_bls]; exact h
theorem sort_any (B : Nat) (l : List BA) (hl : l.length ≤ 100000) (v : Value) (w : World) (hO : OwnS B w v l) :
    Calls Try.prog 83 #[v] w fun e w' => e = .returned (.tuple #[]) ∧ OwnS B w' v (unb (srtB l)) ∧ w.grownBy w' v.ownBlock := by
  have hr := own_bls hO
  rcases hr.2 with ⟨rfl, hz⟩ | ⟨g, cap, cur, rfl, hbase, hg, h1, h2, h3, h4⟩
  · refine (AnyM.slices_Sort_string_none Try.sortS none 0 w).mono ?_
    rintro e w' ⟨rfl, rfl⟩
    rw [bls_len] at hz
    have : l = [] := List.eq_nil_of_length_eq_zero hz
    subst this
    exact ⟨rfl, by simpa [srtB, bls, unb] using OwnS.nil_ B w', World.grownBy.refl _ _⟩
  · have hH : Holds encStr w g 0 (bls l).toArray := holds_of_block hg (by simpa using h4)
    refine (AnyM.slices_Sort_string Try.sortS g 0 cap (bls l) w hH (Array.getElem?_eq_some_iff.1 hg).1 (by rw [bls_len]; omega)).mono ?_
    rintro e w' ⟨rfl, nn, os, rfl⟩
    refine ⟨rfl, ?_, grownBy_sorted _⟩
    have := ownsRow_sorted (n := nn) (os := os) (ts := srtB l) (ss := bls l) (by rw [srtB_len, bls_len]) hbase hg h1 h2 h3
    unfold OwnS
    rw [← enc_unb, unb_len, srtB_len, ← bls_len l]
    exact this
theorem compact_any (B : Nat) (l : List BA) (hl : l.length ≤ 100000) (v : Value) (w : World) (hO : OwnS B w v l) :
    Calls Try.prog 60 #[v] w fun e w' => (∃ v', e = .returned v' ∧ OwnS B w' v' (unb (Lib.compact (bls l)))) ∧ w.grownBy w' v.ownBlock := by
  have hr := own_bls hO
  rcases hr.2 with ⟨rfl, hz⟩ | ⟨g, cap, cur, rfl, hbase, hg, h1, h2, h3, h4⟩
  · rw [bls_len] at hz
    have : l = [] := List.eq_nil_of_length_eq_zero hz
    subst this
    refine (AnyG.slices_Compact_string_empty Try.compS none 0 w).mono ?_
    rintro e w' ⟨rfl, rfl⟩
    exact ⟨⟨_, rfl, by simpa [Lib.compact, Lib.compactUpTo, bls, unb] using OwnS.nil_ B w'⟩, World.grownBy.refl _ _⟩
  · have hH : Holds encStr w g 0 (bls l).toArray := holds_of_block hg (by simpa using h4)
    have hc := compact_len (bls l)
    refine (AnyG.slices_Compact_string Try.compS g 0 cap (bls l) w hH (by rw [bls_len]; omega) h1).mono ?_
    rintro e w' ⟨rfl, q, rfl⟩
    obtain ⟨d, hd⟩ : ∃ d, Lib.compact (bls l) ++ List.replicate ((bls l).length - (Lib.compact (bls l)).length) ([] : List UInt8) = d := ⟨_, rfl⟩
    have hdl : d.length = (bls l).length := by rw [← hd, List.length_append, List.length_replicate]; omega
    have hdt : d.take (Lib.compact (bls l)).length = Lib.compact (bls l) := by rw [← hd, List.take_left' rfl]
    rw [hd]
    have e0 : putRow encStr (Sort.ahead w q) g 0 d.toArray = grow (putRow encStr (Sort.ahead w q) g 0 d.toArray) #[] := by unfold grow; rw [Array.append_empty]
    have hG := grownBy_sorted (w := w) (g := g) (n := q) (os := #[]) d.toArray
    have hh := heap_sorted (n := q) (os := #[]) d.toArray hg
    rw [← e0] at hG hh
    refine ⟨⟨_, rfl, ?_⟩, hG⟩
    have hcs : d.length ≤ cur.size := by rw [hdl]; omega
    have ht := take_putCells cur d hcs
    unfold OwnS
    refine ⟨by rw [sc_len, Nat.mul_one], .inr ⟨g, cap, _, by rw [unb_len], hbase, hh, by rw [unb_len]; omega, h2, by simp [putCells, h3], ?_⟩⟩
    rw [Nat.mul_one, unb_len, ← enc_unb, ← hdt, List.map_take, ← ht, List.take_take, hdt]
    congr 1
    omega
theorem sorted_any (b2 : Nat) (zs : List BA) (hl : zs.length ≤ 100000) (w : World) (hV : ValsOf w.heap.size b2 zs w) :
    Calls Try.prog 61 #[.func (.func 84) #[] #[.pointer (some ⟨b2, 0, none⟩)]] w (StrsOut w (unb (srtB zs))) := by
  have HA := Lib.hid ((callsIn_wide (n := 4)).1 (collect_in 4 (by omega) b2 zs hl w hV))
  go_enter Try.func61, Try.ntmps61
  go_wp2_with fail
  refine HA.out.mono ?_
  rintro e w1 ⟨v, rfl, ho, hb⟩
  have HS := Lib.hid (sort_any w.heap.size zs hl v w1 ho)
  have B1 := Lib.hid hb
  have HR : Hid (∀ k, v.ownBlock = some k → w.heap.size ≤ k) := Lib.hid fun k hk => (World.ownsRow.lt ho k hk).1
  obtain ⟨A, c, rfl⟩ := own_form ho
  clear ho hb HA
  go_wp2_with fail
  refine HS.out.mono ?_
  rintro e w2 ⟨rfl, ho2, hg⟩
  have O2 := Lib.hid ho2
  have B2 := Lib.hid (B1.out.grown hg B1.out.size HR.out)
  clear ho2 hg HS
  go_wp2
  go_ret
  exact ⟨_, rfl, O2.out, B2.out⟩
set_option maxHeartbeats 1000000 in
theorem pdict_any (l : List BA) (hl : l.length ≤ 100000) (sv : Value) (w : World) (hI : StrsAt w.heap.size w sv l) :
    Calls Try.prog 44 #[sv] w (StrsOut w (dict l)) := by
  obtain ⟨a, cap, rfl, hc⟩ := hI
  have HV := Lib.hid ((callsIn_wide (n := 4)).1 (values_in 4 a l.length cap w))
  have hB0 : Below w.heap.size w (w.alloc (.cells #[.slice a l.length cap] 22)) := (Below.refl _ w).alloc (Nat.le_refl _) _
  have hV : ValsOf (w.alloc (.cells #[.slice a l.length cap] 22)).heap.size w.heap.size l (w.alloc (.cells #[.slice a l.length cap] 22)) := by
    refine ⟨by simp, a, cap, (Boxed.new w 22 (.slice a l.length cap)).cell, fun hp => ?_⟩
    obtain ⟨b, off, e, hlt, hcc⟩ := hc hp
    exact ⟨b, off, e, by simp only [World.size_alloc]; omega, fun j hj => (hB0.cell (p := ⟨b, off + j, none⟩) hlt).trans (hcc j hj)⟩
  have HS := Lib.hid (sorted_any w.heap.size l hl _ hV)
  have HB := Lib.hid hB0
  generalize hW0 : w.alloc (.cells #[.slice a l.length cap] 22) = W0 at *
  clear hV hB0 hc hW0
  go_enter Try.func44, Try.ntmps44
  go_wp2_with fail
  refine HV.out.mono ?_
  rintro e w1 ⟨rfl, rfl⟩
  go_wp2_with fail
  refine HS.out.mono ?_
  rintro e w2 ⟨v, rfl, ho, hb⟩
  have B2 := Lib.hid (HB.out.trans (hb.mono HB.out.size))
  have HC := Lib.hid (compact_any _ (unb (srtB l)) (by rw [unb_len, srtB_len]; exact hl) v w2 ho)
  have HR : Hid (∀ k, v.ownBlock = some k → w1.heap.size ≤ k) := Lib.hid fun k hk => (World.ownsRow.lt ho k hk).1
  obtain ⟨A, c, rfl⟩ := own_form ho
  clear ho hb HS HV
  go_wp2_with fail
  refine HC.out.mono ?_
  rintro e w3 ⟨⟨v', rfl, ho3⟩, hg⟩
  rw [bls_unb, ← dict_is] at ho3
  have B3 := Lib.hid (B2.out.grown hg B2.out.size fun k hk => Nat.le_trans HB.out.size (HR.out k hk))
  have O3 : Hid (OwnS w.heap.size w3 v' (dict l)) := Lib.hid (ownsRow_base ho3 HB.out.size)
  obtain ⟨A3, c3, rfl⟩ := own_form ho3
  clear ho3 hg HC
  go_wp2
  go_ret
  exact ⟨_, rfl, O3.out, B3.out⟩
end Go.Proofs.Ytpinmmmbmhfmiaa.Dt
