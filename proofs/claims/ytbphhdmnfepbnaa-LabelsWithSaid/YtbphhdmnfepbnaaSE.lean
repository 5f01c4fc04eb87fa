/- Layer 5: With of the program. -/
import Derived.Test.YtbphhdmnfepbnaaSD
import Derived.Test.YtbphhdmnfepbnaaLK
set_option linter.unusedVariables false
set_option linter.unusedSimpArgs false
namespace Go.Proofs.Ytbphhdmnfepbnaa.Lab
open Go.RowKit
theorem gtr_any (a b n : ByteArray) (bb : Nat) (w : World) (h : w.cell? ⟨bb, 0, none⟩ = some (.string n)) (hb : bb < w.heap.size) :
    Calls Try.prog 38 #[.agg #[.string a, .string b], .pointer (some ⟨bb, 0, none⟩)] w fun e w' => e = .returned (.bool (!leS a n)) ∧ Below w.heap.size w w' := by
  have F : Hid (Below w.heap.size w (w.alloc (.cells #[.string a, .string b] 29))) := (Below.refl _ w).alloc (Nat.le_refl _) _
  go_enter Try.func38, Try.ntmps38
  go_wp2
  go_ret
  exact ⟨ret_bool (by unfold leS; rw [Bool.not_or]), F.out⟩
/-- The first label with a greater name. -/
def IdxW (m : List Lb) (k : Nat) (w : World) (e : Ending) (w' : World) : Prop := ∃ i : Int, e = .returned (.int .i64 i) ∧ (k < m.length → i = k) ∧ (m.length ≤ k → i = -1) ∧ Below w.heap.size w w'
theorem lessN_step {n : ByteArray} {m : List Lb} {k : Nat} (hk : k < m.length) (hne : ∀ x ∈ m, eqS n x.n = false) : Op.bytesLess m[k].n.toList n.toList = leS m[k].n n := by
  have h := hne m[k] (List.getElem_mem hk)
  rw [eqS_comm] at h
  unfold eqS at h
  unfold leS
  rw [h, Bool.or_false]
set_option maxRecDepth 100000 in
set_option maxHeartbeats 2000000 in
theorem idxW_any (m : List Lb) (hm : m.length ≤ 100000) (n : ByteArray) (hne : ∀ x ∈ m, eqS n x.n = false) (A : Option Addr) (c bb : Nat) (w : World) (hL : LS w w.heap.size A m) (h : w.cell? ⟨bb, 0, none⟩ = some (.string n)) (hb : bb < w.heap.size) :
    Calls Try.prog 37 #[.slice A m.length c, .func (.func 38) #[] #[.pointer (some ⟨bb, 0, none⟩)]] w (IdxW m (lessN n m) w) := by
  have HL := Lib.hid hL
  have HN := Lib.hid hne
  have HC := Lib.hid h
  have HB := Lib.hid hb
  have S0 := Lib.hid (Less.start n m)
  have B0 : Hid (Below w.heap.size w w) := Below.refl _ _
  clear hL hne h hb
  go_enter Try.func37, Try.ntmps37
  go_wp2
  go_loopw [8] (fun vi wr => ∃ k : Nat, k ≤ m.length ∧ vi = .int .i64 (k : Int) ∧ Hid (Less n m k) ∧ Hid (Below w.heap.size w wr)) (fun vi _ => m.length - (intOf vi).toNat)
  case atStart => exact ⟨0, by omega, rfl, S0, B0⟩
  case round =>
    obtain ⟨k, hk, rfl, H, HW⟩ := hrel
    by_cases hlt : k < m.length
    · obtain ⟨bl, off, rfl, hbl, g1', g2'⟩ := HL.out.at_ hlt
      have g1 := (HW.out.cell (p := ⟨bl, off + k * 2, none⟩) hbl).trans g1'
      have g2 := (HW.out.cell (p := ⟨bl, off + k * 2 + 1, none⟩) hbl).trans g2'
      have hbw : bl < wr.heap.size := Nat.lt_of_lt_of_le hbl HW.out.size
      clear g1' g2'
      have C := Lib.hid (gtr_any m[k].n m[k].v n bb wr ((HW.out.cell (p := ⟨bb, 0, none⟩) HB.out).trans HC.out) (Nat.lt_of_lt_of_le HB.out HW.out.size))
      have hls := lessN_step hlt HN.out
      cases hle : leS m[k].n n with
      | true =>
        rw [hle] at C hls
        have HS := Lib.hid (H.out.next hlt hls)
        clear hle hls H
        generalize m[k] = x at *
        go_wp2_with (go_at_call 38; (with_reducible refine C.out.mono ?_); rintro e w2 ⟨rfl, hb⟩; have HW2 := Lib.hid (HW.out.trans (hb.mono HW.out.size)); clear hb)
        go_roundw
        case rel => exact ⟨k + 1, by omega, by go_num, HS, HW2⟩
        case measure => simp [intOf]; omega
      | false =>
        rw [hle] at C hls
        have HS := Lib.hid (H.out.stop hlt hls)
        clear hle hls H
        generalize m[k] = x at *
        go_wp2_with (go_at_call 38; (with_reducible refine C.out.mono ?_); rintro e w2 ⟨rfl, hb⟩; have HW2 := Lib.hid (HW.out.trans (hb.mono HW.out.size)); clear hb)
        go_ret
        exact ⟨_, rfl, fun _ => by rw [HS.out], fun h => by rw [HS.out] at h; omega, HW2.out⟩
    · obtain rfl : k = m.length := by omega
      have HS := Lib.hid H.out.done
      clear H
      go_wp2
      go_ret
      exact ⟨_, rfl, fun h => by rw [HS.out] at h; omega, fun _ => rfl, HW.out⟩
theorem drop_ne (n : ByteArray) (l : List Lb) : ∀ x ∈ keepL false [n] l, eqS n x.n = false := by
  intro x hx
  have h := (List.mem_filter.1 hx).2
  simpa [hasB] using h
set_option maxRecDepth 100000 in
set_option maxHeartbeats 4000000 in
theorem with_any (l : List Lb) (hl : l.length ≤ 1000) (A : Option Addr) (c : Nat) (n v : ByteArray) (w : World) (hL : LS w w.heap.size A l) :
    Calls Try.prog 15 #[.slice A l.length c, .string n, .string v] w (OwnPost (withL l n v) w) := by
  obtain ⟨W0, hW0⟩ : ∃ W0, w.alloc (.cells #[.string n] 9) = W0 := ⟨_, rfl⟩
  obtain ⟨W1, hW1⟩ : ∃ W1, W0.alloc (.cells #[.string n] 9) = W1 := ⟨_, rfl⟩
  have hs0 : W0.heap.size = w.heap.size + 1 := by rw [← hW0]; simp
  have hs1 : W1.heap.size = w.heap.size + 2 := by rw [← hW1]; simp [hs0]
  have hb0 : Below w.heap.size w W0 := by rw [← hW0]; exact (Below.refl _ w).alloc (Nat.le_refl _) _
  have hb1 : Below w.heap.size w W1 := by rw [← hW1]; exact hb0.alloc (by omega) _
  have hc0 : W0.cell? ⟨w.heap.size, 0, none⟩ = some (.string n) := by rw [← hW0]; exact World.cell?_alloc_at _ _ _ _ rfl
  have hc1 : W1.cell? ⟨w.heap.size, 0, none⟩ = some (.string n) := by rw [← hW1, World.cell?_alloc_past _ _ _ (by omega)]; exact hc0
  have hSS : SS W1 W1.heap.size (some ⟨W0.heap.size, 0, none⟩) [n] := by
    have h := names_one W0 n
    rw [hW1] at h
    exact h.more (by omega)
  have hm : (keepL false [n] l).length ≤ 1000 := Nat.le_trans (keepL_len _ _ _) hl
  have C21 : Hid (Calls Try.prog 21 #[.slice A l.length c, .slice (some ⟨W0.heap.size, 0, none⟩) 1 1] W1 (OwnPost (keepL false [n] l) W1)) :=
    drop_any l (by omega) A c [n] (by unfold maxLen; simp) _ 1 W1 ((hL.below hb1).more hb1.size) hSS
  have B1 := Lib.hid hb1
  have D1 := Lib.hid hc1
  have D0 := Lib.hid hc0
  have S0 := Lib.hid hs0
  have S1 := Lib.hid hs1
  have E0 := Lib.hid hW0
  have E1 := Lib.hid hW1
  have NE := Lib.hid (drop_ne n l)
  have WN : Hid (v.toList.isEmpty = true → withL l n v = keepL false [n] l) := withL_nil
  have WI : Hid (v.toList.isEmpty = false → withL l n v = insL (keepL false [n] l) (lessN n (keepL false [n] l)) ⟨n, v⟩) := withL_ins
  generalize keepL false [n] l = m at *
  clear hb1 hc1 hc0 hs0 hs1 hW0 hW1 hSS hL hb0
  cases he : v.toList.isEmpty with
  | true =>
    have HF := Lib.hid (WN.out he)
    go_enter Try.func15, Try.ntmps15
    go_wp2_with (go_at_call 21; rw [E0.out, E1.out, ← S0.out]; (with_reducible refine C21.out.mono ?_); rintro e w2 ⟨u, rfl, ho, hb⟩; have O2 := Lib.hid ho; have B2 := Lib.hid hb; obtain ⟨D, d, rfl, hl2⟩ := ho.form; have L2 := Lib.hid hl2; have F2 := Lib.hid ((hb.cell (p := ⟨w.heap.size, 0, none⟩) (by show w.heap.size < W1.heap.size; have := S1.out; omega)).trans D1.out); have G2 : Hid (w.heap.size < w2.heap.size) := (by have := S1.out; have := hb.size; omega : w.heap.size < w2.heap.size); clear ho hb hl2)
    go_ret
    rw [HF.out]
    exact ⟨_, rfl, O2.out.more B1.out.size, B1.out.trans (B2.out.mono B1.out.size)⟩
  | false =>
    have HF := Lib.hid (WI.out he)
    have hk := lessN_le n m
    obtain ⟨k, hkk⟩ : ∃ k, lessN n m = k := ⟨_, rfl⟩
    rw [hkk] at hk HF
    have CI : Hid (∀ D d V, LS V V.heap.size D m → V.cell? ⟨w.heap.size, 0, none⟩ = some (.string n) → w.heap.size < V.heap.size → Calls Try.prog 37 #[.slice D m.length d, .func (.func 38) #[] #[.pointer (some ⟨w.heap.size, 0, none⟩)]] V (IdxW m k V)) := fun D d V h1 h2 h3 => by
      rw [← hkk]; exact idxW_any m (by omega) n NE.out D d w.heap.size V h1 h2 h3
    have CX : Hid (∀ D d j w3, j ≤ m.length → Own5 w3 W1.heap.size (.slice D m.length d) m → W1.heap.size ≤ w3.heap.size → Calls Try.prog 39 #[.slice D m.length d, .int .i64 (j : Nat), .slice (some ⟨w3.heap.size, 0, none⟩) 1 1] (w3.alloc (.cells #[.string n, .string v] 29)) (Ins39Post m j ⟨n, v⟩ W1.heap.size (w3.alloc (.cells #[.string n, .string v] 29)))) := fun D d j w3 hj hO hB =>
      insert_any m (by omega) ⟨n, v⟩ j hj D d W1.heap.size w3.heap.size _ (hO.below ((Below.refl _ _).alloc (Nat.le_refl _) _)) (by simp; omega) (World.alloc_heap_new w3 _) (by simp) (fun g e => by have := (World.ownsRow.lt hO g e).2; omega)
    clear hkk WI WN NE
    rcases Nat.eq_or_lt_of_le hk with hkm | hkm
    · subst hkm
      go_enter Try.func15, Try.ntmps15
      go_wp2_with (first
        | (go_at_call 21; rw [E0.out, E1.out, ← S0.out]; (with_reducible refine C21.out.mono ?_); rintro e w2 ⟨u, rfl, ho, hb⟩; have O2 := Lib.hid ho; have B2 := Lib.hid hb; obtain ⟨D, d, rfl, hl2⟩ := ho.form; have L2 := Lib.hid hl2; have F2 := Lib.hid ((hb.cell (p := ⟨w.heap.size, 0, none⟩) (by show w.heap.size < W1.heap.size; have := S1.out; omega)).trans D1.out); have G2 : Hid (w.heap.size < w2.heap.size) := (by have := S1.out; have := hb.size; omega : w.heap.size < w2.heap.size); clear ho hb hl2)
        | (go_at_call 37; (with_reducible refine (CI.out _ _ _ L2.out F2.out G2.out).mono ?_); rintro e w3 ⟨i, rfl, hi1, hi2, hb⟩; obtain rfl := hi2 (Nat.le_refl _); have f3 := (hb.cell (p := ⟨w.heap.size, 0, none⟩) G2.out).trans F2.out; have g3 : w.heap.size < w3.heap.size := Nat.lt_of_lt_of_le G2.out hb.size; have B3 := Lib.hid (B2.out.trans (hb.mono B2.out.size)); have O3 := Lib.hid (O2.out.below hb); have CN := Lib.hid (CX.out D d m.length w3 (by omega) O3.out B3.out.size); clear hi1 hi2 hb)
        | (go_at_call 39; (with_reducible refine CN.out.mono ?_); rintro e w5 ⟨v', rfl, ho, hb⟩; have O5 := Lib.hid ho; have B5 := Lib.hid ((B3.out.alloc B3.out.size _).trans hb); clear ho hb))
      go_ret
      rw [HF.out]
      exact ⟨_, rfl, O5.out.more B1.out.size, B1.out.trans (B5.out.mono B1.out.size)⟩
    · have hkn : ¬ m.length ≤ k := by omega
      go_enter Try.func15, Try.ntmps15
      go_wp2_with (first
        | (go_at_call 21; rw [E0.out, E1.out, ← S0.out]; (with_reducible refine C21.out.mono ?_); rintro e w2 ⟨u, rfl, ho, hb⟩; have O2 := Lib.hid ho; have B2 := Lib.hid hb; obtain ⟨D, d, rfl, hl2⟩ := ho.form; have L2 := Lib.hid hl2; have F2 := Lib.hid ((hb.cell (p := ⟨w.heap.size, 0, none⟩) (by show w.heap.size < W1.heap.size; have := S1.out; omega)).trans D1.out); have G2 : Hid (w.heap.size < w2.heap.size) := (by have := S1.out; have := hb.size; omega : w.heap.size < w2.heap.size); clear ho hb hl2)
        | (go_at_call 37; (with_reducible refine (CI.out _ _ _ L2.out F2.out G2.out).mono ?_); rintro e w3 ⟨i, rfl, hi1, hi2, hb⟩; obtain rfl := hi1 hkm; have f3 := (hb.cell (p := ⟨w.heap.size, 0, none⟩) G2.out).trans F2.out; have g3 : w.heap.size < w3.heap.size := Nat.lt_of_lt_of_le G2.out hb.size; have B3 := Lib.hid (B2.out.trans (hb.mono B2.out.size)); have O3 := Lib.hid (O2.out.below hb); have CN := Lib.hid (CX.out D d k w3 (by omega) O3.out B3.out.size); clear hi1 hi2 hb)
        | (go_at_call 39; (with_reducible refine CN.out.mono ?_); rintro e w5 ⟨v', rfl, ho, hb⟩; have O5 := Lib.hid ho; have B5 := Lib.hid ((B3.out.alloc B3.out.size _).trans hb); clear ho hb))
      go_ret
      rw [HF.out]
      exact ⟨_, rfl, O5.out.more B1.out.size, B1.out.trans (B5.out.mono B1.out.size)⟩
end Go.Proofs.Ytbphhdmnfepbnaa.Lab
