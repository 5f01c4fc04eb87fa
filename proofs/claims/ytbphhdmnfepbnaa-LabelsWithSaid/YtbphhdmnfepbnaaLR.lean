/- Layer 5: label, list and Parse of the program. -/
import Derived.Laws.ResultCell
import Derived.Test.YtbphhdmnfepbnaaLQ
set_option linter.unusedVariables false
set_option linter.unusedSimpArgs false
namespace Go.Proofs.Ytbphhdmnfepbnaa.Lab
open Go.RowKit
theorem mk_self (t : ByteArray) : mkS t.data.toList = t := ba_ext (by unfold mkS; rw [ba_mk])
theorem info29b : (Try.prog.info? 29).map (fun i => i.size) = some 2 := by kernel_rfl
theorem res_lab {tmps : Array Value} {V : World} {g : Nat} {n v : ByteArray} {b : Bool} (hp : tmps.getD 2 undef = .pointer (some ⟨g, 0, none⟩)) (hb : tmps.getD 3 undef = .bool b) (hg : V.heap[g]? = some (.cells #[.string n, .string v] 29 (0, 0))) :
    (results Try.f66 tmps).run Try.prog V = .ok (.tuple #[.agg #[.string n, .string v], .bool b]) V := by
  have hl := run_loadVar_row (P := Try.prog) V g 29 29 #[.string n, .string v] (0, 0) _ hg Try.underlying29 rfl info29b
  rw [Array.getD_eq_getD_getElem?] at hp hb
  simp only [results, show Try.f66.results = #[.cell 2 29, .tmp 3] from rfl]
  simp [Sem.run_bind, hp, hb, asAddr, hl, Result.andThen, Sem.run_pure]
/-- What label holds. -/
structure LB (w : World) (bt ba : Nat) (s : ByteArray) (k : Nat) (n v : ByteArray) (V : World) : Prop where
  rs : RS bt ba s k V
  gr : w.grownBy V (some ba)
  blk : V.heap[w.heap.size]? = some (.cells #[.string n, .string v] 29 (0, 0))
theorem LB.step {w : World} {bt ba : Nat} {s : ByteArray} {k k' : Nat} {n v : ByteArray} {V V' : World} (h : LB w bt ba s k n v V) (hr : RS bt ba s k' V') (hg : V.grownBy V' (some ba)) : LB w bt ba s k' n v V' := by
  refine ⟨hr, grown_trans h.gr hg, (hg.block _ (Array.getElem?_eq_some_iff.1 h.blk).1 ?_).trans h.blk⟩
  intro e
  have h1 := h.blk
  rw [show w.heap.size = ba by injection e, h.rs.hk] at h1
  simp at h1
theorem LB.put {w : World} {bt ba : Nat} {s : ByteArray} {k : Nat} {n v : ByteArray} {V : World} (h : LB w bt ba s k n v V) (n' v' : ByteArray) : LB w bt ba s k n' v' ((V.setCell ⟨w.heap.size, 0, none⟩ (.string n')).setCell ⟨w.heap.size, 1, none⟩ (.string v')) := by
  have hne : ∀ b cs t, V.heap[b]? = some (.cells cs t (0, 0)) → t ≠ 29 → b ≠ w.heap.size := fun b cs t hb ht e => by
    rw [e, h.blk] at hb
    simp at hb
    exact ht hb.2.symm
  have hk : ∀ b, b ≠ w.heap.size → ((V.setCell ⟨w.heap.size, 0, none⟩ (.string n')).setCell ⟨w.heap.size, 1, none⟩ (.string v')).heap[b]? = V.heap[b]? := fun b hb => by
    rw [Below.heap_setCell _ _ _ _ hb, Below.heap_setCell _ _ _ _ hb]
  refine ⟨⟨(hk _ (hne _ _ _ h.rs.hs (by decide))).trans h.rs.hs, (hk _ (hne _ _ _ h.rs.hk (by decide))).trans h.rs.hk, h.rs.le⟩, ?_, ?_⟩
  · exact ⟨h.gr.os, h.gr.tape, h.gr.output, by simp [World.setCell]; exact h.gr.size, fun b hb hne' => (hk b (by omega)).trans (h.gr.block b hb hne')⟩
  · simp [World.setCell, Array.getElem?_modify, h.blk]
theorem LB.cells {w : World} {bt ba : Nat} {s : ByteArray} {k : Nat} {n v : ByteArray} {V : World} (h : LB w bt ba s k n v V) : V.cell? ⟨w.heap.size, 0, none⟩ = some (.string n) ∧ V.cell? ⟨w.heap.size, 1, none⟩ = some (.string v) ∧ V.frozen? ⟨w.heap.size, 0, none⟩ = false ∧ V.frozen? ⟨w.heap.size, 1, none⟩ = false := by
  refine ⟨?_, ?_, ?_, ?_⟩
  · simp [World.cell?, h.blk]
  · simp [World.cell?, h.blk]
  · simp [World.frozen?, h.blk]
  · simp [World.frozen?, h.blk]
structure LabOK (u : Option (Lb × List UInt8)) (n v : ByteArray) (b : Bool) (r : List UInt8) : Prop where
  yes : b = true → u = some (⟨n, v⟩, r)
  no : b = false → u = none
def LabPost (u : Option (Lb × List UInt8)) (bt ba : Nat) (s : ByteArray) (w : World) (e : Ending) (w' : World) : Prop :=
  ∃ n v b k', e = .returned (.tuple #[.agg #[.string n, .string v], .bool b]) ∧ RS bt ba s k' w' ∧ w.grownBy w' (some ba) ∧ LabOK u n v b (s.data.toList.drop k')
theorem labP_zero {l : List UInt8} (h : lead letterB l = 0) : labP l = none := by unfold labP; rw [if_pos h]
theorem labP_no {l : List UInt8} (h : ∀ r, l.drop (lead letterB l) ≠ 61 :: 34 :: r) : labP l = none := by
  unfold labP
  split
  · rfl
  · split
    · rename_i c d r he
      rw [if_neg]
      rintro ⟨h1, h2⟩
      exact h r (by rw [he, show c = 61 from UInt8.toNat_inj.1 h1, show d = 34 from UInt8.toNat_inj.1 h2])
    · rfl
theorem labP_yes {l r : List UInt8} (h0 : lead letterB l ≠ 0) (h : l.drop (lead letterB l) = 61 :: 34 :: r) : labP l = (unq r).map (fun p => (⟨mkS (l.take (lead letterB l)), mkS p.1⟩, p.2)) := by
  unfold labP
  rw [if_neg h0, h]
  rfl
set_option maxRecDepth 100000 in
set_option maxHeartbeats 4000000 in
theorem label_any (bt ba : Nat) (s : ByteArray) (hs : s.size ≤ 1000000) (k : Nat) (w : World) (H : RS bt ba s k w) :
    Calls Try.prog 66 #[.func (.func 64) #[] #[.pointer (some ⟨ba, 0, none⟩), .pointer (some ⟨bt, 0, none⟩)]] w (LabPost (labP (s.data.toList.drop k)) bt ba s w) := by
  have L0 : Hid (LB w bt ba s k ⟨#[]⟩ ⟨#[]⟩ (w.alloc (.cells #[.string ⟨#[]⟩, .string ⟨#[]⟩] 29))) :=
    ⟨H.below ((Below.refl _ _).alloc (Nat.le_refl _) _), grown_below ((Below.refl _ _).alloc (Nat.le_refl _) _), World.alloc_heap_new w _⟩
  have LE := Lib.hid H.le
  obtain ⟨u, hu⟩ : ∃ u, u = labP (s.data.toList.drop k) := ⟨_, rfl⟩
  have HU := Lib.hid hu
  rw [← hu]
  clear H hu
  go_enter Try.func66, Try.ntmps66
  go_wp2_with fail
  refine (nextWord bt ba s hs k _ L0.out.rs).mono ?_
  rintro e w1 ⟨rfl, hR, hG⟩
  obtain ⟨n1, hn1⟩ : ∃ n1, n1 = lead letterB (s.data.toList.drop k) := ⟨_, rfl⟩
  rw [← hn1] at hR ⊢
  have L1 := Lib.hid (L0.out.step hR hG)
  have HN1 := Lib.hid hn1
  have hlen := ext_len s hR.le
  obtain ⟨t1, ht1⟩ : ∃ t1, t1 = s.extract k (k + n1) := ⟨_, rfl⟩
  rw [← ht1] at hlen ⊢
  have T1 : Hid (t1 = mkS ((s.data.toList.drop k).take n1)) := by rw [← ext_take, mk_self]; exact ht1
  clear hR hG ht1 hn1 L0
  rcases Nat.eq_zero_or_pos n1 with h0 | h0
  · have he := emp_true (s := t1) (by omega)
    have OK : Hid (LabOK u ⟨#[]⟩ ⟨#[]⟩ false (s.data.toList.drop (k + n1))) := by
      refine ⟨fun h => (by cases h), fun _ => ?_⟩
      rw [HU.out, labP_zero (by rw [← HN1.out]; exact h0)]
    obtain ⟨c0, c1, c2, c3⟩ := L1.out.cells
    have L2 := Lib.hid (L1.out.put ⟨#[]⟩ ⟨#[]⟩)
    clear h0 hlen
    go_wp2
    refine bodyPost_ret (res_lab rfl rfl L2.out.blk) rfl ?_
    exact ⟨_, _, _, _, rfl, L2.out.rs, L2.out.gr, OK.out⟩
  · have he := emp_false (s := t1) (by omega)
    by_cases hq : ∃ r, s.data.toList.drop (k + n1) = 61 :: 34 :: r
    · have P1 := pre2_iff.2 hq
      obtain ⟨r, hr⟩ := hq
      have HR := Lib.hid hr
      have HUV : Hid (u = (unq r).map (fun p => (⟨t1, mkS p.1⟩, p.2))) := by
        rw [HU.out, labP_yes (by rw [← HN1.out]; omega) (by rw [← HN1.out, List.drop_drop]; exact hr), ← HN1.out, T1.out]
        rfl
      have HD2 : Hid (s.data.toList.drop (k + n1 + 2) = r) := by rw [← List.drop_drop, hr]; rfl
      clear hr
      go_wp2_with fail
      refine (skip_any bt ba s hs (k + n1) ⟨#[61, 34]⟩ (by show 0 < 2; omega) (by show 2 ≤ 1000000; omega) w1 L1.out.rs).mono ?_
      rintro e w2 ⟨rfl, hR, hG⟩
      rw [P1] at hR ⊢
      have L2 : Hid (LB w bt ba s (k + n1 + 2) ⟨#[]⟩ ⟨#[]⟩ w2) := L1.out.step hR hG
      clear hR hG P1 L1
      go_wp2_with fail
      refine (value_any bt ba s hs (k + n1 + 2) w2 L2.out.rs).mono ?_
      rintro e w3 ⟨t, b, k', rfl, hR, hG, hV⟩
      have L3 := Lib.hid (L2.out.step hR hG)
      rw [HD2.out] at hV
      have OK : Hid (LabOK u t1 t b (s.data.toList.drop k')) := by
        refine ⟨fun h => ?_, fun h => ?_⟩
        · rw [HUV.out, hV.yes h]
          simp only [Option.map_some]
          rw [mk_self]
        · rw [HUV.out, hV.no h]; rfl
      clear hR hG hV L2
      obtain ⟨c0, c1, c2, c3⟩ := L3.out.cells
      have L4 := Lib.hid (L3.out.put t1 t)
      go_wp2
      refine bodyPost_ret (res_lab rfl rfl L4.out.blk) rfl ?_
      exact ⟨_, _, _, _, rfl, L4.out.rs, L4.out.gr, OK.out⟩
    · have P1 : preS (s.extract (k + n1) s.size) ⟨#[61, 34]⟩ = false := by rw [← Bool.not_eq_true, pre2_iff]; exact hq
      have OK : Hid (LabOK u ⟨#[]⟩ ⟨#[]⟩ false (s.data.toList.drop (k + n1))) := by
        refine ⟨fun h => (by cases h), fun _ => ?_⟩
        rw [HU.out, labP_no (fun r hr => hq ⟨r, by rw [← HN1.out, List.drop_drop] at hr; exact hr⟩)]
      clear hq
      go_wp2_with fail
      refine (skip_any bt ba s hs (k + n1) ⟨#[61, 34]⟩ (by show 0 < 2; omega) (by show 2 ≤ 1000000; omega) w1 L1.out.rs).mono ?_
      rintro e w2 ⟨rfl, hR, hG⟩
      rw [P1] at hR ⊢
      have L2 : Hid (LB w bt ba s (k + n1) ⟨#[]⟩ ⟨#[]⟩ w2) := L1.out.step hR hG
      clear hR hG P1 L1
      obtain ⟨c0, c1, c2, c3⟩ := L2.out.cells
      have L3 := Lib.hid (L2.out.put ⟨#[]⟩ ⟨#[]⟩)
      go_wp2
      refine bodyPost_ret (res_lab rfl rfl L3.out.blk) rfl ?_
      exact ⟨_, _, _, _, rfl, L3.out.rs, L3.out.gr, OK.out⟩
end Go.Proofs.Ytbphhdmnfepbnaa.Lab
