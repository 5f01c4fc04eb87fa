/- Layer 6: parentheses, atom and factor of the program. -/
import Derived.Test.YtilfggnhaehbcaaPJ
set_option linter.unusedVariables false
set_option linter.unusedSimpArgs false
namespace Go.Proofs.Ytilfggnhaehbcaa.Rx
open Go.RowKit
theorem size5 : (Try.prog.info? 5).map (·.size) = some 1 := by kernel_rfl
set_option maxHeartbeats 4000000 in
set_option maxRecDepth 100000 in
theorem parens_any (ra : Nat) (s : ByteArray) (hs : s.size ≤ 1000) (IH : ∀ w, Rd w ra s false → Calls Try.prog 37 #[.pointer (some ⟨ra, 0, none⟩)] w (ExP ra s w)) (w : World) (hr : Rd w ra s false) : Calls Try.prog 75 #[.pointer (some ⟨ra, 0, none⟩)] w (FaP ParRel ra s w) := by
  have IH := Lib.hid IH
  have ZL := Lib.hid Z47_len
  have ZZ := Lib.hid zero47'
  generalize Z47 = Z at *
  have KR := Lib.hid hr
  have RL := Lib.hid hr.lt
  clear hr
  go_enter Try.func75, Try.ntmps75
  go_wp2_with (first
    | ((with_reducible refine wpList_alloc_abs (o := ⟨some 2, .alloc 47, _, _, _, _⟩) rfl 47 rfl Z ZZ.out ?_); intro g0 w0 e0 k0 b0 s0))
  refine (IH.out _ (KR.out.below b0.out)).mono ?_
  rintro e w1 ⟨x, v, s1, bb, rfl, V1, R1, b1, hs1, H1⟩
  have G0 : Hid (ra < g0 ∧ w.heap.size = g0 ∧ w0.heap.size = g0 + 1 ∧ w0.heap.size ≤ w1.heap.size) := ⟨by have := e0.out; have := RL.out; omega, e0.out, s0.out, b1.out.size⟩
  have k1 : Hid (Blk w1 g0 47 Z) := k0.out.but b1.out (by have := G0.out.1; omega)
  have W1 : Hid (But (· = ra) w w1) := (But.of_below b0.out).trans b1.out (fun _ _ h => h)
  obtain ⟨L, hL⟩ : ∃ L, L = facL none_ v false 0 0 := ⟨_, rfl⟩
  obtain ⟨hx0, bx, cap, hv, hbx, hal⟩ := V1.out
  have VC : Hid (v.cells = #[v] ∧ v.oneCell' = true) := by rw [hv]; exact ⟨rfl, rfl⟩
  have BL : Hid (Try.prog.built 47 [(1, v)] = some L.toArray) := by rw [hL]; exact built_sub v VC.out.1
  have HL : Hid (L.length = 260) := by rw [hL]; exact facL_len _ _ _ _ _
  have OL : Hid (∀ u ∈ L, u.oneCell' = true) := by rw [hL]; exact facL_one _ VC.out.2 _ _ _
  have PL : Hid (∀ (w2 : World) (T : Nat → Prop), ExV w2 T v x → PeV w2 T L (.sub x .one)) := fun w2 T h => by
    obtain ⟨h0, b, c, h1, h2, h3⟩ := h
    rw [PeV, hL, h1]
    exact ⟨h0, b, c, rfl, h2, h3⟩
  have X1 : Hid (ExV w1 (Fresh w0 w1) v x) := V1
  clear e0 k0 b0 s0 KR hL hx0 hv hbx hal V1
  have FIN : Hid (∀ (w2 w3 : World) (s' : ByteArray) (b' : Bool), But (· = ra) w1 w2 → Rd w2 ra s' b' → But (· = g0) w2 w3 → s'.size ≤ s.size → ParRel s.data.toList s'.data.toList b' (.sub x .one) → FaP ParRel ra s w (.returned (.agg L.toArray)) w3) := fun w2 w3 s' b' h1 h2 h3 h4 h5 => by
    have h6 := G0.out
    have B : But (fun n => n = ra ∨ n = g0) w1 w3 := (h1.mono (S' := fun n => n = ra ∨ n = g0) (fun _ _ h => .inl h)).trans h3 (fun _ _ h => .inr h)
    refine ⟨_, L, s', b', rfl, PL.out _ _ (X1.out.on B (fun n hn => by rcases hn with rfl | rfl <;> omega) (by omega)), h2.but h3 (by omega), ?_, h4, h5⟩
    exact (W1.out.trans h1 (fun _ _ h => h)).row h3 (fun h => by omega)
  clear X1 PL W1
  go_wp2_with fail
  refine (skip_any ⟨#[41]⟩ ra s1 bb (by omega) _ R1.out).mono ?_
  intro e w2 hsk
  obtain ⟨h1, h2, h3, -⟩ := hsk
  have B2 := Lib.hid h3
  have k2 : Hid (Blk w2 g0 47 Z) := k1.out.but h3 (by have := G0.out.1; omega)
  cases hb : beg [41] s1.data.toList with
  | true =>
    obtain ⟨rfl, h4⟩ := h1 hb
    have R2 := Lib.hid h4
    have hz := beg_pos hb
    have HR : Hid ((s1.extract 1 s1.size).size ≤ s.size ∧ ParRel s.data.toList (s1.extract 1 s1.size).data.toList false (.sub x .one) ∧ bb = false) := by
      have hbb : bb = false := by
        cases bb with
        | false => rfl
        | true => have := empty_size (H1.out.no rfl).2; omega
      refine ⟨by rw [ByteArray.size_extract]; omega, ?_, hbb⟩
      obtain ⟨r, hr⟩ := beg_one hb
      have hd := data_cons hz
      rw [hd] at hr
      injection hr with e1 e2
      have h := H1.out
      rw [hbb, hd, e1] at h
      exact par_ok h
    obtain rfl := HR.out.2.2
    clear h1 h2 h3 h4 hb H1
    go_wp2_with (first
    | ((with_reducible refine wpList_build_abs (o := ⟨_, .build 47 _, _, _, _, _⟩) rfl 47 _ rfl [(1, v)] ?_ L BL.out ?_); (· first | (simp; done) | (simp; rfl) | (simp; exact ⟨rfl, rfl⟩)))
    | ((with_reducible refine wpList_store_abs (o := ⟨_, .store 47 (.tmp 2) (.tmp 12), _, _, _, _⟩) rfl 47 _ _ rfl rfl g0 L ?_ ?_ 47 Z k2.out 260 size47 HL.out ZL.out OL.out ?_); (· rfl); (· rfl); intro w3 k3 b3 s3))
    refine bodyPost_ret (results_cell_row rfl _ _ g0 47 L.toArray (0, 0) _ rfl k3.out Try.underlying47 rfl (by simpa [HL.out] using size47)) rfl ?_
    exact FIN.out w2 w3 _ false B2.out R2.out b3.out HR.out.1 HR.out.2.1
  | false =>
    obtain ⟨rfl, h4⟩ := h2 hb
    have R2 := Lib.hid h4
    have HR : Hid (ParRel s.data.toList [] true (.sub x .one)) := par_no H1.out hb
    clear h1 h2 h3 h4 hb H1
    go_wp2_with (first
    | (go_at_call 69; (with_reducible refine (fail_rel ra s1 bb _ R2.out).mono ?_); rintro e w4 ⟨rfl, R4, b4, z4⟩)
    | ((with_reducible refine wpList_build_abs (o := ⟨_, .build 47 _, _, _, _, _⟩) rfl 47 _ rfl [(1, v)] ?_ L BL.out ?_); (· first | (simp; done) | (simp; rfl) | (simp; exact ⟨rfl, rfl⟩)))
    | ((with_reducible refine wpList_store_abs (o := ⟨_, .store 47 (.tmp 2) (.tmp 12), _, _, _, _⟩) rfl 47 _ _ rfl rfl g0 L ?_ ?_ 47 Z (k2.out.but b4.out (by have := G0.out.1; omega)) 260 size47 HL.out ZL.out OL.out ?_); (· rfl); (· rfl); intro w5 k5 b5 s5))
    refine bodyPost_ret (results_cell_row rfl _ _ g0 47 L.toArray (0, 0) _ rfl k5.out Try.underlying47 rfl (by simpa [HL.out] using size47)) rfl ?_
    exact FIN.out w4 w5 ⟨#[]⟩ true (B2.out.trans b4.out (fun _ _ h => h)) R4.out b5.out (Nat.zero_le _) HR.out
set_option maxHeartbeats 4000000 in
set_option maxRecDepth 100000 in
theorem factor_any (ra : Nat) (s : ByteArray) (hs : s.size ≤ 1000) (IH : ∀ w, Rd w ra s false → Calls Try.prog 68 #[.pointer (some ⟨ra, 0, none⟩)] w (FaP AtomRel ra s w)) (w : World) (hr : Rd w ra s false) : Calls Try.prog 59 #[.pointer (some ⟨ra, 0, none⟩)] w (FaP FacRel ra s w) := by
  have IH := Lib.hid IH
  have ZL := Lib.hid Z47_len
  have ZZ := Lib.hid zero47'
  generalize Z47 = Z at *
  have KR := Lib.hid hr
  have RL := Lib.hid hr.lt
  clear hr
  go_enter Try.func59, Try.ntmps59
  go_wp2_with (first
    | ((with_reducible refine wpList_alloc_abs (o := ⟨some 2, .alloc 47, _, _, _, _⟩) rfl 47 rfl Z ZZ.out ?_); intro g0 w0 e0 k0 b0 s0))
  refine (IH.out _ (KR.out.below b0.out)).mono ?_
  rintro e w1 ⟨p, C, s1, bb, rfl, P1, R1, b1, hs1, H1⟩
  have G0 : Hid (ra < g0 ∧ w.heap.size = g0 ∧ w0.heap.size = g0 + 1 ∧ w0.heap.size ≤ w1.heap.size) := ⟨by have := e0.out; have := RL.out; omega, e0.out, s0.out, b1.out.size⟩
  have k1 : Hid (Blk w1 g0 47 Z) := k0.out.but b1.out (by have := G0.out.1; omega)
  have W1 : Hid (But (· = ra) w w1) := (But.of_below b0.out).trans b1.out (fun _ _ h => h)
  have HC := Lib.hid P1.out.len
  have FIN : Hid (∀ (w2 w3 : World) (s' : ByteArray) (q : Pe) (L : List Value) (g3 : Nat), But (fun n => n = ra ∨ n = g3) w1 w2 → w1.heap.size ≤ g3 → Rd w2 ra s' bb → But (· = g0) w2 w3 → s'.size ≤ s.size → FacRel s.data.toList s'.data.toList bb q → (∀ w T, PeV w T C p → PeV w T L q) → FaP FacRel ra s w (.returned (.agg L.toArray)) w3) := fun w2 w3 s' q L g3 h1 hg3 h2 h3 h4 h5 h7 => by
    have h6 := G0.out
    have B : But (fun n => (n = ra ∨ n = g3) ∨ n = g0) w1 w3 := (h1.mono (S' := fun n => (n = ra ∨ n = g3) ∨ n = g0) (fun _ _ h => .inl h)).trans h3 (fun _ _ h => .inr h)
    refine ⟨q, L, s', bb, rfl, h7 _ _ (P1.out.on B (fun n hn => by rcases hn with (rfl | rfl) | rfl <;> omega) (by omega)), h2.but h3 (by omega), ?_, h4, h5⟩
    refine (W1.out.trans h1 (S := (· = ra)) (fun n hn h => ?_)).row h3 (fun h => by omega)
    have := W1.out.size
    rcases h with rfl | rfl
    · rfl
    · omega
  clear e0 k0 b0 s0 KR P1
  go_wp2_with (first
    | ((with_reducible refine wpList_alloc_abs (o := ⟨some 3, .alloc 47, _, _, _, _⟩) rfl 47 rfl Z ZZ.out ?_); intro g2 w2 e2 k2 b2 s2)
    | ((with_reducible refine wpList_store_abs (o := ⟨_, .store 47 (.tmp 3) (.tmp 5), _, _, _, _⟩) rfl 47 _ _ rfl rfl g2 C ?_ ?_ 47 Z k2.out 260 size47 HC.out.1 ZL.out HC.out.2 ?_); (· rfl); (· rfl); intro w3 k3 b3 s3))
  have GS : Hid (w1.heap.size = g2) := e2.out
  have R3 : Hid (Rd w3 ra s1 bb) := (R1.out.below b2.out).but b3.out (by have := e2.out; have := R1.out.lt; omega)
  have K0 : Hid (Blk w3 g0 47 Z) := (k1.out.below b2.out k1.out.lt).but b3.out (by have := e2.out; have := k1.out.lt; omega)
  have B3 : Hid (But (fun n => n = ra ∨ n = g2) w1 w3) := (But.of_below b2.out).trans b3.out (fun _ _ h => .inr h)
  have G3 : Hid (ra ≠ g2 ∧ g0 ≠ g2 ∧ ra ≠ g0) := ⟨by have := e2.out; have := R1.out.lt; omega, by have := e2.out; have := k1.out.lt; omega, by have := G0.out.1; omega⟩
  clear e2 k2 b2 s2 k1 W1 R1 b3
  refine (begins_any ra ⟨#[42, 43, 63]⟩ s1 bb _ R3.out).mono ?_
  rintro e w' ⟨he, rfl⟩
  have he : e = .returned (.bool (beg [42, 43, 63] s1.data.toList)) := he
  cases hb : beg [42, 43, 63] s1.data.toList with
  | false =>
    rw [hb] at he
    subst he
    have HR := Lib.hid (fac_plain H1.out hb)
    clear hb H1
    go_wp2_with (first
    | ((with_reducible refine wpList_load_abs (o := ⟨_, .load 47 (.tmp 3), _, _, _, _⟩) rfl 47 _ rfl g2 0 ?_ C k3.out.range _ Try.underlying47 rfl 260 size47 HC.out.1 ?_); (· rfl))
    | ((with_reducible refine wpList_store_abs (o := ⟨_, .store 47 (.tmp 2) (.tmp 11), _, _, _, _⟩) rfl 47 _ _ rfl rfl g0 C ?_ ?_ 47 Z K0.out 260 size47 HC.out.1 ZL.out HC.out.2 ?_); (· rfl); (· rfl); intro w4 k4 b4 s4))
    refine bodyPost_ret (results_cell_row rfl _ _ g0 47 C.toArray (0, 0) _ rfl k4.out Try.underlying47 rfl (by simpa [HC.out.1] using size47)) rfl ?_
    exact FIN.out w3 w4 s1 p C g2 B3.out (by rw [GS.out]; exact Nat.le_refl _) R3.out b4.out hs1 HR.out (fun _ _ h => h)
  | true =>
    rw [hb] at he
    subst he
    have hz := beg_pos hb
    have HB := Lib.hid hb
    clear hb
    go_wp2_with fail
    refine (next_rel ra s1 bb (by omega) _ R3.out).mono ?_
    rintro e w4 ⟨c, s2, b2, rfl, R4, b4, z4, hs2, H2⟩
    obtain ⟨rfl, l2, rfl⟩ := H2.out.cons _ _ (data_cons hz)
    have HRP : Hid (rep s1[0] = true) := by rw [← rep_mem, ← beg_cons [42, 43, 63] hz]; exact HB.out
    have HR : Hid (FacRel s.data.toList s2.data.toList b2 (p.with (rpOf s1[0]))) := by
      have h := H1.out
      rw [data_cons hz, ← l2] at h
      exact fac_rep h HRP.out
    have HV : Hid (∀ w T, PeV w T C p → PeV w T (C.set 259 (.int .u8 (s1[0].toNat : Int))) (p.with (rpOf s1[0]))) := fun w T h => by
      have h := h.rep H1.out.one (rpOf s1[0])
      rw [rpOf_b HRP.out] at h
      exact h
    have hc := s1[0].toNat_lt
    have HL : Hid ((C.set 259 (.int .u8 (s1[0].toNat : Int))).length = 260) := by rw [List.length_set]; exact HC.out.1
    have OL : Hid (∀ u ∈ C.set 259 (.int .u8 (s1[0].toNat : Int)), u.oneCell' = true) := fun u hu => by
      rcases List.mem_or_eq_of_mem_set hu with h | rfl
      · exact HC.out.2 u h
      · rfl
    have k4 : Hid (Blk w4 g2 47 C) := k3.out.but b4.out (by have := G3.out; omega)
    have K4 : Hid (Blk w4 g0 47 Z) := K0.out.but b4.out (by have := G3.out; omega)
    have hlt : Hid (259 < C.length) := by show 259 < C.length; rw [HC.out.1]; decide
    obtain ⟨L, hL⟩ : ∃ L, L = C.set 259 (.int .u8 (s1[0].toNat : Int)) := ⟨_, rfl⟩
    rw [← hL] at HL OL HV
    have HLL := Lib.hid hL
    clear hL l2 H2 HB
    go_wp2_with (first
    | ((with_reducible refine wpList_store_cell (o := ⟨_, .store 5 (.tmp 10) (.tmp 9), _, _, _, _⟩) rfl 5 _ _ rfl rfl g2 259 (.int .u8 (s1[0].toNat : Int)) ?_ ?_ rfl 47 C k4.out hlt.out size5 ?_); (· rfl); (· rfl); intro w5 k5 b5 s5; have k5' : Hid (Blk w5 g2 47 L) := (by rw [HLL.out]; exact k5.out))
    | ((with_reducible refine wpList_load_abs (o := ⟨_, .load 47 (.tmp 3), _, _, _, _⟩) rfl 47 _ rfl g2 0 ?_ L k5'.out.range _ Try.underlying47 rfl 260 size47 HL.out ?_); (· rfl))
    | ((with_reducible refine wpList_store_abs (o := ⟨_, .store 47 (.tmp 2) (.tmp 11), _, _, _, _⟩) rfl 47 _ _ rfl rfl g0 L ?_ ?_ 47 Z (K4.out.but b5.out (by have := G3.out; omega)) 260 size47 HL.out ZL.out OL.out ?_); (· rfl); (· rfl); intro w6 k6 b6 s6))
    refine bodyPost_ret (results_cell_row rfl _ _ g0 47 L.toArray (0, 0) _ rfl k6.out Try.underlying47 rfl (by simpa [HL.out] using size47)) rfl ?_
    exact FIN.out w5 w6 s2 _ L g2 ((B3.out.trans b4.out (fun _ _ h => .inl h)).trans b5.out (fun _ _ h => .inr h)) (by rw [GS.out]; exact Nat.le_refl _) (R4.out.but b5.out (by have := G3.out; omega)) b6.out (by omega) HR.out HV.out
end Go.Proofs.Ytilfggnhaehbcaa.Rx
