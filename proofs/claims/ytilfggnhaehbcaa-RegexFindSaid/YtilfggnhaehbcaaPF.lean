/- Layer 6: escape of the program. -/
import Derived.Test.YtilfggnhaehbcaaPE
set_option linter.unusedVariables false
set_option linter.unusedSimpArgs false
namespace Go.Proofs.Ytilfggnhaehbcaa.Rx
open Go.RowKit
set_option maxHeartbeats 4000000 in
set_option maxRecDepth 100000 in
theorem escape_any (ra : Nat) (s : ByteArray) (hs : s.size ≤ 1000) (w : World) (hr : Rd w ra s false) : Calls Try.prog 78 #[.pointer (some ⟨ra, 0, none⟩)] w (EscP ra s w) := by
  have ZL := Lib.hid Z47_len
  have ZZ := Lib.hid zero47'
  have BZ : Hid (Try.prog.built 47 [] = some Z47.toArray) := built_zero
  have OZ : Hid (∀ v ∈ Z47, v.oneCell' = true) := facL_one _ rfl _ _ _
  have PZ : Hid (∀ w, PeV w (fun _ => False) Z47 (.cls none_ .one)) := fun w => by rw [PeV]; rfl
  generalize Z47 = Z at *
  have KR := Lib.hid hr
  have RL := Lib.hid hr.lt
  clear hr
  go_enter Try.func78, Try.ntmps78
  go_wp2_with ((with_reducible refine wpList_alloc_abs (o := ⟨some 2, .alloc 47, _, _, _, _⟩) rfl 47 rfl Z ZZ.out ?_); intro g0 w0 e0 k0 b0 s0)
  refine (next_rel ra s false hs _ (KR.out.but (S := fun _ => False) (But.of_below b0.out) (by simp))).mono ?_
  rintro e w1 ⟨c, s1, bb, rfl, R1, b1, z1, hs1, H1⟩
  have k1 : Hid (Blk w1 g0 47 Z) := k0.out.but b1.out (by have := e0.out; have := RL.out; omega)
  have W1 : Hid (But (· = ra) w w1) := (But.of_below b0.out).trans b1.out (fun _ _ h => h)
  have G0 : Hid (ra < g0 ∧ w.heap.size = g0) := ⟨by have := e0.out; have := RL.out; omega, e0.out⟩
  have FIN : Hid (∀ (w2 w3 : World) (s' : ByteArray) (b' : Bool) (L : List Value) (p : Pe), But (· = ra) w w2 → Rd w2 ra s' b' → But (· = g0) w2 w3 → (∀ w, PeV w (fun _ => False) L p) → s'.size ≤ s.size → EscRel s.data.toList s'.data.toList b' p → EscP ra s w (.returned (.agg L.toArray)) w3) :=
    fun w2 w3 s' b' L p hb hR hg hp hs' hrel => ⟨p, L, s', b', rfl, hp _, hR.but hg (by have := G0.out; omega), hb.row hg (fun h => by have := G0.out; omega), hs', hrel⟩
  clear e0 k0 b0 s0 b1 z1 KR
  have hc := c.toNat_lt
  by_cases h110 : c = 110
  · subst h110
    obtain ⟨L, hL⟩ : ∃ L, L = facL (fun x => x == 10) (.slice none 0 0) true 10 0 := ⟨_, rfl⟩
    have CL : Hid (∀ w, Calls Try.prog 79 #[.int .u8 (10 : Int)] w fun e w' => e = .returned (.agg L.toArray) ∧ Hid (Below w.heap.size w w')) := fun w => by rw [hL]; exact literal_any 10 w
    have HL : Hid (L.length = 260) := by rw [hL]; exact facL_len _ _ _ _ _
    have OL : Hid (∀ v ∈ L, v.oneCell' = true) := by rw [hL]; exact facL_one _ rfl _ _ _
    have PL : Hid (∀ w, PeV w (fun _ => False) L (.byte 10 .one)) := fun w => by rw [PeV]; exact hL
    have HR : Hid (EscRel s.data.toList s1.data.toList bb (.byte 10 .one)) := EscRel.of H1.out (fun _ => (by rfl)) (.inl ⟨_, rfl⟩) (by rfl)
    clear hL H1 
    go_wp2_with (first
    | (go_at_call 79; (with_reducible refine (CL.out _).mono ?_); rintro e w2 ⟨rfl, b2⟩)
    | ((with_reducible refine wpList_store_abs (o := ⟨_, .store 47 (.tmp 2) (.tmp 11), _, _, _, _⟩) rfl 47 _ _ rfl rfl g0 L ?_ ?_ 47 Z (k1.out.below b2.out k1.out.lt) 260 size47 HL.out ZL.out OL.out ?_); (· rfl); (· rfl); intro w3 k3 b3 s3))
    refine bodyPost_ret (results_cell_row rfl _ _ g0 47 L.toArray (0, 0) _ rfl k3.out Try.underlying47 rfl (by simpa [HL.out] using size47)) rfl ?_
    exact FIN.out w2 w3 s1 bb L _ (W1.out.add b2.out) (R1.out.below b2.out) b3.out PL.out hs1 HR.out
  have t110 : ((c.toNat : Int) == 110) = false := by simp; exact fun h => h110 (UInt8.toNat_inj.1 (by rw [show ((110 : UInt8)).toNat = 110 from rfl]; omega))
  by_cases h116 : c = 116
  · subst h116
    obtain ⟨L, hL⟩ : ∃ L, L = facL (fun x => x == 9) (.slice none 0 0) true 9 0 := ⟨_, rfl⟩
    have CL : Hid (∀ w, Calls Try.prog 79 #[.int .u8 (9 : Int)] w fun e w' => e = .returned (.agg L.toArray) ∧ Hid (Below w.heap.size w w')) := fun w => by rw [hL]; exact literal_any 9 w
    have HL : Hid (L.length = 260) := by rw [hL]; exact facL_len _ _ _ _ _
    have OL : Hid (∀ v ∈ L, v.oneCell' = true) := by rw [hL]; exact facL_one _ rfl _ _ _
    have PL : Hid (∀ w, PeV w (fun _ => False) L (.byte 9 .one)) := fun w => by rw [PeV]; exact hL
    have HR : Hid (EscRel s.data.toList s1.data.toList bb (.byte 9 .one)) := EscRel.of H1.out (fun _ => (by rfl)) (.inl ⟨_, rfl⟩) (by rfl)
    clear hL H1 h110
    go_wp2_with (first
    | (go_at_call 79; (with_reducible refine (CL.out _).mono ?_); rintro e w2 ⟨rfl, b2⟩)
    | ((with_reducible refine wpList_store_abs (o := ⟨_, .store 47 (.tmp 2) (.tmp 15), _, _, _, _⟩) rfl 47 _ _ rfl rfl g0 L ?_ ?_ 47 Z (k1.out.below b2.out k1.out.lt) 260 size47 HL.out ZL.out OL.out ?_); (· rfl); (· rfl); intro w3 k3 b3 s3))
    refine bodyPost_ret (results_cell_row rfl _ _ g0 47 L.toArray (0, 0) _ rfl k3.out Try.underlying47 rfl (by simpa [HL.out] using size47)) rfl ?_
    exact FIN.out w2 w3 s1 bb L _ (W1.out.add b2.out) (R1.out.below b2.out) b3.out PL.out hs1 HR.out
  have t116 : ((c.toNat : Int) == 116) = false := by simp; exact fun h => h116 (UInt8.toNat_inj.1 (by rw [show ((116 : UInt8)).toNat = 116 from rfl]; omega))
  by_cases h100 : c = 100
  · subst h100
    obtain ⟨L, hL⟩ : ∃ L, L = facL digit (.slice none 0 0) false 0 0 := ⟨_, rfl⟩
    have BL : Hid (Try.prog.built 47 [(0, .agg (clsC digit).toArray)] = some L.toArray) := by rw [hL]; exact built_cls _
    have HL : Hid (L.length = 260) := by rw [hL]; exact facL_len _ _ _ _ _
    have OL : Hid (∀ v ∈ L, v.oneCell' = true) := by rw [hL]; exact facL_one _ rfl _ _ _
    have PL : Hid (∀ w, PeV w (fun _ => False) L (.cls digit .one)) := fun w => by rw [PeV]; exact hL
    have HR : Hid (EscRel s.data.toList s1.data.toList bb (.cls digit .one)) := EscRel.of H1.out (fun _ => (by rfl)) (.inr ⟨_, rfl⟩) (by rfl)
    have CL := Lib.hid (fun w => ranges_digit w)
    unfold SetPost at CL
    generalize clsC digit = CC at CL BL
    clear hL H1 h110 h116
    go_wp2_with (first
    | (go_at_call 77; (with_reducible refine (CL.out _).mono ?_); rintro e w2 ⟨rfl, b2⟩)
    | ((with_reducible refine wpList_build_abs (o := ⟨_, .build 47 _, _, _, _, _⟩) rfl 47 _ rfl [(0, .agg CC.toArray)] ?_ L BL.out ?_); (· first | (simp; done) | (simp; rfl) | (simp; exact ⟨rfl, rfl⟩)))
    | ((with_reducible refine wpList_store_abs (o := ⟨_, .store 47 (.tmp 2) (.tmp 20), _, _, _, _⟩) rfl 47 _ _ rfl rfl g0 L ?_ ?_ 47 Z (k1.out.below b2.out k1.out.lt) 260 size47 HL.out ZL.out OL.out ?_); (· rfl); (· rfl); intro w3 k3 b3 s3))
    refine bodyPost_ret (results_cell_row rfl _ _ g0 47 L.toArray (0, 0) _ rfl k3.out Try.underlying47 rfl (by simpa [HL.out] using size47)) rfl ?_
    exact FIN.out w2 w3 s1 bb L _ (W1.out.add b2.out) (R1.out.below b2.out) b3.out PL.out hs1 HR.out
  have t100 : ((c.toNat : Int) == 100) = false := by simp; exact fun h => h100 (UInt8.toNat_inj.1 (by rw [show ((100 : UInt8)).toNat = 100 from rfl]; omega))
  by_cases h119 : c = 119
  · subst h119
    obtain ⟨L, hL⟩ : ∃ L, L = facL word (.slice none 0 0) false 0 0 := ⟨_, rfl⟩
    have BL : Hid (Try.prog.built 47 [(0, .agg (clsC word).toArray)] = some L.toArray) := by rw [hL]; exact built_cls _
    have HL : Hid (L.length = 260) := by rw [hL]; exact facL_len _ _ _ _ _
    have OL : Hid (∀ v ∈ L, v.oneCell' = true) := by rw [hL]; exact facL_one _ rfl _ _ _
    have PL : Hid (∀ w, PeV w (fun _ => False) L (.cls word .one)) := fun w => by rw [PeV]; exact hL
    have HR : Hid (EscRel s.data.toList s1.data.toList bb (.cls word .one)) := EscRel.of H1.out (fun _ => (by rfl)) (.inr ⟨_, rfl⟩) (by rfl)
    have CL := Lib.hid (fun w => ranges_word w)
    unfold SetPost at CL
    generalize clsC word = CC at CL BL
    clear hL H1 h110 h116 h100
    go_wp2_with (first
    | (go_at_call 77; (with_reducible refine (CL.out _).mono ?_); rintro e w2 ⟨rfl, b2⟩)
    | ((with_reducible refine wpList_build_abs (o := ⟨_, .build 47 _, _, _, _, _⟩) rfl 47 _ rfl [(0, .agg CC.toArray)] ?_ L BL.out ?_); (· first | (simp; done) | (simp; rfl) | (simp; exact ⟨rfl, rfl⟩)))
    | ((with_reducible refine wpList_store_abs (o := ⟨_, .store 47 (.tmp 2) (.tmp 25), _, _, _, _⟩) rfl 47 _ _ rfl rfl g0 L ?_ ?_ 47 Z (k1.out.below b2.out k1.out.lt) 260 size47 HL.out ZL.out OL.out ?_); (· rfl); (· rfl); intro w3 k3 b3 s3))
    refine bodyPost_ret (results_cell_row rfl _ _ g0 47 L.toArray (0, 0) _ rfl k3.out Try.underlying47 rfl (by simpa [HL.out] using size47)) rfl ?_
    exact FIN.out w2 w3 s1 bb L _ (W1.out.add b2.out) (R1.out.below b2.out) b3.out PL.out hs1 HR.out
  have t119 : ((c.toNat : Int) == 119) = false := by simp; exact fun h => h119 (UInt8.toNat_inj.1 (by rw [show ((119 : UInt8)).toNat = 119 from rfl]; omega))
  have CA := Lib.hid (fun w => ranges_alnum w)
  have IX := Lib.hid (fun w => idx45 alnum c w)
  unfold SetPost at CA
  generalize clsC alnum = CC at CA IX
  cases ha : alnum c with
  | true =>
    have HR : Hid (EscRel s.data.toList [] true (.cls none_ .one)) := EscRel.bad H1.out (by unfold escRe; rw [if_neg h100, if_neg h119]; unfold esc; rw [if_neg h110, if_neg h116, if_pos ha]; rfl)
    rw [ha] at IX
    have HX := IX.out
    clear ha H1 h110 h116 h100 h119
    go_wp2_with (first
    | (go_at_call 77; (with_reducible refine (CA.out _).mono ?_); rintro e w2 ⟨rfl, b2⟩)
    | (go_at_call 69; (with_reducible refine (fail_rel ra s1 bb _ (R1.out.below b2.out)).mono ?_); rintro e w3 ⟨rfl, R3, b3, s3⟩)
    | ((with_reducible refine wpList_build_abs (o := ⟨_, .build 47 _, _, _, _, _⟩) rfl 47 _ rfl [] ?_ Z BZ.out ?_); (· first | (simp; done) | (simp; rfl) | (simp; exact ⟨rfl, rfl⟩)))
    | ((with_reducible refine wpList_store_abs (o := ⟨_, .store 47 (.tmp 2) (.tmp 32), _, _, _, _⟩) rfl 47 _ _ rfl rfl g0 Z ?_ ?_ 47 Z ((k1.out.below b2.out k1.out.lt).but b3.out (by have := G0.out; omega)) 260 size47 ZL.out ZL.out OZ.out ?_); (· rfl); (· rfl); intro w4 k4 b4 s4))
    refine bodyPost_ret (results_cell_row rfl _ _ g0 47 Z.toArray (0, 0) _ rfl k4.out Try.underlying47 rfl (by simpa [ZL.out] using size47)) rfl ?_
    exact FIN.out w3 w4 ⟨#[]⟩ true Z _ ((W1.out.add b2.out).trans b3.out (fun _ _ h => h)) R3.out b4.out PZ.out (Nat.zero_le _) HR.out
  | false =>
    rw [ha] at IX
    have HX := IX.out
    have he : escRe c = some (reF (.byte c .one)) := esc_byte h100 h119 (by unfold esc; rw [if_neg h110, if_neg h116, if_neg (by rw [ha]; decide)])
    clear ha
    obtain ⟨L, hL⟩ : ∃ L, L = facL (fun x => x == c) (.slice none 0 0) true c 0 := ⟨_, rfl⟩
    have CL : Hid (∀ w, Calls Try.prog 79 #[.int .u8 (c.toNat : Int)] w fun e w' => e = .returned (.agg L.toArray) ∧ Hid (Below w.heap.size w w')) := fun w => by rw [hL]; exact literal_any c w
    have HL : Hid (L.length = 260) := by rw [hL]; exact facL_len _ _ _ _ _
    have OL : Hid (∀ v ∈ L, v.oneCell' = true) := by rw [hL]; exact facL_one _ rfl _ _ _
    have PL : Hid (∀ w, PeV w (fun _ => False) L (.byte c .one)) := fun w => by rw [PeV]; exact hL
    have HR : Hid (EscRel s.data.toList s1.data.toList bb (.byte c .one)) := EscRel.of H1.out (fun _ => he) (.inl ⟨_, rfl⟩) he
    clear hL H1 h110 h116 h100 h119 he
    go_wp2_with (first
    | (go_at_call 77; (with_reducible refine (CA.out _).mono ?_); rintro e w5 ⟨rfl, b5⟩)
    | (go_at_call 79; (with_reducible refine (CL.out _).mono ?_); rintro e w2 ⟨rfl, b2⟩)
    | ((with_reducible refine wpList_store_abs (o := ⟨_, .store 47 (.tmp 2) (.tmp 7), _, _, _, _⟩) rfl 47 _ _ rfl rfl g0 L ?_ ?_ 47 Z ((k1.out.below b5.out k1.out.lt).below b2.out (k1.out.below b5.out k1.out.lt).lt) 260 size47 HL.out ZL.out OL.out ?_); (· rfl); (· rfl); intro w3 k3 b3 s3))
    refine bodyPost_ret (results_cell_row rfl _ _ g0 47 L.toArray (0, 0) _ rfl k3.out Try.underlying47 rfl (by simpa [HL.out] using size47)) rfl ?_
    exact FIN.out w2 w3 s1 bb L _ ((W1.out.add b5.out).add b2.out) ((R1.out.below b5.out).below b2.out) b3.out PL.out hs1 HR.out
end Go.Proofs.Ytilfggnhaehbcaa.Rx
