/- Layer 6: atom of the program. -/
import Derived.Test.YtilfggnhaehbcaaPK
set_option linter.unusedVariables false
set_option linter.unusedSimpArgs false
namespace Go.Proofs.Ytilfggnhaehbcaa.Rx
open Go.RowKit
set_option maxHeartbeats 4000000 in
set_option maxRecDepth 100000 in
theorem atom_any (ra : Nat) (s : ByteArray) (hs : s.size ≤ 1000) (h0 : 0 < s.size) (IH : ∀ (s' : ByteArray) w, s'.size < s.size → Rd w ra s' false → Calls Try.prog 37 #[.pointer (some ⟨ra, 0, none⟩)] w (ExP ra s' w)) (w : World) (hr : Rd w ra s false) : Calls Try.prog 68 #[.pointer (some ⟨ra, 0, none⟩)] w (FaP AtomRel ra s w) := by
  have IH := Lib.hid IH
  have ZL := Lib.hid Z47_len
  have ZZ := Lib.hid zero47'
  have BZ : Hid (Try.prog.built 47 [] = some Z47.toArray) := built_zero
  have OZ : Hid (∀ v ∈ Z47, v.oneCell' = true) := facL_one _ rfl _ _ _
  have PZ : Hid (∀ w T, PeV w T Z47 (.cls none_ .one)) := fun w T => by rw [PeV]; rfl
  generalize Z47 = Z at *
  have KR := Lib.hid hr
  have RL := Lib.hid hr.lt
  clear hr
  go_enter Try.func68, Try.ntmps68
  go_wp2_with (first
    | ((with_reducible refine wpList_alloc_abs (o := ⟨some 2, .alloc 47, _, _, _, _⟩) rfl 47 rfl Z ZZ.out ?_); intro g0 w0 e0 k0 b0 s0))
  refine (next_rel ra s false hs _ (KR.out.but (S := fun _ => False) (But.of_below b0.out) (by simp))).mono ?_
  rintro e w1 ⟨c, s1, bb, rfl, R1, b1, z1, hs1, H1⟩
  obtain ⟨rfl, l1, rfl⟩ := H1.out.cons _ _ (data_cons h0)
  have HL0 : Hid (s.data.toList = s[0] :: s1.data.toList) := by rw [l1]; exact data_cons h0
  have hlt : Hid (s1.size < s.size) := by
    have h := congrArg List.length HL0.out
    rw [List.length_cons, size_len, size_len] at h
    show s1.size < s.size
    omega
  have k1 : Hid (Blk w1 g0 47 Z) := k0.out.but b1.out (by have := e0.out; have := RL.out; omega)
  have W1 : Hid (But (· = ra) w w1) := (But.of_below b0.out).trans b1.out (fun _ _ h => h)
  have G0 : Hid (ra < g0 ∧ w.heap.size = g0 ∧ g0 < w1.heap.size) := ⟨by have := e0.out; have := RL.out; omega, e0.out, by have := s0.out; have := z1.out; omega⟩
  have FIN : Hid (∀ (w2 w3 : World) (s' : ByteArray) (b' : Bool) (L : List Value) (p : Pe), But (· = ra) w1 w2 → PeV w2 (Fresh w1 w2) L p → Rd w2 ra s' b' → But (· = g0) w2 w3 → s'.size ≤ s.size → AtomRel s.data.toList s'.data.toList b' p → FaP AtomRel ra s w (.returned (.agg L.toArray)) w3) :=
    fun w2 w3 s' b' L p hb hp hR hg hs' hrel => by
      have h6 := G0.out
      exact ⟨p, L, s', b', rfl, hp.on hg (fun n hn => by omega) (by omega), hR.but hg (by omega), (W1.out.trans hb (fun _ _ h => h)).row hg (fun h => by omega), hs', hrel⟩
  clear e0 k0 b0 s0 b1 z1 KR l1 H1
  have hc := s[0].toNat_lt
  by_cases h40 : s[0] = 40
  · have HR := Lib.hid (fun l' b p k => atom_par (l := s.data.toList) (l' := l') (b := b) (p := p) (r := s1.data.toList) (by have h := HL0.out; rw [h40] at h; exact h) k)
    rw [h40]
    clear h40 hc
    go_wp2_with fail
    refine (parens_any ra s1 (by have := hlt.out; omega) (fun w hw => IH.out s1 w hlt.out hw) _ R1.out).mono ?_
    rintro e w2 ⟨p, L, s2, b2', rfl, P2, R2, b2, hs2, H2⟩
    have HL := Lib.hid P2.out.len
    go_wp2_with (first
    | ((with_reducible refine wpList_store_abs (o := ⟨_, .store 47 (.tmp 2) (.tmp 12), _, _, _, _⟩) rfl 47 _ _ rfl rfl g0 L ?_ ?_ 47 Z (k1.out.but b2.out (by have := G0.out; omega)) 260 size47 HL.out.1 ZL.out HL.out.2 ?_); (· rfl); (· rfl); intro w3 k3 b3 s3))
    refine bodyPost_ret (results_cell_row rfl _ _ g0 47 L.toArray (0, 0) _ rfl k3.out Try.underlying47 rfl (by simpa [HL.out.1] using size47)) rfl ?_
    exact FIN.out w2 w3 s2 b2' L p b2.out P2.out R2.out b3.out (by omega) (HR.out _ _ _ H2.out)
  have t40 : ((s[0].toNat : Int) == 40) = false := by simp; exact fun h => h40 (UInt8.toNat_inj.1 (by rw [show ((40 : UInt8)).toNat = 40 from rfl]; omega))
  by_cases h91 : s[0] = 91
  · have HR := Lib.hid (fun l' b f k => atom_cls (l := s.data.toList) (l' := l') (b := b) (f := f) (r := s1.data.toList) (by have h := HL0.out; rw [h91] at h; exact h) k)
    rw [h91]
    clear h91 hc h40 t40
    go_wp2_with fail
    refine (class_any ra s1 (by have := hlt.out; omega) _ R1.out).mono ?_
    rintro e w2 ⟨f, s2, b2', rfl, R2, b2, hs2, H2⟩
    obtain ⟨L, hL⟩ : ∃ L, L = facL f (.slice none 0 0) false 0 0 := ⟨_, rfl⟩
    have BL : Hid (Try.prog.built 47 [(0, .agg (clsC f).toArray)] = some L.toArray) := by rw [hL]; exact built_cls _
    have HL : Hid (L.length = 260) := by rw [hL]; exact facL_len _ _ _ _ _
    have OL : Hid (∀ v ∈ L, v.oneCell' = true) := by rw [hL]; exact facL_one _ rfl _ _ _
    have PL : Hid (∀ w T, PeV w T L (.cls f .one)) := fun w T => by rw [PeV]; exact hL
    have H2' := Lib.hid (HR.out _ _ _ H2.out)
    clear hL
    generalize clsC f = CC at BL ⊢
    go_wp2_with (first
    | ((with_reducible refine wpList_build_abs (o := ⟨_, .build 47 _, _, _, _, _⟩) rfl 47 _ rfl [(0, .agg CC.toArray)] ?_ L BL.out ?_); (· first | (simp; done) | (simp; rfl) | (simp; exact ⟨rfl, rfl⟩)))
    | ((with_reducible refine wpList_store_abs (o := ⟨_, .store 47 (.tmp 2) (.tmp 18), _, _, _, _⟩) rfl 47 _ _ rfl rfl g0 L ?_ ?_ 47 Z (k1.out.but b2.out (by have := G0.out; omega)) 260 size47 HL.out ZL.out OL.out ?_); (· rfl); (· rfl); intro w3 k3 b3 s3))
    refine bodyPost_ret (results_cell_row rfl _ _ g0 47 L.toArray (0, 0) _ rfl k3.out Try.underlying47 rfl (by simpa [HL.out] using size47)) rfl ?_
    exact FIN.out w2 w3 s2 b2' L _ b2.out (PL.out _ _) R2.out b3.out (by omega) H2'.out
  have t91 : ((s[0].toNat : Int) == 91) = false := by simp; exact fun h => h91 (UInt8.toNat_inj.1 (by rw [show ((91 : UInt8)).toNat = 91 from rfl]; omega))
  by_cases h46 : s[0] = 46
  · have HR : Hid (AtomRel s.data.toList s1.data.toList false (.cls (fun _ => true) .one)) := atom_dot (r := s1.data.toList) (by have h := HL0.out; rw [h46] at h; exact h)
    obtain ⟨L, hL⟩ : ∃ L, L = facL (fun _ => true) (.slice none 0 0) false 0 0 := ⟨_, rfl⟩
    have BL : Hid (Try.prog.built 47 [(0, .agg (clsC (fun _ => true)).toArray)] = some L.toArray) := by rw [hL]; exact built_cls _
    have HL : Hid (L.length = 260) := by rw [hL]; exact facL_len _ _ _ _ _
    have OL : Hid (∀ v ∈ L, v.oneCell' = true) := by rw [hL]; exact facL_one _ rfl _ _ _
    have PL : Hid (∀ w T, PeV w T L (.cls (fun _ => true) .one)) := fun w T => by rw [PeV]; exact hL
    have CL := Lib.hid (fun w => ranges_all w)
    unfold SetPost at CL
    generalize clsC (fun _ => true) = CC at CL BL
    rw [h46]
    clear hL h46 hc h40 t40 h91 t91
    go_wp2_with (first
    | (go_at_call 77; (with_reducible refine (CL.out _).mono ?_); rintro e w2 ⟨rfl, b2⟩)
    | ((with_reducible refine wpList_build_abs (o := ⟨_, .build 47 _, _, _, _, _⟩) rfl 47 _ rfl [(0, .agg CC.toArray)] ?_ L BL.out ?_); (· first | (simp; done) | (simp; rfl) | (simp; exact ⟨rfl, rfl⟩)))
    | ((with_reducible refine wpList_store_abs (o := ⟨_, .store 47 (.tmp 2) (.tmp 23), _, _, _, _⟩) rfl 47 _ _ rfl rfl g0 L ?_ ?_ 47 Z (k1.out.below b2.out k1.out.lt) 260 size47 HL.out ZL.out OL.out ?_); (· rfl); (· rfl); intro w3 k3 b3 s3))
    refine bodyPost_ret (results_cell_row rfl _ _ g0 47 L.toArray (0, 0) _ rfl k3.out Try.underlying47 rfl (by simpa [HL.out] using size47)) rfl ?_
    exact FIN.out w2 w3 s1 false L _ (But.of_below b2.out) (PL.out _ _) (R1.out.below b2.out) b3.out hs1 HR.out
  have t46 : ((s[0].toNat : Int) == 46) = false := by simp; exact fun h => h46 (UInt8.toNat_inj.1 (by rw [show ((46 : UInt8)).toNat = 46 from rfl]; omega))
  by_cases h92 : s[0] = 92
  · have HR := Lib.hid (fun l' b p k => atom_esc (l := s.data.toList) (l' := l') (b := b) (p := p) (r := s1.data.toList) (by have h := HL0.out; rw [h92] at h; exact h) k)
    rw [h92]
    clear h92 hc h40 t40 h91 t91 h46 t46
    go_wp2_with fail
    refine (escape_any ra s1 (by have := hlt.out; omega) _ R1.out).mono ?_
    rintro e w2 ⟨p, L, s2, b2', rfl, P2, R2, b2, hs2, H2⟩
    have HL := Lib.hid P2.out.len
    go_wp2_with (first
    | ((with_reducible refine wpList_store_abs (o := ⟨_, .store 47 (.tmp 2) (.tmp 28), _, _, _, _⟩) rfl 47 _ _ rfl rfl g0 L ?_ ?_ 47 Z (k1.out.but b2.out (by have := G0.out; omega)) 260 size47 HL.out.1 ZL.out HL.out.2 ?_); (· rfl); (· rfl); intro w3 k3 b3 s3))
    refine bodyPost_ret (results_cell_row rfl _ _ g0 47 L.toArray (0, 0) _ rfl k3.out Try.underlying47 rfl (by simpa [HL.out.1] using size47)) rfl ?_
    exact FIN.out w2 w3 s2 b2' L p b2.out P2.out.none_ R2.out b3.out (by omega) (HR.out _ _ _ H2.out)
  have t92 : ((s[0].toNat : Int) == 92) = false := by simp; exact fun h => h92 (UInt8.toNat_inj.1 (by rw [show ((92 : UInt8)).toNat = 92 from rfl]; omega))
  have CI := Lib.hid (fun w => indexByte_any ⟨#[46, 91, 93, 40, 41, 124, 42, 43, 63, 92]⟩ s[0].toNat w)
  have HI : Hid (decide ((0 : Int) ≤ Lib.indexByte [46, 91, 93, 40, 41, 124, 42, 43, 63, 92] s[0]) = special s[0]) := by rw [indexByte_mem, special_mem]; exact rfl
  have CI2 : Hid (∀ w, Calls Try.prog 30 #[.string ⟨#[46, 91, 93, 40, 41, 124, 42, 43, 63, 92]⟩, .int .u8 (s[0].toNat : Int)] w fun e w' => e = .returned (.int .i64 (Lib.indexByte [46, 91, 93, 40, 41, 124, 42, 43, 63, 92] s[0])) ∧ w = w') := fun w => by
    refine (CI.out w).mono fun e w' h => ?_
    rw [show s[0].toNat.toUInt8 = s[0] by simp] at h
    exact h
  clear CI
  cases hsp : special s[0] with
  | true =>
    have HR : Hid (AtomRel s.data.toList [] true (.cls none_ .one)) := atom_bad rfl HL0.out hsp h46 h92 h91 h40
    rw [hsp] at HI
    generalize Lib.indexByte [46, 91, 93, 40, 41, 124, 42, 43, 63, 92] s[0] = ix at HI CI2
    have hix : 0 ≤ ix := by simpa using HI.out
    clear hsp HI h46 h92 h91 h40
    go_wp2_with (first
    | (go_at_call 30; (with_reducible refine (CI2.out _).mono ?_); rintro e w' ⟨rfl, rfl⟩)
    | (go_at_call 69; (with_reducible refine (fail_rel ra s1 false _ R1.out).mono ?_); rintro e w2 ⟨rfl, R2, b2, z2⟩)
    | ((with_reducible refine wpList_build_abs (o := ⟨_, .build 47 _, _, _, _, _⟩) rfl 47 _ rfl [] ?_ Z BZ.out ?_); (· first | (simp; done) | (simp; rfl) | (simp; exact ⟨rfl, rfl⟩)))
    | ((with_reducible refine wpList_store_abs (o := ⟨_, .store 47 (.tmp 2) (.tmp 35), _, _, _, _⟩) rfl 47 _ _ rfl rfl g0 Z ?_ ?_ 47 Z (k1.out.but b2.out (by have := G0.out; omega)) 260 size47 ZL.out ZL.out OZ.out ?_); (· rfl); (· rfl); intro w3 k3 b3 s3))
    refine bodyPost_ret (results_cell_row rfl _ _ g0 47 Z.toArray (0, 0) _ rfl k3.out Try.underlying47 rfl (by simpa [ZL.out] using size47)) rfl ?_
    exact FIN.out w2 w3 ⟨#[]⟩ true Z _ b2.out (PZ.out _ _) R2.out b3.out (Nat.zero_le _) HR.out
  | false =>
    have HR : Hid (AtomRel s.data.toList s1.data.toList false (.byte s[0] .one)) := atom_byte HL0.out hsp
    rw [hsp] at HI
    generalize Lib.indexByte [46, 91, 93, 40, 41, 124, 42, 43, 63, 92] s[0] = ix at HI CI2
    have hix : ¬ 0 ≤ ix := by simpa using HI.out
    obtain ⟨L, hL⟩ : ∃ L, L = facL (fun x => x == s[0]) (.slice none 0 0) true s[0] 0 := ⟨_, rfl⟩
    have CL : Hid (∀ w, Calls Try.prog 79 #[.int .u8 (s[0].toNat : Int)] w fun e w' => e = .returned (.agg L.toArray) ∧ Hid (Below w.heap.size w w')) := fun w => by rw [hL]; exact literal_any s[0] w
    have HL : Hid (L.length = 260) := by rw [hL]; exact facL_len _ _ _ _ _
    have OL : Hid (∀ v ∈ L, v.oneCell' = true) := by rw [hL]; exact facL_one _ rfl _ _ _
    have PL : Hid (∀ w T, PeV w T L (.byte s[0] .one)) := fun w T => by rw [PeV]; exact hL
    clear hsp HI h46 h92 h91 h40 hL
    go_wp2_with (first
    | (go_at_call 30; (with_reducible refine (CI2.out _).mono ?_); rintro e w' ⟨rfl, rfl⟩)
    | (go_at_call 79; (with_reducible refine (CL.out _).mono ?_); rintro e w2 ⟨rfl, b2⟩)
    | ((with_reducible refine wpList_store_abs (o := ⟨_, .store 47 (.tmp 2) (.tmp 7), _, _, _, _⟩) rfl 47 _ _ rfl rfl g0 L ?_ ?_ 47 Z (k1.out.below b2.out k1.out.lt) 260 size47 HL.out ZL.out OL.out ?_); (· rfl); (· rfl); intro w3 k3 b3 s3))
    refine bodyPost_ret (results_cell_row rfl _ _ g0 47 L.toArray (0, 0) _ rfl k3.out Try.underlying47 rfl (by simpa [HL.out] using size47)) rfl ?_
    exact FIN.out w2 w3 s1 false L _ (But.of_below b2.out) (PL.out _ _) (R1.out.below b2.out) b3.out hs1 HR.out
end Go.Proofs.Ytilfggnhaehbcaa.Rx
