/- Layer 6: member and item of the program. -/
import Derived.Test.YtilfggnhaehbcaaPF
set_option linter.unusedVariables false
set_option linter.unusedSimpArgs false
namespace Go.Proofs.Ytilfggnhaehbcaa.Rx
open Go.RowKit
theorem reF_byte (c : UInt8) : reF (.byte c .one) = .byte c := by rw [reF, withRep]
theorem reF_cls (f : UInt8 → Bool) : reF (.cls f .one) = .cls f := by rw [reF, withRep]
theorem esc_of_byte {d x : UInt8} (h : escRe d = some (.byte x)) : esc d = some x := by
  unfold escRe at h
  split at h
  · cases h
  · split at h
    · cases h
    · cases he : esc d with
      | none => rw [he] at h; cases h
      | some y => rw [he] at h; cases h; rfl
theorem esc_of_cls {d : UInt8} {f : UInt8 → Bool} (h : escRe d = some (.cls f)) : esc d = none := by
  unfold escRe at h
  split at h
  · rename_i hd; subst hd; rfl
  · split at h
    · rename_i hd; subst hd; rfl
    · cases he : esc d with
      | none => rfl
      | some y => rw [he] at h; cases h
theorem esc_of_none {d : UInt8} (h : escRe d = none) : esc d = none := by
  unfold escRe at h
  split at h
  · cases h
  · split at h
    · cases h
    · cases he : esc d with
      | none => rfl
      | some y => rw [he] at h; cases h
/-- A byte of a class, or an escape for one. -/
structure MemRel (l l' : List UInt8) (b : Bool) (c : UInt8) : Prop where
  ok : b = false → item l = some (c, l')
  no : b = true → item l = none ∧ l' = []
def MemP (ra : Nat) (s : ByteArray) (w : World) (e : Ending) (w' : World) : Prop :=
  ∃ (c : UInt8) (s' : ByteArray) (b' : Bool), e = .returned (.int .u8 (c.toNat : Int)) ∧ Hid (Rd w' ra s' b') ∧ Hid (But (· = ra) w w') ∧ s'.size ≤ s.size ∧ Hid (MemRel s.data.toList s'.data.toList b' c)
theorem beg_one {l : List UInt8} {x : UInt8} (h : beg [x] l = true) : ∃ r, l = x :: r := by
  cases l with
  | nil => cases h
  | cons c r => exact ⟨r, by rw [show c = x by simpa [beg] using h]⟩
theorem beg_one_no {c x : UInt8} {r : List UInt8} (h : beg [x] (c :: r) = false) : c ≠ x := by
  intro e
  subst e
  simp [beg] at h
theorem mem_plain {l l' : List UInt8} {b : Bool} {c : UInt8} (h : NextRel l false l' b c) (h1 : beg [93] l = false) (h2 : c ≠ 92) : MemRel l l' b c := by
  cases l with
  | nil =>
    obtain ⟨rfl, rfl, rfl⟩ := h.nil rfl
    exact ⟨fun hb => (by cases hb), fun _ => ⟨rfl, rfl⟩⟩
  | cons d r =>
    obtain ⟨rfl, rfl, rfl⟩ := h.cons d r rfl
    refine ⟨fun _ => ?_, fun hb => (by cases hb)⟩
    rw [item, if_neg (beg_one_no h1), if_neg h2]
theorem mem_esc {l l' : List UInt8} {b : Bool} (h : NextRel l false l' b 92) : b = false ∧ l = 92 :: l' := by
  cases l with
  | nil => have := (h.nil rfl).1; cases this
  | cons d r =>
    obtain ⟨rfl, rfl, rfl⟩ := h.cons d r rfl
    exact ⟨rfl, rfl⟩
theorem item_esc (l : List UInt8) : item (92 :: l) = escAt l := by rw [item, if_neg (by decide), if_pos rfl]
theorem mem_byte {l r l' : List UInt8} {b : Bool} {c : UInt8} (h : l = 92 :: r) (k : EscRel r l' b (.byte c .one)) : MemRel l l' b c := by
  subst h
  refine ⟨fun hb => ?_, fun hb => ?_⟩
  · rw [item_esc]
    have h1 := k.ok hb
    rw [reF_byte] at h1
    cases r with
    | nil => cases h1
    | cons d q =>
      rw [escReAt] at h1
      rw [escAt]
      cases he : escRe d with
      | none => rw [he] at h1; cases h1
      | some y =>
        rw [he] at h1
        cases h1
        rw [esc_of_byte he]
        rfl
  · rw [item_esc]
    obtain ⟨h1, h2⟩ := k.no hb
    refine ⟨?_, h2⟩
    cases r with
    | nil => rfl
    | cons d q =>
      rw [escReAt] at h1
      rw [escAt]
      cases he : escRe d with
      | none => rw [esc_of_none he]; rfl
      | some y => rw [he] at h1; cases h1
theorem mem_cls {l r l' : List UInt8} {b : Bool} {c : UInt8} {f : UInt8 → Bool} (h : l = 92 :: r) (k : EscRel r l' b (.cls f .one)) : MemRel l [] true c := by
  subst h
  refine ⟨fun hb => (by cases hb), fun _ => ⟨?_, rfl⟩⟩
  rw [item_esc]
  cases r with
  | nil => rfl
  | cons d q =>
    rw [escAt]
    cases b with
    | false =>
      have h1 := k.ok rfl
      rw [reF_cls, escReAt] at h1
      cases he : escRe d with
      | none => rw [esc_of_none he]; rfl
      | some y =>
        rw [he] at h1
        cases h1
        rw [esc_of_cls he]
        rfl
    | true =>
      have h1 := (k.no rfl).1
      rw [escReAt] at h1
      cases he : escRe d with
      | none => rw [esc_of_none he]; rfl
      | some y => rw [he] at h1; cases h1
set_option maxHeartbeats 4000000 in
set_option maxRecDepth 100000 in
theorem member_any (ra : Nat) (s : ByteArray) (hs : s.size ≤ 1000) (w : World) (hr : Rd w ra s false) : Calls Try.prog 87 #[.pointer (some ⟨ra, 0, none⟩)] w (MemP ra s w) := by
  have ZL := Lib.hid Z47_len
  have ZZ := Lib.hid zero47'
  generalize Z47 = Z at *
  have KR := Lib.hid hr
  have CB := Lib.hid (begins_any ra ⟨#[93]⟩ s false w hr)
  clear hr
  cases hb : beg [93] s.data.toList with
  | true =>
    have CB1 : Hid (Calls Try.prog 58 #[.pointer (some ⟨ra, 0, none⟩), .string ⟨#[93]⟩] w fun e w' => e = .returned (.bool true) ∧ w = w') := by rw [← hb]; exact CB.out
    have HR : Hid (MemRel s.data.toList [] true 0) := ⟨fun h => (by cases h), fun _ => ⟨by obtain ⟨r, hl⟩ := beg_one hb; rw [hl, item, if_pos rfl], rfl⟩⟩
    clear hb CB
    go_enter Try.func87, Try.ntmps87
    go_wp2_with (first
    | (go_at_call 58; (with_reducible refine (CB1.out).mono ?_); rintro e w1 ⟨rfl, rfl⟩)
    | (go_at_call 69; (with_reducible refine (fail_rel ra s false _ KR.out).mono ?_); rintro e w1 ⟨rfl, R1, b1, z1⟩)
    | (go_at_call 60; (with_reducible refine (next_rel ra ⟨#[]⟩ true (by decide) _ R1.out).mono ?_); rintro e w2 ⟨c, s2, bb, rfl, R2, b2, z2, hs2, H2⟩; have H3 := Lib.hid (H2.out.nil rfl); obtain rfl : c = 0 := H3.out.1))
    go_ret
    refine ⟨0, s2, bb, rfl, R2, b1.out.trans b2.out (fun _ _ h => h), Nat.le_trans hs2 (Nat.zero_le _), ?_⟩
    rw [H3.out.2.2, H3.out.2.1]
    exact HR.out
  | false =>
    have CB1 : Hid (Calls Try.prog 58 #[.pointer (some ⟨ra, 0, none⟩), .string ⟨#[93]⟩] w fun e w' => e = .returned (.bool false) ∧ w = w') := by rw [← hb]; exact CB.out
    have HB := Lib.hid hb
    clear hb CB
    go_enter Try.func87, Try.ntmps87
    go_wp2_with (first
    | (go_at_call 58; (with_reducible refine (CB1.out).mono ?_); rintro e w1 ⟨rfl, rfl⟩))
    refine (next_rel ra s false hs _ KR.out).mono ?_
    rintro e w1 ⟨c, s1, bb, rfl, R1, b1, z1, hs1, H1⟩
    have hc := c.toNat_lt
    by_cases h92 : c = 92
    · subst h92
      obtain ⟨rfl, hl⟩ := mem_esc H1.out
      have HL := Lib.hid hl
      clear hl H1
      go_wp2_with fail
      refine (escape_any ra s1 (by omega) _ R1.out).mono ?_
      rintro e w2 ⟨p, C, s2, b2', rfl, P2, R2, b2, hs2, H2⟩
      have HC := Lib.hid P2.out.len
      rcases H2.out.form with ⟨d, rfl⟩ | ⟨f, rfl⟩
      · have HF : Hid (C[257]? = some (.bool true) ∧ C[258]? = some (.int .u8 (d.toNat : Int))) := by
          have h := P2.out
          rw [PeV] at h
          rw [h]
          exact ⟨(facL_at _ _ _ _ _).2.1, (facL_at _ _ _ _ _).2.2.1⟩
        have HR := Lib.hid (mem_byte HL.out H2.out)
        clear P2 H2
        go_wp2_with (first
    | ((with_reducible refine wpList_alloc_abs (o := ⟨some 4, .alloc 47, _, _, _, _⟩) rfl 47 rfl Z ZZ.out ?_); intro g3 w3 e3 k3 b3 s3)
    | ((with_reducible refine wpList_store_abs (o := ⟨_, .store 47 (.tmp 4) (.tmp 15), _, _, _, _⟩) rfl 47 _ _ rfl rfl g3 C ?_ ?_ 47 Z k3.out 260 size47 HC.out.1 ZL.out HC.out.2 ?_); (· rfl); (· rfl); intro w4 k4 b4 s4; have c1 : w4.cell? ⟨g3, 257, none⟩ = _ := (k4.out.cell 257).trans HF.out.1; have c2 : w4.cell? ⟨g3, 258, none⟩ = _ := (k4.out.cell 258).trans HF.out.2))
        go_ret
        have h1 := e3.out
        have h2 := R2.out.lt
        have B2 := ((b1.out.trans b2.out (fun _ _ h => h)).add b3.out).row (g := g3) b4.out (fun h => by have := b1.out.size; have := b2.out.size; omega)
        exact ⟨d, s2, b2', rfl, (R2.out.below b3.out).but b4.out (by omega), B2, by omega, HR⟩
      · have HF : Hid (C[257]? = some (.bool false) ∧ C[258]? = some (.int .u8 ((0 : UInt8).toNat : Int))) := by
          have h := P2.out
          rw [PeV] at h
          rw [h]
          exact ⟨(facL_at _ _ _ _ _).2.1, (facL_at _ _ _ _ _).2.2.1⟩
        have HR := Lib.hid (mem_cls (c := 0) HL.out H2.out)
        clear P2 H2
        go_wp2_with (first
    | ((with_reducible refine wpList_alloc_abs (o := ⟨some 4, .alloc 47, _, _, _, _⟩) rfl 47 rfl Z ZZ.out ?_); intro g3 w3 e3 k3 b3 s3)
    | ((with_reducible refine wpList_store_abs (o := ⟨_, .store 47 (.tmp 4) (.tmp 15), _, _, _, _⟩) rfl 47 _ _ rfl rfl g3 C ?_ ?_ 47 Z k3.out 260 size47 HC.out.1 ZL.out HC.out.2 ?_); (· rfl); (· rfl); intro w4 k4 b4 s4; have c1 : w4.cell? ⟨g3, 257, none⟩ = _ := (k4.out.cell 257).trans HF.out.1; have RD : Hid (Rd w4 ra s2 b2') := (R2.out.below b3.out).but b4.out (by have := e3.out; have := R2.out.lt; omega))
    | (go_at_call 69; (with_reducible refine (fail_rel ra s2 b2' _ RD.out).mono ?_); rintro e w5 ⟨rfl, R5, b5, z5⟩; have c2 : w5.cell? ⟨g3, 258, none⟩ = _ := ((k4.out.but b5.out (by have := e3.out; have := R2.out.lt; omega)).cell 258).trans HF.out.2))
        go_ret
        have h1 := e3.out
        have h2 := R2.out.lt
        have B2 := (((b1.out.trans b2.out (fun _ _ h => h)).add b3.out).row (g := g3) b4.out (fun h => by have := b1.out.size; have := b2.out.size; omega)).trans b5.out (fun _ _ h => h)
        exact ⟨0, ⟨#[]⟩, true, rfl, R5, B2, Nat.zero_le _, HR⟩
    · have t1 : ((c.toNat : Int) != 92) = true := by
        simp
        exact fun h => h92 (UInt8.toNat_inj.1 (by rw [show (92 : UInt8).toNat = 92 from rfl]; omega))
      have HR := Lib.hid (mem_plain H1.out HB.out h92)
      clear h92 H1
      go_wp2_with fail
      go_ret
      exact ⟨c, s1, bb, rfl, R1, b1, hs1, HR⟩
end Go.Proofs.Ytilfggnhaehbcaa.Rx
