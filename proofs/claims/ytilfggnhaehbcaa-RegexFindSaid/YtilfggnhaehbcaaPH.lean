/- Layer 6: item and class of the program. -/
import Derived.Test.YtilfggnhaehbcaaPG
set_option linter.unusedVariables false
set_option linter.unusedSimpArgs false
namespace Go.Proofs.Ytilfggnhaehbcaa.Rx
open Go.RowKit
/-- An item of a class. -/
def NoItem (l : List UInt8) : Prop := item l = none ∨ ∃ lo r, item l = some (lo, r) ∧ (rangeEnd lo r = none ∨ ∃ hi q, rangeEnd lo r = some (hi, q) ∧ hi.toNat < lo.toNat)
structure ItemRel (l l' : List UInt8) (b : Bool) (lo hi : UInt8) : Prop where
  ok : b = false → ∃ r, item l = some (lo, r) ∧ rangeEnd lo r = some (hi, l') ∧ ¬ hi.toNat < lo.toNat
  no : b = true → NoItem l ∧ l' = []
def ItemP (ra : Nat) (s : ByteArray) (w : World) (e : Ending) (w' : World) : Prop :=
  ∃ (lo hi : UInt8) (s' : ByteArray) (b' : Bool), e = .returned (.tuple #[.int .u8 (lo.toNat : Int), .int .u8 (hi.toNat : Int)]) ∧ Hid (Rd w' ra s' b') ∧ Hid (But (· = ra) w w') ∧ s'.size ≤ s.size ∧ Hid (ItemRel s.data.toList s'.data.toList b' lo hi)
theorem item_alone {l l' : List UInt8} {b : Bool} {c : UInt8} (h : MemRel l l' b c) (hn : ∀ d r, l' = 45 :: d :: r → d = 93) : ItemRel l l' b c c := by
  refine ⟨fun hb => ⟨l', h.ok hb, ?_, Nat.lt_irrefl _⟩, fun hb => ⟨.inl (h.no hb).1, (h.no hb).2⟩⟩
  match l', hn with
  | [], _ => rfl
  | [d], _ => rfl
  | d :: e :: r, hn =>
    rw [rangeEnd, if_neg]
    rintro ⟨rfl, h2⟩
    exact h2 (hn e r rfl)
theorem item_range {l r l' : List UInt8} {b : Bool} {c d x : UInt8} (h : item l = some (c, 45 :: d :: r)) (hd : d ≠ 93) (k : MemRel (d :: r) l' b x) (hx : ¬ x.toNat < c.toNat) : ItemRel l l' b c x := by
  have e : rangeEnd c (45 :: d :: r) = item (d :: r) := by rw [rangeEnd, if_pos ⟨rfl, hd⟩]
  exact ⟨fun hb => ⟨_, h, e.trans (k.ok hb), hx⟩, fun hb => ⟨.inr ⟨_, _, h, .inl (e.trans (k.no hb).1)⟩, (k.no hb).2⟩⟩
theorem item_less {l r l' : List UInt8} {b : Bool} {c d x : UInt8} (h : item l = some (c, 45 :: d :: r)) (hd : d ≠ 93) (k : MemRel (d :: r) l' b x) (hx : x.toNat < c.toNat) : ItemRel l [] true c x := by
  have e : rangeEnd c (45 :: d :: r) = item (d :: r) := by rw [rangeEnd, if_pos ⟨rfl, hd⟩]
  refine ⟨fun hb => (by cases hb), fun _ => ⟨.inr ⟨_, _, h, ?_⟩, rfl⟩⟩
  cases b with
  | false => exact .inr ⟨x, l', e.trans (k.ok rfl), hx⟩
  | true => exact .inl (e.trans (k.no rfl).1)
theorem data_cons2 {s : ByteArray} (h : 1 < s.size) : s.data.toList = s[0] :: s[1] :: s.data.toList.drop 2 := by
  have e1 : s.data.toList.drop 0 = s[0] :: s.data.toList.drop 1 := by rw [List.drop_eq_getElem_cons (by simpa using (by omega : 0 < s.size))]; rfl
  have e2 : s.data.toList.drop 1 = s[1] :: s.data.toList.drop 2 := by rw [List.drop_eq_getElem_cons (by simpa using h)]; rfl
  rw [e2] at e1
  exact e1
theorem empty_size {s : ByteArray} (h : s.data.toList = []) : s.size = 0 := by rw [← size_len, h]; rfl
set_option maxHeartbeats 4000000 in
set_option maxRecDepth 100000 in
theorem item_any (ra : Nat) (s : ByteArray) (hs : s.size ≤ 1000) (w : World) (hr : Rd w ra s false) : Calls Try.prog 84 #[.pointer (some ⟨ra, 0, none⟩)] w (ItemP ra s w) := by
  have KR := Lib.hid hr
  clear hr
  go_enter Try.func84, Try.ntmps84
  go_wp2_with fail
  refine (member_any ra s hs _ KR.out).mono ?_
  rintro e w1 ⟨c, s1, bb, rfl, R1, b1, hs1, H1⟩
  have hc := c.toNat_lt
  obtain ⟨h1, h2, -, -⟩ := R1.out.cells
  by_cases hD : ∃ h : 1 < s1.size, s1[0].toNat = 45 ∧ s1[1].toNat ≠ 93
  · obtain ⟨hlt, h45, h93⟩ := hD
    obtain rfl : bb = false := by
      cases bb with
      | false => rfl
      | true => have := empty_size (H1.out.no rfl).2; omega
    have t1 : ((s1[0].toNat : Int) == 45) = true := by simp; omega
    have t2 : ((s1[1].toNat : Int) != 93) = true := by simp; omega
    have L1 : Hid (item s.data.toList = some (c, (45 : UInt8) :: s1[1] :: s1.data.toList.drop 2)) := by
      have hl := data_cons2 hlt
      rw [show s1[0] = 45 from UInt8.toNat_inj.1 h45] at hl
      have h := H1.out.ok rfl
      rw [hl] at h
      exact h
    have D1 : Hid (s1[1] ≠ 93) := fun h => h93 (by rw [h]; rfl)
    clear h93 h45
    go_wp2_with fail
    refine (next_rel ra s1 false (by omega) _ R1.out).mono ?_
    rintro e w2 ⟨d, s2, b2', rfl, R2, b2, z2, hs2, H2⟩
    have K2 := Lib.hid (H2.out.cons _ _ (data_cons2 hlt))
    obtain ⟨-, l2, rfl⟩ := K2.out
    have L2 := Lib.hid l2
    clear l2 H2 h1 h2 K2
    go_wp2_with fail
    refine (member_any ra s2 (by omega) _ R2.out).mono ?_
    rintro e w3 ⟨x, s3, b3', rfl, R3, b3, hs3, H3⟩
    have hx := x.toNat_lt
    have H3' : Hid (MemRel (s1[1] :: s1.data.toList.drop 2) s3.data.toList b3' x) := by have h := H3.out; rw [L2.out] at h; exact h
    have BB : Hid (But (· = ra) w w3) := (b1.out.trans b2.out (fun _ _ h => h)).trans b3.out (fun _ _ h => h)
    by_cases hlt2 : x.toNat < c.toNat
    · have HR := Lib.hid (item_less L1.out D1.out H3'.out hlt2)
      go_wp2_with (first
    | (go_at_call 69; (with_reducible refine (fail_rel ra s3 b3' _ R3.out).mono ?_); rintro e w4 ⟨rfl, R4, b4, z4⟩))
      go_ret2
      exact ⟨c, x, ⟨#[]⟩, true, rfl, R4, BB.out.trans b4.out (fun _ _ h => h), Nat.zero_le _, HR⟩
    · have HR := Lib.hid (item_range L1.out D1.out H3'.out hlt2)
      go_wp2_with fail
      go_ret2
      exact ⟨c, x, s3, b3', rfl, R3, BB, by omega, HR⟩
  · have HR : Hid (ItemRel s.data.toList s1.data.toList bb c c) := item_alone H1.out fun d r hl => by
      apply Classical.byContradiction
      intro hd
      have hsz : 1 < s1.size := by rw [← size_len, hl]; simp
      rw [data_cons2 hsz] at hl
      injection hl with e1 hl
      injection hl with e2 _
      exact hD ⟨hsz, by rw [e1]; rfl, fun h => hd (by rw [← e2]; exact UInt8.toNat_inj.1 h)⟩
    have hcase : (s1.size ≤ 1) ∨ (1 < s1.size ∧ ∃ h : 1 < s1.size, ((s1[0].toNat : Int) == 45) = false) ∨ (1 < s1.size ∧ ∃ h : 1 < s1.size, ((s1[0].toNat : Int) == 45) = true ∧ ((s1[1].toNat : Int) != 93) = false) := by
      rcases Nat.lt_or_ge 1 s1.size with hlt | hge
      · by_cases h45 : s1[0].toNat = 45
        · have h93 : s1[1].toNat = 93 := Classical.byContradiction fun h => hD ⟨hlt, h45, h⟩
          exact .inr (.inr ⟨hlt, hlt, by simp; omega, by simp; omega⟩)
        · exact .inr (.inl ⟨hlt, hlt, by simp; omega⟩)
      · exact .inl hge
    clear hD H1
    rcases hcase with hsz | ⟨hsz, hh, t1⟩ | ⟨hsz, hh, t1, t2⟩
    all_goals
      go_wp2_with fail
      go_ret2
      exact ⟨c, c, s1, bb, rfl, R1, b1, hs1, HR⟩
end Go.Proofs.Ytilfggnhaehbcaa.Rx
