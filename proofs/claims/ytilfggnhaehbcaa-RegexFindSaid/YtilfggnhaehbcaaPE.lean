/- Layer 6: escapes, bytes and items of classes. -/
import Derived.Test.YtilfggnhaehbcaaPD
set_option linter.unusedVariables false
set_option linter.unusedSimpArgs false
namespace Go.Proofs.Ytilfggnhaehbcaa.Rx
open Go.RowKit
/-- Reading a byte. -/
structure NextRel (l : List UInt8) (b : Bool) (l' : List UInt8) (b' : Bool) (c : UInt8) : Prop where
  nil : l = [] → c = 0 ∧ l' = [] ∧ b' = true
  cons : ∀ d r, l = d :: r → c = d ∧ l' = r ∧ b' = b
theorem NextRel.len {l l' : List UInt8} {b b' : Bool} {c : UInt8} (h : NextRel l b l' b' c) : l'.length ≤ l.length := by
  cases l with
  | nil => rw [(h.nil rfl).2.1]; exact Nat.le_refl _
  | cons d r => rw [(h.cons d r rfl).2.1]; simp
theorem size_len (s : ByteArray) : s.data.toList.length = s.size := Array.length_toList
def NextP (ra : Nat) (s : ByteArray) (b : Bool) (w : World) (e : Ending) (w' : World) : Prop :=
  ∃ (c : UInt8) (s' : ByteArray) (b' : Bool), e = .returned (.int .u8 (c.toNat : Int)) ∧ Hid (Rd w' ra s' b') ∧ Hid (But (· = ra) w w') ∧ Hid (w'.heap.size = w.heap.size) ∧ s'.size ≤ s.size ∧ Hid (NextRel s.data.toList b s'.data.toList b' c)
theorem next_rel (ra : Nat) (s : ByteArray) (b : Bool) (hs : s.size ≤ 1000) (w : World) (hr : Rd w ra s b) : Calls Try.prog 60 #[.pointer (some ⟨ra, 0, none⟩)] w (NextP ra s b w) := by
  refine (next_any ra s b hs w hr).mono fun e w' h => ?_
  obtain ⟨h1, h2, h3, h4⟩ := h
  rcases Nat.eq_zero_or_pos s.size with h0 | h0
  · obtain ⟨h5, h6⟩ := h1 h0
    have hl : s.data.toList = [] := List.length_eq_zero_iff.1 (by rw [size_len]; exact h0)
    refine ⟨0, ⟨#[]⟩, true, h5, h6, h3, h4, Nat.zero_le _, ⟨fun _ => ⟨rfl, rfl, rfl⟩, fun d r e => ?_⟩⟩
    rw [hl] at e; cases e
  · obtain ⟨h5, h6⟩ := h2 h0
    refine ⟨s[0], s.extract 1 s.size, b, h5, h6, h3, h4, by rw [ByteArray.size_extract]; omega, ⟨fun e => ?_, fun d r e => ?_⟩⟩
    · rw [data_cons h0] at e; cases e
    · rw [data_cons h0] at e
      cases e
      exact ⟨rfl, rfl, rfl⟩
def FailP (ra : Nat) (w : World) (e : Ending) (w' : World) : Prop := e = .returned (.tuple #[]) ∧ Hid (Rd w' ra ⟨#[]⟩ true) ∧ Hid (But (· = ra) w w') ∧ Hid (w'.heap.size = w.heap.size)
theorem fail_rel (ra : Nat) (s : ByteArray) (b : Bool) (w : World) (hr : Rd w ra s b) : Calls Try.prog 69 #[.pointer (some ⟨ra, 0, none⟩)] w (FailP ra w) := (fail_any ra s b w hr).mono fun _ _ h => h
/-- An escape: behind the backslash. -/
structure EscRel (l l' : List UInt8) (b : Bool) (p : Pe) : Prop where
  ok : b = false → escReAt l = some (reF p, l')
  no : b = true → escReAt l = none ∧ l' = []
  form : (∃ c, p = .byte c .one) ∨ ∃ f, p = .cls f .one
theorem EscRel.of {l l' : List UInt8} {b : Bool} {c : UInt8} {p : Pe} (h : NextRel l false l' b c) (hp : c ≠ 0 ∨ escRe c = some (reF p) → escRe c = some (reF p)) (form : (∃ c, p = .byte c .one) ∨ ∃ f, p = .cls f .one) (h0 : escRe c = some (reF p)) : EscRel l l' b p := by
  refine ⟨fun hb => ?_, fun hb => ?_, form⟩
  · cases l with
    | nil => rw [(h.nil rfl).2.2] at hb; cases hb
    | cons d r =>
      obtain ⟨rfl, rfl, _⟩ := h.cons d r rfl
      rw [escReAt, h0]
      rfl
  · cases l with
    | nil => exact ⟨rfl, (h.nil rfl).2.1⟩
    | cons d r => rw [(h.cons d r rfl).2.2] at hb; cases hb
theorem EscRel.bad {l l' : List UInt8} {b : Bool} {c : UInt8} (h : NextRel l false l' b c) (h0 : escRe c = none) : EscRel l [] true (.cls none_ .one) := by
  refine ⟨fun hb => (by cases hb), fun _ => ⟨?_, rfl⟩, .inr ⟨_, rfl⟩⟩
  cases l with
  | nil => rfl
  | cons d r =>
    obtain ⟨rfl, _, _⟩ := h.cons d r rfl
    rw [escReAt, h0]
    rfl
theorem pairs_digit : pairsF none_ [48, 57] = digit := by
  funext x
  simp only [pairsF, addR, none_, digit, Bool.false_or]
  rfl
theorem pairs_alnum : pairsF none_ [65, 90, 97, 122, 48, 57] = alnum := by
  funext x
  simp only [pairsF, addR, none_, alnum, digit, Bool.false_or]
  rw [Bool.eq_iff_iff]
  simp only [Bool.or_eq_true, decide_eq_true_eq, show (65 : UInt8).toNat = 65 from rfl, show (90 : UInt8).toNat = 90 from rfl, show (97 : UInt8).toNat = 97 from rfl, show (122 : UInt8).toNat = 122 from rfl, show (48 : UInt8).toNat = 48 from rfl, show (57 : UInt8).toNat = 57 from rfl]
  omega
theorem pairs_word : pairsF none_ [65, 90, 97, 122, 48, 57, 95, 95] = word := by
  funext x
  simp only [pairsF, addR, none_, word, alnum, digit, Bool.false_or]
  rw [Bool.eq_iff_iff]
  simp only [Bool.or_eq_true, decide_eq_true_eq, beq_iff_eq, show (65 : UInt8).toNat = 65 from rfl, show (90 : UInt8).toNat = 90 from rfl, show (97 : UInt8).toNat = 97 from rfl, show (122 : UInt8).toNat = 122 from rfl, show (48 : UInt8).toNat = 48 from rfl, show (57 : UInt8).toNat = 57 from rfl, show (95 : UInt8).toNat = 95 from rfl]
  have e : x = 95 ↔ x.toNat = 95 := ⟨fun h => by rw [h]; rfl, fun h => UInt8.toNat_inj.1 h⟩
  rw [e]
  omega
theorem pairs_all : pairsF none_ [0, 255] = fun _ => true := by
  funext x
  have := x.toNat_lt
  simp only [pairsF, addR, none_, Bool.false_or, decide_eq_true_eq, show (0 : UInt8).toNat = 0 from rfl, show (255 : UInt8).toNat = 255 from rfl]
  omega
def SetPost (f : UInt8 → Bool) (w : World) (e : Ending) (w' : World) : Prop := e = .returned (.agg (clsC f).toArray) ∧ Hid (Below w.heap.size w w')
theorem ranges_digit (w : World) : Calls Try.prog 77 #[.string ⟨#[48, 57]⟩] w (SetPost digit w) := (ranges_any ⟨#[48, 57]⟩ (by decide) (by decide) w).mono fun e w' h => ⟨by rw [← pairs_digit]; exact h.1, h.2⟩
theorem ranges_alnum (w : World) : Calls Try.prog 77 #[.string ⟨#[65, 90, 97, 122, 48, 57]⟩] w (SetPost alnum w) := (ranges_any ⟨#[65, 90, 97, 122, 48, 57]⟩ (by decide) (by decide) w).mono fun e w' h => ⟨by rw [← pairs_alnum]; exact h.1, h.2⟩
theorem ranges_word (w : World) : Calls Try.prog 77 #[.string ⟨#[65, 90, 97, 122, 48, 57, 95, 95]⟩] w (SetPost word w) := (ranges_any ⟨#[65, 90, 97, 122, 48, 57, 95, 95]⟩ (by decide) (by decide) w).mono fun e w' h => ⟨by rw [← pairs_word]; exact h.1, h.2⟩
theorem ranges_all (w : World) : Calls Try.prog 77 #[.string ⟨#[0, 255]⟩] w (SetPost (fun _ => true) w) := (ranges_any ⟨#[0, 255]⟩ (by decide) (by decide) w).mono fun e w' h => ⟨by rw [← pairs_all]; exact h.1, h.2⟩
theorem idx45 (f : UInt8 → Bool) (c : UInt8) (w : World) : (Instr.index 45 (.agg (clsC f).toArray) (.int .u8 (c.toNat : Int))).run Try.prog w = .ok (.bool (f c)) w := by
  have hlt := c.toNat_lt
  have hn : 0 ≤ (c.toNat : Int) ∧ (c.toNat : Int) < ((256 : Nat) : Int) := by omega
  have hs : (sizeOf 4).run Try.prog w = .ok 1 w := by kernel_rfl
  have hg : (isAgg 4).run Try.prog w = .ok false w := by kernel_rfl
  have hv : (clsC f).toArray[c.toNat]? = some (.bool (f c)) := by
    rw [List.getElem?_toArray, clsC_at f hlt]
    simp
  have hp : (part 4 (clsC f).toArray (c.toNat * 1)).run Try.prog w = .ok (.bool (f c)) w := by
    rw [Nat.mul_one]
    simp [part, hg, hv]
  simp only [Instr.index, asIntOf, run_underlying Try.underlying45, Sem.run_bind, Sem.run_pure, Result.andThen_ok]
  rw [if_pos hn]
  simp only [Sem.run_bind, hs, Result.andThen_ok, Int.toNat_natCast, hp]
/-- What an escape leaves. -/
def EscP (ra : Nat) (s : ByteArray) (w : World) (e : Ending) (w' : World) : Prop :=
  ∃ (p : Pe) (C : List Value) (s' : ByteArray) (b' : Bool), e = .returned (.agg C.toArray) ∧ Hid (PeV w' (fun _ => False) C p) ∧ Hid (Rd w' ra s' b') ∧ Hid (But (· = ra) w w') ∧ s'.size ≤ s.size ∧ Hid (EscRel s.data.toList s'.data.toList b' p)
theorem But.add {S : Nat → Prop} {a b c : World} (h : But S a b) (k : Below b.heap.size b c) : But S a c := h.trans (S' := S) (But.of_below k) (fun _ _ h => h)
theorem But.row {S : Nat → Prop} {a b c : World} {g : Nat} (h : But S a b) (k : But (· = g) b c) (hg : g < a.heap.size → S g) : But S a c := h.trans k (fun n hn e => by subst e; exact hg hn)
theorem Rd.but {w w' : World} {ra : Nat} {s : ByteArray} {b : Bool} {S : Nat → Prop} (h : Rd w ra s b) (k : But S w w') (hs : ¬ S ra) : Rd w' ra s b := Blk.but h k hs
theorem Rd.below {w w' : World} {ra : Nat} {s : ByteArray} {b : Bool} (h : Rd w ra s b) (k : Below w.heap.size w w') : Rd w' ra s b := Blk.below h k (Blk.lt h)
theorem Rd.lt {w : World} {ra : Nat} {s : ByteArray} {b : Bool} (h : Rd w ra s b) : ra < w.heap.size := Blk.lt h
theorem esc_byte {c d : UInt8} (h : c ≠ 100) (h2 : c ≠ 119) (he : esc c = some d) : escRe c = some (reF (.byte d .one)) := by unfold escRe; rw [if_neg h, if_neg h2, he]; rfl
end Go.Proofs.Ytilfggnhaehbcaa.Rx
