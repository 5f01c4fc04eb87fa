
/- Layer 7: matchers in memory; the program's smallest functions. Layer 7: Check, matching, telling, of the program. Layer 7: telling, negating, literals, of the program. Layer 7: slices.IndexFunc, slices.ContainsFunc at matchers, of the program. Layer 7: Matches of the program. -/
import Derived.Lib.QuietBelow
import Derived.BigQuiet
import Derived.Deep.QuietTactic
import Derived.Deep.RegionWith
import Derived.Deep.CutRange
import Derived.Deep.DeepCutAuto
import Derived.Test.YtdeppcddknakjaaGreatDoorCVa
set_option maxRecDepth 100000
set_option linter.unusedVariables false
set_option linter.unusedSimpArgs false
namespace Go.Proofs.YtdeppcddknakjaaGreatDoor.Mx
open Go.RowKit
open Go.Proofs.YtdeppcddknakjaaGreatDoor.Rx (EmpP SameP PreP MatP MatS ChkP pfxS pre check match_any check_any prefix_any empty_any hasPrefix_any emptyS)
open Go.Proofs.YtdeppcddknakjaaGreatDoor.Lab (nameB getL Lb LS)
/-- The slice at A reads as the matchers l; it lies below block B. -/
def MS (w : World) (B : Nat) (A : Option Addr) (l : List Mt) : Prop :=
 l ≠ [] → ∃ b off, A = some ⟨b, off, none⟩ ∧ b < B ∧ ∀ j (h : j < l.length), w.cell? ⟨b, off + j * 3, none⟩ = some (.int .i64 l[j].k) ∧ w.cell? ⟨b, off + j * 3 + 1, none⟩ = some (.string l[j].n) ∧ w.cell? ⟨b, off + j * 3 + 2, none⟩ = some (.string l[j].v)
theorem MS.at_ {w : World} {B : Nat} {A : Option Addr} {l : List Mt} (h : MS w B A l) {k : Nat} (hk : k < l.length) :
  ∃ b off, A = some ⟨b, off, none⟩ ∧ b < B ∧ w.cell? ⟨b, off + k * 3, none⟩ = some (.int .i64 l[k].k) ∧ w.cell? ⟨b, off + k * 3 + 1, none⟩ = some (.string l[k].n) ∧ w.cell? ⟨b, off + k * 3 + 2, none⟩ = some (.string l[k].v) := by
 obtain ⟨b, off, e, hb, hc⟩ := h (by intro e; rw [e] at hk; simp at hk)
 exact ⟨b, off, e, hb, hc k hk⟩
theorem MS.keep {w w' : World} {B : Nat} {A : Option Addr} {l : List Mt} (h : MS w B A l) (hk : ∀ p : Addr, p.block < B → w'.cell? p = w.cell? p) : MS w' B A l := fun hne => by
 obtain ⟨b, off, e, hb, hc⟩ := h hne
 exact ⟨b, off, e, hb, fun j hj => ⟨(hk _ hb).trans (hc j hj).1, (hk _ hb).trans (hc j hj).2.1, (hk _ hb).trans (hc j hj).2.2⟩⟩
theorem MS.below {w w' : World} {B : Nat} {A : Option Addr} {l : List Mt} (h : MS w B A l) (hb : Below B w w') : MS w' B A l := h.keep fun _ hp => hb.cell hp
theorem MS.more {w : World} {B B' : Nat} {A : Option Addr} {l : List Mt} (h : MS w B A l) (hB : B ≤ B') : MS w B' A l := fun hne => by
 obtain ⟨b, off, e, hb, hc⟩ := h hne
 exact ⟨b, off, e, by omega, hc⟩
theorem MS.nil (w : World) (B : Nat) (A : Option Addr) : MS w B A [] := fun h => absurd rfl h
theorem MS.up {w w' : World} {A : Option Addr} {l : List Mt} (h : MS w w.heap.size A l) (hb : Below w.heap.size w w') : MS w' w'.heap.size A l := (h.below hb).more hb.size
theorem LS_up {w w' : World} {A : Option Addr} {l : List Lb} (h : LS w w.heap.size A l) (hb : Below w.heap.size w w') : LS w' w'.heap.size A l := (h.below hb).more hb.size
/-- Sizes that a call bears. -/
structure Sz (l : List Mt) : Prop where
 len : l.length ≤ 1000
 n : ∀ m ∈ l, m.n.size ≤ 100000
 v : ∀ m ∈ l, m.v.size ≤ 100000
theorem bcell {W W1 : World} (hb : Below W.heap.size W W1) : (∀ b o, b < W.heap.size → W1.cell? ⟨b, o, none⟩ = W.cell? ⟨b, o, none⟩) ∧ (∀ b o, b < W.heap.size → W1.frozen? ⟨b, o, none⟩ = W.frozen? ⟨b, o, none⟩) :=
 ⟨fun b o h => hb.cell (p := ⟨b, o, none⟩) h, fun b o h => hb.frozen (p := ⟨b, o, none⟩) h⟩
theorem bneT {a b : Int} (h : a = b) : (a == b) = true := by rw [h]; exact beq_self_eq_true b
theorem bneF {a b : Int} (h : a ≠ b) : (a == b) = false := beq_false_of_ne h
theorem okE {b c : Bool} (h : b = c) : Ending.returned (.bool b) = .returned (.bool c) := by rw [h]
theorem okI {a b : Int} (h : a = b) : Ending.returned (.int .i64 a) = .returned (.int .i64 b) := by rw [h]
set_option maxHeartbeats 1000000 in
theorem isRegex_any (k : Int) (n v : ByteArray) (w : World) : Calls Tryz.prog 67 #[.agg #[.int .i64 k, .string n, .string v]] w (EmpP (decide (k = 3 ∨ k = 4)) w) := by
 have HB : Hid (Below w.heap.size w (w.alloc (.cells #[.int .i64 k, .string n, .string v] 25))) := (Below.refl _ _).alloc (Nat.le_refl _) _
 by_cases h3 : k = 3
 ·have e3 := bneT h3
  have HE : Hid (decide (k = 3 ∨ k = 4) = true) := decide_eq_true (.inl h3)
  clear h3
  go_enter Tryz.func67, Tryz.ntmps67
  go_wp2
  go_ret
  exact ⟨okE HE.out.symm, HB⟩
 ·have e3 := bneF h3
  by_cases h4 : k = 4
  ·have e4 := bneT h4
   have HE : Hid (decide (k = 3 ∨ k = 4) = true) := decide_eq_true (.inr h4)
   clear h3 h4
   go_enter Tryz.func67, Tryz.ntmps67
   go_wp2
   go_ret
   exact ⟨okE HE.out.symm, HB⟩
  ·have e4 := bneF h4
   have HE : Hid (decide (k = 3 ∨ k = 4) = false) := decide_eq_false (by omega)
   clear h3 h4
   go_enter Tryz.func67, Tryz.ntmps67
   go_wp2
   go_ret
   exact ⟨okE HE.out.symm, HB⟩
theorem one_name {s : ByteArray} : (Lab.chk [⟨s, ⟨#[120]⟩⟩] = 0) ↔ nameB s = true := by
 constructor
 ·exact Lab.one_chk
 ·intro h
  exact Lab.chk_of (by simp) (Lab.chkL_mk h (show 0 < 1 by omega) (show 1 ≤ 200 by omega) rfl rfl)
theorem one_LS (w : World) (s : ByteArray) : LS (w.alloc (.cells #[.string s, .string ⟨#[120]⟩] 51)) (w.heap.size + 1) (some ⟨w.heap.size, 0, none⟩) [⟨s, ⟨#[120]⟩⟩] := fun _ => by
 have h := heap_alloc_new w (.cells #[.string s, .string ⟨#[120]⟩] 51)
 refine ⟨w.heap.size, 0, rfl, Nat.lt_succ_self _, fun j hj => ?_⟩
 obtain rfl : j = 0 := by simp at hj; omega
 exact Lab.cells2 h
set_option maxHeartbeats 1000000 in
theorem isName_m (s : ByteArray) (hs : s.size ≤ maxLen) (w : World) : Calls Tryz.prog 66 #[.string s] w (EmpP (nameB s) w) := by
 have HB : Hid (Below w.heap.size w (w.alloc (.cells #[.string s, .string ⟨#[120]⟩] 51))) := (Below.refl _ _).alloc (Nat.le_refl _) _
 have HC : Hid (Calls Tryz.prog 95 #[.slice (some ⟨w.heap.size, 0, none⟩) 1 1] (w.alloc (.cells #[.string s, .string ⟨#[120]⟩] 51)) fun e w' => e = .returned (.int .i64 (Lab.chk [⟨s, ⟨#[120]⟩⟩])) ∧ Below (w.alloc (.cells #[.string s, .string ⟨#[120]⟩] 51)).heap.size (w.alloc (.cells #[.string s, .string ⟨#[120]⟩] 51)) w') :=
  Lab.check_any [⟨s, ⟨#[120]⟩⟩] (show 1 ≤ maxLen by unfold maxLen; omega) (fun x hx => by rw [List.mem_singleton] at hx; subst hx; exact ⟨hs, (show 1 ≤ maxLen by unfold maxLen; omega)⟩) (some ⟨w.heap.size, 0, none⟩) 1 (w.alloc (.cells #[.string s, .string ⟨#[120]⟩] 51)) (by simpa using one_LS w s)
 have HN : Hid ((Lab.chk [⟨s, ⟨#[120]⟩⟩] = 0) ↔ nameB s = true) := one_name
 obtain ⟨r, hr⟩ : ∃ r, r = Lab.chk [⟨s, ⟨#[120]⟩⟩] := ⟨_, rfl⟩
 rw [← hr] at HC HN
 clear hr
 cases hb : nameB s with
 | true =>
  obtain rfl : r = 0 := HN.out.2 hb
  clear hb HN
  go_enter Tryz.func66, Tryz.ntmps66
  go_wp2_with (go_at_call 95; (with_reducible refine HC.out.mono ?_); rintro e w1 ⟨rfl, h1⟩; have H1 := Lib.hid h1; clear h1)
  go_ret
  exact ⟨rfl, HB.out.trans (H1.out.mono HB.out.size)⟩
 | false =>
  have hr : (r == 0) = false := bneF (fun e => by have := HN.out.1 e; rw [hb] at this; cases this)
  clear hb HN
  go_enter Tryz.func66, Tryz.ntmps66
  go_wp2_with (go_at_call 95; (with_reducible refine HC.out.mono ?_); rintro e w1 ⟨rfl, h1⟩; have H1 := Lib.hid h1; clear h1)
  go_ret
  exact ⟨rfl, HB.out.trans (H1.out.mono HB.out.size)⟩
end Go.Proofs.YtdeppcddknakjaaGreatDoor.Mx
namespace Go.Proofs.YtdeppcddknakjaaGreatDoor.Mx
open Go.RowKit
open Go.Proofs.YtdeppcddknakjaaGreatDoor.Rx (EmpP SameP PreP MatP MatS ChkP pfxS pre check match_any check_any prefix_any empty_any hasPrefix_any emptyS)
open Go.Proofs.YtdeppcddknakjaaGreatDoor.Lab (nameB getL Lb LS)
theorem chk1_lo {k : Int} {n v : ByteArray} (h : k < 1) : chk1 ⟨k, n, v⟩ = 8 := if_pos (.inl h)
theorem chk1_hi {k : Int} {n v : ByteArray} (h : 4 < k) : chk1 ⟨k, n, v⟩ = 8 := if_pos (.inr h)
theorem chk1_nn {k : Int} {n v : ByteArray} (h1 : 1 ≤ k) (h4 : k ≤ 4) (hn : nameB n = false) : chk1 ⟨k, n, v⟩ = 5 := by unfold chk1; rw [if_neg (show ¬ (k < 1 ∨ 4 < k) by omega), if_pos hn]
theorem chk1_re {k : Int} {n v : ByteArray} (h3 : 2 < k) (h4 : k ≤ 4) (hn : nameB n = true) : chk1 ⟨k, n, v⟩ = check v.data.toList := by unfold chk1; rw [if_neg (show ¬ (k < 1 ∨ 4 < k) by omega), if_neg (by simp [hn]), if_pos h3]
theorem chk1_big {k : Int} {n v : ByteArray} (h1 : 1 ≤ k) (h4 : k ≤ 2) (hn : nameB n = true) (h : 200 < v.size) : chk1 ⟨k, n, v⟩ = 4 := by unfold chk1; rw [if_neg (show ¬ (k < 1 ∨ 4 < k) by omega), if_neg (by simp [hn]), if_neg (show ¬ 2 < k by omega), if_pos h]
theorem chk1_ok {k : Int} {n v : ByteArray} (h1 : 1 ≤ k) (h4 : k ≤ 2) (hn : nameB n = true) (h : ¬ 200 < v.size) : chk1 ⟨k, n, v⟩ = 0 := by unfold chk1; rw [if_neg (show ¬ (k < 1 ∨ 4 < k) by omega), if_neg (by simp [hn]), if_neg (show ¬ 2 < k by omega), if_neg h]
set_option maxHeartbeats 2000000 in
theorem checkOne_any (k : Int) (n v : ByteArray) (hn : n.size ≤ maxLen) (hv : v.size ≤ maxLen) (w : World) : Calls Tryz.prog 36 #[.agg #[.int .i64 k, .string n, .string v]] w (ChkP (chk1 ⟨k, n, v⟩) w) := by
 have HB : Hid (Below w.heap.size w (w.alloc (.cells #[.int .i64 k, .string n, .string v] 25))) := (Below.refl _ _).alloc (Nat.le_refl _) _
 have KN := Lib.hid (fun w => isName_m n hn w)
 have KR := Lib.hid (fun w => isRegex_any k n v w)
 have KC := Lib.hid (fun w => check_any v hv w)
 unfold maxLen at hv hn
 by_cases h1 : k < 1
 ·have e1 : decide (k < 1) = true := decide_eq_true h1
  have HE : Hid (chk1 ⟨k, n, v⟩ = 8) := chk1_lo h1
  clear h1
  go_enter Tryz.func36, Tryz.ntmps36
  go_wp2
  go_ret
  exact ⟨okI HE.out.symm, HB⟩
 ·have e1 : decide (k < 1) = false := decide_eq_false h1
  by_cases h4 : 4 < k
  ·have e4 : decide (4 < k) = true := decide_eq_true h4
   have HE : Hid (chk1 ⟨k, n, v⟩ = 8) := chk1_hi h4
   clear h1 h4
   go_enter Tryz.func36, Tryz.ntmps36
   go_wp2
   go_ret
   exact ⟨okI HE.out.symm, HB⟩
  ·have e4 : decide (4 < k) = false := decide_eq_false h4
   have g1 := Lib.hid (show 1 ≤ k by omega)
   have g4 := Lib.hid (show k ≤ 4 by omega)
   clear h1 h4
   cases hb : nameB n with
   | false =>
    rw [hb] at KN
    have HE : Hid (chk1 ⟨k, n, v⟩ = 5) := chk1_nn g1.out g4.out hb
    clear hb
    go_enter Tryz.func36, Tryz.ntmps36
    go_wp2_with (go_at_call 66; (with_reducible refine (KN.out _).mono ?_); rintro e w1 ⟨rfl, b1⟩)
    go_ret
    exact ⟨okI HE.out.symm, HB.out.trans (b1.out.mono HB.out.size)⟩
   | true =>
    rw [hb] at KN
    by_cases h3 : 2 < k
    ·have HE : Hid (chk1 ⟨k, n, v⟩ = check v.data.toList) := chk1_re h3 g4.out hb
     have HD : Hid (decide (k = 3 ∨ k = 4) = true) := decide_eq_true (by have := g4.out; omega)
     rw [HD.out] at KR
     clear hb h3 HD
     go_enter Tryz.func36, Tryz.ntmps36
     go_wp2_with fail
     refine (KN.out _).mono ?_
     rintro e w1 ⟨rfl, b1⟩
     obtain ⟨hc, hf⟩ := bcell b1.out
     go_wp2_with fail
     refine (KR.out _).mono ?_
     rintro e w2 ⟨rfl, b2⟩
     have B2 : Hid (Below (w.alloc (.cells #[.int .i64 k, .string n, .string v] 25)).heap.size (w.alloc (.cells #[.int .i64 k, .string n, .string v] 25)) w2) := b1.out.trans (b2.out.mono b1.out.size)
     clear hc hf
     obtain ⟨hc, hf⟩ := bcell B2.out
     go_wp2_with fail
     refine (KC.out _).mono ?_
     rintro e w3 ⟨rfl, b3⟩
     have B3 : Hid (Below w.heap.size w w3) := HB.out.trans ((B2.out.trans (b3.out.mono B2.out.size)).mono HB.out.size)
     go_wp2
     go_ret
     exact ⟨okI HE.out.symm, B3⟩
    ·have HD : Hid (decide (k = 3 ∨ k = 4) = false) := decide_eq_false (by omega)
     rw [HD.out] at KR
     have h3' : k ≤ 2 := by omega
     by_cases h200 : 200 < v.size
     ·have HE : Hid (chk1 ⟨k, n, v⟩ = 4) := chk1_big g1.out h3' hb h200
      clear hb h3 HD h3'
      go_enter Tryz.func36, Tryz.ntmps36
      go_wp2_with fail
      refine (KN.out _).mono ?_
      rintro e w1 ⟨rfl, b1⟩
      obtain ⟨hc, hf⟩ := bcell b1.out
      go_wp2_with fail
      refine (KR.out _).mono ?_
      rintro e w2 ⟨rfl, b2⟩
      have B2 : Hid (Below (w.alloc (.cells #[.int .i64 k, .string n, .string v] 25)).heap.size (w.alloc (.cells #[.int .i64 k, .string n, .string v] 25)) w2) := b1.out.trans (b2.out.mono b1.out.size)
      clear hc hf
      obtain ⟨hc, hf⟩ := bcell B2.out
      go_wp2
      go_ret
      exact ⟨okI HE.out.symm, HB.out.trans (B2.out.mono HB.out.size)⟩
     ·have HE : Hid (chk1 ⟨k, n, v⟩ = 0) := chk1_ok g1.out h3' hb h200
      clear hb h3 HD h3'
      go_enter Tryz.func36, Tryz.ntmps36
      go_wp2_with fail
      refine (KN.out _).mono ?_
      rintro e w1 ⟨rfl, b1⟩
      obtain ⟨hc, hf⟩ := bcell b1.out
      go_wp2_with fail
      refine (KR.out _).mono ?_
      rintro e w2 ⟨rfl, b2⟩
      have B2 : Hid (Below (w.alloc (.cells #[.int .i64 k, .string n, .string v] 25)).heap.size (w.alloc (.cells #[.int .i64 k, .string n, .string v] 25)) w2) := b1.out.trans (b2.out.mono b1.out.size)
      clear hc hf
      obtain ⟨hc, hf⟩ := bcell B2.out
      go_wp2
      go_ret
      exact ⟨okI HE.out.symm, HB.out.trans (B2.out.mono HB.out.size)⟩
/-- The matchers before place k are valid. -/
structure ChkAt (l : List Mt) (k : Nat) : Prop where
 small : ¬ 16 < l.length
 eq : chkM l = chkM (l.drop k)
theorem ChkAt.start {l : List Mt} (h : ¬ 16 < l.length) : ChkAt l 0 := ⟨h, rfl⟩
theorem ChkAt.next {l : List Mt} {k : Nat} (H : ChkAt l k) (hk : k < l.length) (h : chk1 l[k] = 0) : ChkAt l (k + 1) := ⟨H.small, by rw [H.eq, List.drop_eq_getElem_cons hk, chkM, if_pos h]⟩
theorem ChkAt.bad {l : List Mt} {k : Nat} (H : ChkAt l k) (hk : k < l.length) (h : chk1 l[k] ≠ 0) : chkA l = chk1 l[k] := by unfold chkA; rw [if_neg H.small, H.eq, List.drop_eq_getElem_cons hk, chkM, if_neg h]
theorem ChkAt.done {l : List Mt} (H : ChkAt l l.length) : chkA l = 0 := by unfold chkA; rw [if_neg H.small, H.eq, List.drop_length]; rfl
theorem mt_eta (m : Mt) : (⟨m.k, m.n, m.v⟩ : Mt) = m := rfl
set_option maxHeartbeats 2000000 in
theorem checkM_any (l : List Mt) (hl : l.length ≤ maxLen) (hs : ∀ m ∈ l, m.n.size ≤ maxLen ∧ m.v.size ≤ maxLen) (A : Option Addr) (c : Nat) (w : World) (hL : MS w w.heap.size A l) :
  Calls Tryz.prog 15 #[.slice A l.length c] w (ChkP (chkA l) w) := by
 unfold maxLen at hl
 have HL := Lib.hid hL
 have HZ := Lib.hid hs
 clear hL hs
 by_cases h16 : 16 < l.length
 ·have HE : Hid (chkA l = 4) := if_pos h16
  go_enter Tryz.func15, Tryz.ntmps15
  go_wp2
  go_ret
  exact ⟨okI HE.out.symm, Below.refl _ _⟩
 ·have HC := Lib.hid (ChkAt.start h16)
  go_enter Tryz.func15, Tryz.ntmps15
  go_wp2
  go_loopw [11] (fun i wr => ∃ k : Nat, k ≤ l.length ∧ i = .int .i64 k ∧ Hid (ChkAt l k) ∧ Hid (Below w.heap.size w wr)) (fun i _ => l.length - (intOf i).toNat)
  case atStart => exact ⟨0, by omega, rfl, HC, Below.refl _ _⟩
  case round =>
   clear HC
   obtain ⟨k, hk, rfl, H, HB⟩ := hrel
   by_cases hlt : k < l.length
   ·obtain ⟨b, off, rfl, hb, h1', h2', h3'⟩ := HL.out.at_ hlt
    have h1 := (HB.out.cell (p := ⟨b, off + k * 3, none⟩) hb).trans h1'
    have h2 := (HB.out.cell (p := ⟨b, off + k * 3 + 1, none⟩) hb).trans h2'
    have h3 := (HB.out.cell (p := ⟨b, off + k * 3 + 2, none⟩) hb).trans h3'
    have hbw : b < wr.heap.size := Nat.lt_of_lt_of_le hb HB.out.size
    clear h1' h2' h3'
    obtain ⟨z1, z2⟩ := HZ.out l[k] (List.getElem_mem hlt)
    have C := Lib.hid (fun w => checkOne_any l[k].k l[k].n l[k].v z1 z2 w)
    rw [mt_eta] at C
    have HB2 : Hid (Below w.heap.size w (wr.alloc (.cells #[.int .i64 l[k].k, .string l[k].n, .string l[k].v] 25))) := HB.out.alloc HB.out.size _
    clear z1 z2
    by_cases hz : chk1 l[k] = 0
    ·have HE := Lib.hid (H.out.next hlt hz)
     rw [hz] at C
     clear hz H
     go_wp2_with (go_at_call 36; (with_reducible refine (C.out _).mono ?_); rintro e w1 ⟨rfl, b1⟩)
     go_roundw
     case rel => exact ⟨k + 1, by omega, by go_num, HE, HB2.out.trans (b1.out.mono HB2.out.size)⟩
     case measure => simp [intOf]; omega
    ·have HE := Lib.hid (H.out.bad hlt hz)
     have hz' : (chk1 l[k] != 0) = true := by rw [bne, bneF hz]; rfl
     have hz2 := bneF hz
     clear hz H
     generalize chk1 l[k] = r at C HE hz' hz2
     go_wp2_with (go_at_call 36; (with_reducible refine (C.out _).mono ?_); rintro e w1 ⟨rfl, b1⟩)
     go_ret
     exact ⟨okI HE.out.symm, HB2.out.trans (b1.out.mono HB2.out.size)⟩
   ·obtain rfl : k = l.length := by omega
    have HE := Lib.hid H.out.done
    clear H
    go_wp2
    go_ret
    exact ⟨okI HE.out.symm, HB⟩
theorem mB_is {p s : ByteArray} (hp : p.size ≤ maxLen) (hs : s.size ≤ 1000000) (V : World) : Calls Tryz.prog 99 #[.string p, .string s] V (EmpP (mB p s) V) := Rx.match_is hp hs mB_iff V
theorem str_dec (a b : ByteArray) : (a.toList == b.toList) = decide (a = b) := by
 rw [Rx.str_eq]
 exact decide_eq_decide.2 ⟨fun h => ba_eq h, fun h => by rw [h]⟩
set_option maxHeartbeats 2000000 in
theorem matches_any (k : Int) (n v s : ByteArray) (hv : v.size ≤ maxLen) (hs : s.size ≤ 1000000) (w : World) : Calls Tryz.prog 71 #[.agg #[.int .i64 k, .string n, .string v], .string s] w (EmpP (fits ⟨k, n, v⟩ s) w) := by
 have HB : Hid (Below w.heap.size w (w.alloc (.cells #[.int .i64 k, .string n, .string v] 25))) := (Below.refl _ _).alloc (Nat.le_refl _) _
 have KM := Lib.hid (fun w => mB_is hv hs w)
 by_cases h1 : k = 1
 ·have HE : Hid (fits ⟨k, n, v⟩ s = (s.toList == v.toList)) := (fits1 h1 s).trans (str_dec s v).symm
  have e1 := bneT h1
  clear h1
  go_enter Tryz.func71, Tryz.ntmps71
  go_wp2
  go_ret
  exact ⟨okE HE.out.symm, HB⟩
 ·have e1 := bneF h1
  by_cases h2 : k = 2
  ·have HE : Hid (fits ⟨k, n, v⟩ s = !(s.toList == v.toList)) := by
    show _ = _
    rw [fits2 h2, str_dec]
    exact decide_not
   have e2 := bneT h2
   clear h1 h2
   go_enter Tryz.func71, Tryz.ntmps71
   go_wp2
   go_ret
   exact ⟨okE HE.out.symm, HB⟩
  ·have e2 := bneF h2
   by_cases h3 : k = 3
   ·have HE : Hid (fits ⟨k, n, v⟩ s = mB v s) := fits3 h3 s
    have e3 := bneT h3
    clear h1 h2 h3
    go_enter Tryz.func71, Tryz.ntmps71
    go_wp2_with (go_at_call 99; (with_reducible refine (KM.out _).mono ?_); rintro e w1 ⟨rfl, b1⟩)
    go_ret
    exact ⟨okE HE.out.symm, HB.out.trans (b1.out.mono HB.out.size)⟩
   ·have HE : Hid (fits ⟨k, n, v⟩ s = !mB v s) := by
     show _ = _
     unfold fits
     rw [if_neg h1, if_neg h2, if_neg h3]
    have e3 := bneF h3
    clear h1 h2 h3
    go_enter Tryz.func71, Tryz.ntmps71
    go_wp2_with (go_at_call 99; (with_reducible refine (KM.out _).mono ?_); rintro e w1 ⟨rfl, b1⟩)
    go_ret
    exact ⟨okE HE.out.symm, HB.out.trans (b1.out.mono HB.out.size)⟩
end Go.Proofs.YtdeppcddknakjaaGreatDoor.Mx
namespace Go.Proofs.YtdeppcddknakjaaGreatDoor.Mx
open Go.RowKit
open Go.Proofs.YtdeppcddknakjaaGreatDoor.Rx (EmpP SameP PreP MatP MatS ChkP pfxS pre check match_any check_any prefix_any empty_any hasPrefix_any emptyS)
open Go.Proofs.YtdeppcddknakjaaGreatDoor.Lab (nameB getL Lb LS)
/-- What Prefix returns. -/
def PrfP (p : ByteArray) (w : World) (e : Ending) (w' : World) : Prop := e = .returned (.tuple #[.string (preS p).1, .bool (preS p).2]) ∧ Hid (Below w.heap.size w w')
theorem prefix_is {p : ByteArray} (hp : p.size ≤ maxLen) (V : World) : Calls Tryz.prog 109 #[.string p] V (PrfP p V) :=
 (prefix_any p hp V).mono fun e w' ⟨u, all, he, hb, h⟩ => ⟨by rw [he, pre_of h.out], hb⟩
theorem hasP_is {s u : ByteArray} (hs : s.size ≤ maxLen) (hu : u.size ≤ maxLen) (V : World) : Calls Tryz.prog 187 #[.string s, .string u] V (SameP (pfxS s u) V) := hasPrefix_any s u hs hu V
theorem preS_max {p : ByteArray} (hp : p.size ≤ maxLen) : (preS p).1.size ≤ maxLen := Nat.le_trans (preS_size p) hp
set_option maxHeartbeats 2000000 in
theorem apart_any (p q : ByteArray) (hp : p.size ≤ maxLen) (hq : q.size ≤ maxLen) (w : World) : Calls Tryz.prog 169 #[.string p, .string q] w (EmpP (apart p q) w) := by
 have K1 := Lib.hid (fun w => prefix_is hp w)
 have K2 := Lib.hid (fun w => prefix_is hq w)
 have K3 := Lib.hid (fun w => hasP_is (preS_max hp) (preS_max hq) w)
 have K4 := Lib.hid (fun w => hasP_is (preS_max hq) (preS_max hp) w)
 cases h1 : pfxS (preS p).1 (preS q).1 with
 | true =>
  have HE : Hid (apart p q = false) := by
   show _ = _
   unfold apart
   rw [h1]
   rfl
  rw [h1] at K3
  unfold PrfP at K1 K2
  generalize (preS p).1 = a at K1 K3
  generalize (preS p).2 = a2 at K1
  generalize (preS q).1 = b at K2 K3
  generalize (preS q).2 = b2 at K2
  clear h1 K4
  go_enter Tryz.func169, Tryz.ntmps169
  go_wp2_with fail
  refine (K1.out _).mono ?_
  rintro e w1 ⟨rfl, b1⟩
  go_wp2_with fail
  refine (K2.out _).mono ?_
  rintro e w2 ⟨rfl, b2⟩
  go_wp2_with (go_at_call 187; (with_reducible refine (K3.out _).mono ?_); rintro e w3 ⟨rfl, rfl⟩)
  go_ret
  exact ⟨okE HE.out.symm, b1.out.trans (b2.out.mono b1.out.size)⟩
 | false =>
  have HE : Hid (apart p q = !pfxS (preS q).1 (preS p).1) := by
   show _ = _
   unfold apart
   rw [h1]
   rfl
  rw [h1] at K3
  obtain ⟨r, hr⟩ : ∃ r, r = pfxS (preS q).1 (preS p).1 := ⟨_, rfl⟩
  rw [← hr] at K4 HE
  unfold PrfP at K1 K2
  generalize (preS p).1 = a at K1 K3 K4
  generalize (preS p).2 = a2 at K1
  generalize (preS q).1 = b at K2 K3 K4
  generalize (preS q).2 = b2 at K2
  clear h1 hr
  go_enter Tryz.func169, Tryz.ntmps169
  go_wp2_with fail
  refine (K1.out _).mono ?_
  rintro e w1 ⟨rfl, b1⟩
  go_wp2_with fail
  refine (K2.out _).mono ?_
  rintro e w2 ⟨rfl, b2⟩
  go_wp2_with fail
  refine (K3.out _).mono ?_
  rintro e w3 ⟨rfl, rfl⟩
  go_wp2_with fail
  refine (K4.out _).mono ?_
  rintro e w3 ⟨rfl, rfl⟩
  go_wp2
  go_ret
  exact ⟨okE HE.out.symm, b1.out.trans (b2.out.mono b1.out.size)⟩
set_option maxHeartbeats 2000000 in
theorem excl_any (p : ByteArray) (k : Int) (n v : ByteArray) (hp : p.size ≤ maxLen) (hv : v.size ≤ 1000000) (w : World) : Calls Tryz.prog 147 #[.string p, .agg #[.int .i64 k, .string n, .string v]] w (EmpP (excl p ⟨k, n, v⟩) w) := by
 have HB : Hid (Below w.heap.size w (w.alloc (.cells #[.int .i64 k, .string n, .string v] 25))) := (Below.refl _ _).alloc (Nat.le_refl _) _
 have KM := Lib.hid (fun w => mB_is (s := v) hp hv w)
 have KA := Lib.hid (fun w => apart_any p v hp (by unfold maxLen; omega) w)
 by_cases h2 : k = 2
 ·have HE : Hid (excl p ⟨k, n, v⟩ = !mB p v) := excl2 h2
  have e2 := bneT h2
  clear h2
  go_enter Tryz.func147, Tryz.ntmps147
  go_wp2_with (go_at_call 99; (with_reducible refine (KM.out _).mono ?_); rintro e w1 ⟨rfl, b1⟩)
  go_ret
  exact ⟨okE HE.out.symm, HB.out.trans (b1.out.mono HB.out.size)⟩
 ·have e2 := bneF h2
  by_cases h4 : k = 4
  ·have HE : Hid (excl p ⟨k, n, v⟩ = apart p v) := excl4 h4
   have e4 := bneT h4
   clear h2 h4
   go_enter Tryz.func147, Tryz.ntmps147
   go_wp2_with (go_at_call 169; (with_reducible refine (KA.out _).mono ?_); rintro e w1 ⟨rfl, b1⟩)
   go_ret
   exact ⟨okE HE.out.symm, HB.out.trans (b1.out.mono HB.out.size)⟩
  ·have HE : Hid (excl p ⟨k, n, v⟩ = false) := by
    show _ = _
    unfold excl
    rw [if_neg h2, if_neg h4]
   have e4 := bneF h4
   clear h2 h4
   go_enter Tryz.func147, Tryz.ntmps147
   go_wp2
   go_ret
   exact ⟨okE HE.out.symm, HB⟩
set_option maxHeartbeats 2000000 in
theorem tells_any (x m : Mt) (hx : x.v.size ≤ 1000000) (hm : m.v.size ≤ 1000000) (w : World) : Calls Tryz.prog 112 #[.agg #[.int .i64 x.k, .string x.n, .string x.v], .agg #[.int .i64 m.k, .string m.n, .string m.v]] w (EmpP (tells x m) w) := by
 have HB : Hid (Below w.heap.size w ((w.alloc (.cells #[.int .i64 x.k, .string x.n, .string x.v] 25)).alloc (.cells #[.int .i64 m.k, .string m.n, .string m.v] 25))) := ((Below.refl _ _).alloc (Nat.le_refl _) _).alloc (by simp) _
 have KF := Lib.hid (fun w => matches_any m.k m.n m.v x.v (by unfold maxLen; omega) hx w)
 have KE := Lib.hid (fun w => excl_any x.v m.k m.n m.v (by unfold maxLen; omega) hm w)
 rw [mt_eta] at KF KE
 by_cases h1 : x.k = 1
 ·have HE : Hid (tells x m = fits m x.v) := tells1 h1
  have e1 := bneT h1
  clear h1
  go_enter Tryz.func112, Tryz.ntmps112
  go_wp2_with (go_at_call 71; (with_reducible refine (KF.out _).mono ?_); rintro e w1 ⟨rfl, b1⟩)
  go_ret
  exact ⟨okE HE.out.symm, HB.out.trans (b1.out.mono HB.out.size)⟩
 ·have e1 := bneF h1
  by_cases h3 : x.k = 3
  ·have HE : Hid (tells x m = excl x.v m) := tells3 h3
   have e3 := bneT h3
   clear h1 h3
   go_enter Tryz.func112, Tryz.ntmps112
   go_wp2_with (go_at_call 147; (with_reducible refine (KE.out _).mono ?_); rintro e w1 ⟨rfl, b1⟩)
   go_ret
   exact ⟨okE HE.out.symm, HB.out.trans (b1.out.mono HB.out.size)⟩
  ·have HE : Hid (tells x m = false) := by
    show _ = _
    unfold tells
    rw [if_neg h1, if_neg h3]
   have e3 := bneF h3
   clear h1 h3
   go_enter Tryz.func112, Tryz.ntmps112
   go_wp2
   go_ret
   exact ⟨okE HE.out.symm, HB⟩
/-- A matcher is returned. -/
def MtP (m : Mt) (w : World) (e : Ending) (w' : World) : Prop := e = .returned (.agg #[.int .i64 m.k, .string m.n, .string m.v]) ∧ Hid (Below w.heap.size w w')
theorem two_alloc (w : World) (c d : Array Value) (t u : TypeId) : Hid (Below w.heap.size w ((w.alloc (.cells c t)).alloc (.cells d u))) := ((Below.refl _ _).alloc (Nat.le_refl _) _).alloc (by simp) _
set_option maxHeartbeats 4000000 in
theorem neg_any (m : Mt) (w : World) : Calls Tryz.prog 19 #[.agg #[.int .i64 m.k, .string m.n, .string m.v]] w (MtP (neg m) w) := by
 by_cases h1 : m.k = 1
 ·have HE := Lib.hid (neg1 h1)
  have e1 := bneT h1
  clear h1
  go_enter Tryz.func19, Tryz.ntmps19
  go_wp2
  exact bodyPost_ret (v := .agg #[.int .i64 2, .string m.n, .string m.v]) (by simp [results, Tryz.f19, go_sem]) rfl ⟨by rw [HE.out], two_alloc _ _ _ _ _⟩
 ·have e1 := bneF h1
  by_cases h2 : m.k = 2
  ·have HE := Lib.hid (neg2 h2)
   have e2 := bneT h2
   clear h1 h2
   go_enter Tryz.func19, Tryz.ntmps19
   go_wp2
   exact bodyPost_ret (v := .agg #[.int .i64 1, .string m.n, .string m.v]) (by simp [results, Tryz.f19, go_sem]) rfl ⟨by rw [HE.out], two_alloc _ _ _ _ _⟩
  ·have e2 := bneF h2
   by_cases h3 : m.k = 3
   ·have HE := Lib.hid (neg3 h3)
    have e3 := bneT h3
    clear h1 h2 h3
    go_enter Tryz.func19, Tryz.ntmps19
    go_wp2
    exact bodyPost_ret (v := .agg #[.int .i64 4, .string m.n, .string m.v]) (by simp [results, Tryz.f19, go_sem]) rfl ⟨by rw [HE.out], two_alloc _ _ _ _ _⟩
   ·have e3 := bneF h3
    by_cases h4 : m.k = 4
    ·have HE := Lib.hid (neg4 h4)
     have e4 := bneT h4
     clear h1 h2 h3 h4
     go_enter Tryz.func19, Tryz.ntmps19
     go_wp2
     exact bodyPost_ret (v := .agg #[.int .i64 3, .string m.n, .string m.v]) (by simp [results, Tryz.f19, go_sem]) rfl ⟨by rw [HE.out], two_alloc _ _ _ _ _⟩
    ·have e4 := bneF h4
     have HE : Hid (neg m = ⟨0, ⟨#[]⟩, ⟨#[]⟩⟩) := by
      show _ = _
      unfold neg
      rw [if_neg h1, if_neg h2, if_neg h3, if_neg h4]
     clear h1 h2 h3 h4
     go_enter Tryz.func19, Tryz.ntmps19
     go_wp2
     exact bodyPost_ret (v := .agg #[.int .i64 0, .string ⟨#[]⟩, .string ⟨#[]⟩]) (by simp [results, Tryz.f19, go_sem]) rfl ⟨by rw [HE.out], two_alloc _ _ _ _ _⟩
theorem cell3 {w : World} {g : Nat} {a b c : Value} {t : TypeId} (h : w.heap[g]? = some (.cells #[a, b, c] t (0, 0))) : w.cell? ⟨g, 0, none⟩ = some a ∧ w.cell? ⟨g, 1, none⟩ = some b ∧ w.cell? ⟨g, 2, none⟩ = some c := by
 refine ⟨?_, ?_, ?_⟩ <;> simp [World.cell?, h]
theorem set3 {W : World} {g : Nat} {a b c : Value} {t : TypeId} (x y z : Value) (h : W.heap[g]? = some (.cells #[a, b, c] t (0, 0))) :
  (((W.setCell ⟨g, 0, none⟩ x).setCell ⟨g, 1, none⟩ y).setCell ⟨g, 2, none⟩ z).heap[g]? = some (.cells #[x, y, z] t (0, 0)) := by
 simp [World.setCell, Array.getElem?_modify, h]
theorem info25 : (Tryz.prog.info? 25).map (·.size) = some 3 := by kernel_rfl
theorem size2 (w : World) (c d : Array Value) (t u : TypeId) : ((w.alloc (.cells c t)).alloc (.cells d u)).heap.size = w.heap.size + 1 + 1 := by simp
/-- A matcher in the result's cell. -/
theorem mt_close {w w2 : World} {fn : Func} {p : Tmp} {tmps : Array Value} {c : Array Value} {a b d : Value} (hr : fn.results = #[.cell p 25]) (k : Int) (n v : ByteArray) (hp : tmps.getD p undef = .pointer (some ⟨w.heap.size + 1, 0, none⟩))
  (hb : Below ((w.alloc (.cells c 25)).alloc (.cells #[a, b, d] 25)).heap.size ((w.alloc (.cells c 25)).alloc (.cells #[a, b, d] 25)) w2) :
  bodyPost Tryz.prog fn (MtP ⟨k, n, v⟩ w) Exit.ret ⟨tmps, []⟩ (((w2.setCell ⟨w.heap.size + 1, 0, none⟩ (.int .i64 k)).setCell ⟨w.heap.size + 1, 1, none⟩ (.string n)).setCell ⟨w.heap.size + 1, 2, none⟩ (.string v)) := by
 have h0 : w2.heap[w.heap.size + 1]? = some (.cells #[a, b, d] 25 (0, 0)) := by
  rw [hb.block _ (by rw [size2]; omega)]
  have h := heap_alloc_new (w.alloc (.cells c 25)) (.cells #[a, b, d] 25)
  rwa [World.size_alloc] at h
 refine bodyPost_ret (results_cell_row hr _ _ (w.heap.size + 1) 25 #[.int .i64 k, .string n, .string v] (0, 0) _ hp (set3 _ _ _ h0) Tryz.underlying25 rfl info25) rfl ⟨rfl, ?_⟩
 have h2 : Below w.heap.size w w2 := (two_alloc w c #[a, b, d] 25 25).out.trans (hb.mono (by rw [size2]; omega))
 exact ((h2.setCell (show w.heap.size ≤ (⟨w.heap.size + 1, 0, none⟩ : Addr).block from Nat.le_succ _) _).setCell (show w.heap.size ≤ (⟨w.heap.size + 1, 1, none⟩ : Addr).block from Nat.le_succ _) _).setCell (show w.heap.size ≤ (⟨w.heap.size + 1, 2, none⟩ : Addr).block from Nat.le_succ _) _
set_option maxHeartbeats 4000000 in
theorem lit_any (m : Mt) (hv : m.v.size ≤ maxLen) (w : World) : Calls Tryz.prog 78 #[.agg #[.int .i64 m.k, .string m.n, .string m.v]] w (MtP (lit m) w) := by
 have KR := Lib.hid (fun w => isRegex_any m.k m.n m.v w)
 have KP := Lib.hid (fun w => prefix_is hv w)
 unfold PrfP at KP
 by_cases h : m.k = 3 ∨ m.k = 4
 ·have HD : decide (m.k = 3 ∨ m.k = 4) = true := decide_eq_true h
  rw [HD] at KR
  clear HD
  cases h2 : (preS m.v).2 with
  | true =>
   have HE := Lib.hid (lit_yes h h2)
   rw [h2] at KP
   clear h2
   generalize (preS m.v).1 = u at KP HE
   rcases h with h | h
   ·have HE' : Hid (lit m = ⟨1, m.n, u⟩) := by show _ = _; rw [HE.out, h]; rfl
    have e3 := bneT h
    clear h HE
    go_enter Tryz.func78, Tryz.ntmps78
    go_wp2_with fail
    refine (KR.out _).mono ?_
    rintro e w1 ⟨rfl, b1⟩
    obtain ⟨hc, hf⟩ := bcell b1.out
    go_wp2_with fail
    refine (KP.out _).mono ?_
    rintro e w2 ⟨rfl, b2⟩
    have B2 : Hid (Below ((w.alloc (.cells #[.int .i64 m.k, .string m.n, .string m.v] 25)).alloc (.cells #[.int .i64 0, .string ⟨#[]⟩, .string ⟨#[]⟩] 25)).heap.size ((w.alloc (.cells #[.int .i64 m.k, .string m.n, .string m.v] 25)).alloc (.cells #[.int .i64 0, .string ⟨#[]⟩, .string ⟨#[]⟩] 25)) w2) := b1.out.trans (b2.out.mono b1.out.size)
    clear hc hf
    obtain ⟨hc, hf⟩ := bcell B2.out
    go_wp2
    rw [HE'.out]
    exact mt_close rfl _ _ _ rfl B2.out
   ·have HE' : Hid (lit m = ⟨2, m.n, u⟩) := by show _ = _; rw [HE.out, h]; rfl
    have e3 := bneF (show m.k ≠ 3 by omega)
    clear h HE
    go_enter Tryz.func78, Tryz.ntmps78
    go_wp2_with fail
    refine (KR.out _).mono ?_
    rintro e w1 ⟨rfl, b1⟩
    obtain ⟨hc, hf⟩ := bcell b1.out
    go_wp2_with fail
    refine (KP.out _).mono ?_
    rintro e w2 ⟨rfl, b2⟩
    have B2 : Hid (Below ((w.alloc (.cells #[.int .i64 m.k, .string m.n, .string m.v] 25)).alloc (.cells #[.int .i64 0, .string ⟨#[]⟩, .string ⟨#[]⟩] 25)).heap.size ((w.alloc (.cells #[.int .i64 m.k, .string m.n, .string m.v] 25)).alloc (.cells #[.int .i64 0, .string ⟨#[]⟩, .string ⟨#[]⟩] 25)) w2) := b1.out.trans (b2.out.mono b1.out.size)
    clear hc hf
    obtain ⟨hc, hf⟩ := bcell B2.out
    go_wp2
    rw [HE'.out]
    exact mt_close rfl _ _ _ rfl B2.out
  | false =>
   have HE := Lib.hid (lit_no h2)
   rw [h2] at KP
   clear h2 h
   generalize (preS m.v).1 = u at KP
   go_enter Tryz.func78, Tryz.ntmps78
   go_wp2_with fail
   refine (KR.out _).mono ?_
   rintro e w1 ⟨rfl, b1⟩
   obtain ⟨hc, hf⟩ := bcell b1.out
   go_wp2_with fail
   refine (KP.out _).mono ?_
   rintro e w2 ⟨rfl, b2⟩
   have B2 : Hid (Below ((w.alloc (.cells #[.int .i64 m.k, .string m.n, .string m.v] 25)).alloc (.cells #[.int .i64 0, .string ⟨#[]⟩, .string ⟨#[]⟩] 25)).heap.size ((w.alloc (.cells #[.int .i64 m.k, .string m.n, .string m.v] 25)).alloc (.cells #[.int .i64 0, .string ⟨#[]⟩, .string ⟨#[]⟩] 25)) w2) := b1.out.trans (b2.out.mono b1.out.size)
   clear hc hf
   obtain ⟨hc, hf⟩ := bcell B2.out
   go_wp2
   rw [HE.out]
   exact mt_close rfl _ _ _ rfl B2.out
 ·have HE : Hid (lit m = m) := by show _ = _; unfold lit; rw [if_neg h]
  have HD : decide (m.k = 3 ∨ m.k = 4) = false := decide_eq_false h
  rw [HD] at KR
  clear HD h
  go_enter Tryz.func78, Tryz.ntmps78
  go_wp2_with fail
  refine (KR.out _).mono ?_
  rintro e w1 ⟨rfl, b1⟩
  obtain ⟨hc, hf⟩ := bcell b1.out
  go_wp2
  rw [HE.out]
  exact mt_close rfl _ _ _ rfl b1.out
end Go.Proofs.YtdeppcddknakjaaGreatDoor.Mx
namespace Go.Proofs.YtdeppcddknakjaaGreatDoor.Mx
open Go.RowKit
open Go.Proofs.YtdeppcddknakjaaGreatDoor.Rx (EmpP SameP PreP MatP MatS ChkP pfxS pre check match_any check_any prefix_any empty_any hasPrefix_any emptyS)
open Go.Proofs.YtdeppcddknakjaaGreatDoor.Lab (nameB getL Lb LS)
/-- An index: whether there is one. -/
def IdxP (b : Bool) (w : World) (e : Ending) (w' : World) : Prop := ∃ i : Int, e = .returned (.int .i64 i) ∧ decide (0 ≤ i) = b ∧ Hid (Below w.heap.size w w')
/-- A predicate that a function value decides, one that captures. -/
def PredC (g : Nat) (lb : Array Value) (p : Mt → Bool) (l : List Mt) (w : World) : Prop := ∀ W x, x ∈ l → Below w.heap.size w W → Calls Tryz.prog g (#[.agg #[.int .i64 x.k, .string x.n, .string x.v]] ++ lb) W (EmpP (p x) W)
/-- .. and a method value. -/
def PredM (g : Nat) (u : Value) (p : Mt → Bool) (l : List Mt) (w : World) : Prop := ∀ W x, x ∈ l → Below w.heap.size w W → Calls Tryz.prog g #[u, .agg #[.int .i64 x.k, .string x.n, .string x.v]] W (EmpP (p x) W)
set_option maxHeartbeats 2000000 in
theorem idxC_any (g : Nat) (lb : Array Value) (eg : ∀ args w, (callFunc g args).run Tryz.prog w = .ok (.enter g args) w) (p : Mt → Bool) (l : List Mt) (hl : l.length ≤ maxLen) (A : Option Addr) (c : Nat) (w : World) (hL : MS w w.heap.size A l) (hp : PredC g lb p l w) :
  Calls Tryz.prog 73 #[.slice A l.length c, .func (.func g) #[] lb] w (IdxP (l.any p) w) := by
 unfold maxLen at hl
 have HL := Lib.hid hL
 have HP := Lib.hid hp
 clear hL hp
 go_enter Tryz.func73, Tryz.ntmps73
 go_wp2
 go_loopw [5, 8] (fun _ i wr => ∃ k : Nat, k ≤ l.length ∧ i = .int .i64 k ∧ Hid (∀ j (hj : j < l.length), j < k → p l[j] = false) ∧ Hid (Below w.heap.size w wr)) (fun _ i _ => l.length - (intOf i).toNat)
 case atStart => exact ⟨0, by omega, rfl, fun j _ h => by omega, Below.refl _ _⟩
 case round =>
  obtain ⟨k, hk, rfl, H, HB⟩ := hrel
  by_cases hlt : k < l.length
  ·obtain ⟨b, off, rfl, hb, h1', h2', h3'⟩ := HL.out.at_ hlt
   have h1 := (HB.out.cell (p := ⟨b, off + k * 3, none⟩) hb).trans h1'
   have h2 := (HB.out.cell (p := ⟨b, off + k * 3 + 1, none⟩) hb).trans h2'
   have h3 := (HB.out.cell (p := ⟨b, off + k * 3 + 2, none⟩) hb).trans h3'
   clear h1' h2' h3'
   have C := Lib.hid (HP.out wr l[k] (List.getElem_mem hlt) HB.out)
   cases hq : p l[k] with
   | true =>
    rw [hq] at C
    have HE : Hid (l.any p = true) := List.any_eq_true.2 ⟨l[k], List.getElem_mem hlt, hq⟩
    clear H hq
    go_wp2_with (go_at_fn g; (with_reducible refine C.out.mono ?_); rintro e w1 ⟨rfl, b1⟩)
    go_ret
    exact ⟨_, rfl, by rw [HE.out]; exact decide_eq_true (by omega), HB.out.trans (b1.out.mono HB.out.size)⟩
   | false =>
    rw [hq] at C
    have HE : Hid (∀ j (hj : j < l.length), j < k + 1 → p l[j] = false) := fun j hj h => by
     rcases Nat.lt_or_ge j k with h3 | h3
     ·exact H.out j hj h3
     ·obtain rfl : j = k := by omega
      exact hq
    clear H hq
    go_wp2_with (go_at_fn g; (with_reducible refine C.out.mono ?_); rintro e w1 ⟨rfl, b1⟩)
    go_roundw
    case rel => exact ⟨k + 1, by omega, by go_num, HE, HB.out.trans (b1.out.mono HB.out.size)⟩
    case measure => simp [intOf]; omega
  ·obtain rfl : k = l.length := by omega
   have HE : Hid (l.any p = false) := List.any_eq_false.2 fun x hx => by
    obtain ⟨j, hj, rfl⟩ := List.getElem_of_mem hx
    simp [H.out j hj hj]
   clear H
   go_wp2
   go_ret
   exact ⟨-1, rfl, by rw [HE.out]; rfl, HB⟩
theorem hasC_any (g : Nat) (lb : Array Value) (eg : ∀ args w, (callFunc g args).run Tryz.prog w = .ok (.enter g args) w) (p : Mt → Bool) (l : List Mt) (hl : l.length ≤ maxLen) (A : Option Addr) (c : Nat) (w : World) (hL : MS w w.heap.size A l) (hp : PredC g lb p l w) :
  Calls Tryz.prog 40 #[.slice A l.length c, .func (.func g) #[] lb] w (EmpP (l.any p) w) := by
 have C := Lib.hid (idxC_any g lb eg p l hl A c w hL hp)
 clear hL hp
 go_enter Tryz.func40, Tryz.ntmps40
 go_wp2_with (go_at_call 73; (with_reducible refine C.out.mono ?_); rintro e w' ⟨i, rfl, hi, hb⟩)
 go_ret
 exact ⟨rfl, hb⟩
set_option maxHeartbeats 2000000 in
theorem idxM_any (g : Nat) (u : Value) (eg : ∀ args w, (callFunc g args).run Tryz.prog w = .ok (.enter g args) w) (p : Mt → Bool) (l : List Mt) (hl : l.length ≤ maxLen) (A : Option Addr) (c : Nat) (w : World) (hL : MS w w.heap.size A l) (hp : PredM g u p l w) :
  Calls Tryz.prog 73 #[.slice A l.length c, .func (.func g) #[u] #[]] w (IdxP (l.any p) w) := by
 unfold maxLen at hl
 have HL := Lib.hid hL
 have HP := Lib.hid hp
 clear hL hp
 go_enter Tryz.func73, Tryz.ntmps73
 go_wp2
 go_loopw [5, 8] (fun _ i wr => ∃ k : Nat, k ≤ l.length ∧ i = .int .i64 k ∧ Hid (∀ j (hj : j < l.length), j < k → p l[j] = false) ∧ Hid (Below w.heap.size w wr)) (fun _ i _ => l.length - (intOf i).toNat)
 case atStart => exact ⟨0, by omega, rfl, fun j _ h => by omega, Below.refl _ _⟩
 case round =>
  obtain ⟨k, hk, rfl, H, HB⟩ := hrel
  by_cases hlt : k < l.length
  ·obtain ⟨b, off, rfl, hb, h1', h2', h3'⟩ := HL.out.at_ hlt
   have h1 := (HB.out.cell (p := ⟨b, off + k * 3, none⟩) hb).trans h1'
   have h2 := (HB.out.cell (p := ⟨b, off + k * 3 + 1, none⟩) hb).trans h2'
   have h3 := (HB.out.cell (p := ⟨b, off + k * 3 + 2, none⟩) hb).trans h3'
   clear h1' h2' h3'
   have C := Lib.hid (HP.out wr l[k] (List.getElem_mem hlt) HB.out)
   cases hq : p l[k] with
   | true =>
    rw [hq] at C
    have HE : Hid (l.any p = true) := List.any_eq_true.2 ⟨l[k], List.getElem_mem hlt, hq⟩
    clear H hq
    go_wp2_with (go_at_fn g; (with_reducible refine C.out.mono ?_); rintro e w1 ⟨rfl, b1⟩)
    go_ret
    exact ⟨_, rfl, by rw [HE.out]; exact decide_eq_true (by omega), HB.out.trans (b1.out.mono HB.out.size)⟩
   | false =>
    rw [hq] at C
    have HE : Hid (∀ j (hj : j < l.length), j < k + 1 → p l[j] = false) := fun j hj h => by
     rcases Nat.lt_or_ge j k with h3 | h3
     ·exact H.out j hj h3
     ·obtain rfl : j = k := by omega
      exact hq
    clear H hq
    go_wp2_with (go_at_fn g; (with_reducible refine C.out.mono ?_); rintro e w1 ⟨rfl, b1⟩)
    go_roundw
    case rel => exact ⟨k + 1, by omega, by go_num, HE, HB.out.trans (b1.out.mono HB.out.size)⟩
    case measure => simp [intOf]; omega
  ·obtain rfl : k = l.length := by omega
   have HE : Hid (l.any p = false) := List.any_eq_false.2 fun x hx => by
    obtain ⟨j, hj, rfl⟩ := List.getElem_of_mem hx
    simp [H.out j hj hj]
   clear H
   go_wp2
   go_ret
   exact ⟨-1, rfl, by rw [HE.out]; rfl, HB⟩
theorem hasM_any (g : Nat) (u : Value) (eg : ∀ args w, (callFunc g args).run Tryz.prog w = .ok (.enter g args) w) (p : Mt → Bool) (l : List Mt) (hl : l.length ≤ maxLen) (A : Option Addr) (c : Nat) (w : World) (hL : MS w w.heap.size A l) (hp : PredM g u p l w) :
  Calls Tryz.prog 40 #[.slice A l.length c, .func (.func g) #[u] #[]] w (EmpP (l.any p) w) := by
 have C := Lib.hid (idxM_any g u eg p l hl A c w hL hp)
 clear hL hp
 go_enter Tryz.func40, Tryz.ntmps40
 go_wp2_with (go_at_call 73; (with_reducible refine C.out.mono ?_); rintro e w' ⟨i, rfl, hi, hb⟩)
 go_ret
 exact ⟨rfl, hb⟩
end Go.Proofs.YtdeppcddknakjaaGreatDoor.Mx
namespace Go.Proofs.YtdeppcddknakjaaGreatDoor.Mx
open Go.RowKit
open Go.Sort (grow)
open Go.Proofs.YtdeppcddknakjaaGreatDoor.Rx (EmpP SameP PreP MatP MatS ChkP pfxS pre check match_any check_any prefix_any empty_any hasPrefix_any emptyS)
open Go.Proofs.YtdeppcddknakjaaGreatDoor.Lab (nameB getL Lb LS)
theorem below_of {P : Program} {f : FuncId} {args : Array Value} {w : World} {b : Bool} (h : Calls P f args w (EmpP b w)) : Calls P f args w fun e w' => e = .returned (.bool b) ∧ Below w.heap.size w w' := h.mono fun _ _ ⟨he, hb⟩ => ⟨he, hb.out⟩
/-- Sizes of labels. -/
structure Lz (ls : List Lb) : Prop where
 len : ls.length ≤ 100000
 v : ∀ x ∈ ls, x.v.size ≤ 100000
theorem getL_size {ls : List Lb} (h : ∀ x ∈ ls, x.v.size ≤ 100000) (n : ByteArray) : (getL ls n).size ≤ 100000 := by
 induction ls with
 | nil => exact (show 0 ≤ 100000 by omega)
 | cons x r ih =>
  rw [Lab.getL_cons]
  split
  ·exact h x (List.mem_cons_self ..)
  ·exact ih fun y hy => h y (List.mem_cons_of_mem _ hy)
set_option maxHeartbeats 4000000 in
theorem matchesLabels_any (m : Mt) (hv : m.v.size ≤ maxLen) (ls : List Lb) (hz : Lz ls) (A : Option Addr) (c : Nat) (w : World) (hL : LS w w.heap.size A ls) :
  Calls Tryz.prog 39 #[.agg #[.int .i64 m.k, .string m.n, .string m.v], .slice A ls.length c] w (EmpP (fits m (getL ls m.n)) w) := by
 have HL := Lib.hid hL
 have HZ := Lib.hid (getL_size hz.v m.n)
 have HN := Lib.hid hz.len
 obtain ⟨W, hW⟩ : ∃ W, W = w.alloc (.cells #[.int .i64 m.k, .string m.n, .string m.v] 25) := ⟨_, rfl⟩
 have HB : Hid (Below w.heap.size w W) := by rw [hW]; exact (Below.refl _ _).alloc (Nat.le_refl _) _
 have hq0 : ∀ dd os, (grow (redrawn W dd) os).cell? ⟨w.heap.size, 0, none⟩ = some (.int .i64 m.k) := fun dd os => cell_regrown (by rw [hW]; simp) dd os
 have hq1 : ∀ dd os, (grow (redrawn W dd) os).cell? ⟨w.heap.size, 1, none⟩ = some (.string m.n) := fun dd os => cell_regrown (by rw [hW]; simp) dd os
 have hq2 : ∀ dd os, (grow (redrawn W dd) os).cell? ⟨w.heap.size, 2, none⟩ = some (.string m.v) := fun dd os => cell_regrown (by rw [hW]; simp) dd os
 have GA : Hid (∀ dd os, Calls Tryz.prog 72 #[.slice A ls.length c, .string m.n] (grow (redrawn W dd) os) fun e w' => e = .returned (.string (getL ls m.n)) ∧ Below (grow (redrawn W dd) os).heap.size (grow (redrawn W dd) os) w') := fun dd os =>
  Lab.get_any ls HN.out m.n A c _ (LS_up (LS_up HL.out HB.out) (below_regrown _ dd os))
 have GB : Hid (∀ dd os, Calls Tryz.prog 71 #[.agg #[.int .i64 m.k, .string m.n, .string m.v], .string (getL ls m.n)] (grow (redrawn W dd) os) fun e w' => e = .returned (.bool (fits m (getL ls m.n))) ∧ Below (grow (redrawn W dd) os).heap.size (grow (redrawn W dd) os) w') := fun dd os =>
  below_of (matches_any m.k m.n m.v (getL ls m.n) hv (by have := HZ.out; omega) _)
 have mixed : Tryz.prog.follows .mixedOrders = true := by kernel_rfl
 generalize fits m (getL ls m.n) = r at *
 generalize getL ls m.n = gg at *
 have HW := Lib.hid hW
 clear hW hL hz
 go_enter Tryz.func39, Tryz.ntmps39
 go_wp2
 rw [← HW.out]
 refine wp_region_quiet_below (by assumption) (by kernel_rfl) ?_
 iterate 4 quiet_step (fail)
 quiet_step (exact Calls.regrown_of (GA.out _ _))
 quiet_step (exact Calls.regrown_of (GB.out _ _))
 quiet_step (fail)
 refine wpQuiet_nil ?_
 intro _ hw'
 obtain ⟨⟨dq, osq⟩, hw''⟩ := hw'
 subst hw''
 have HR : Hid (Below w.heap.size w (grow (redrawn W dq) osq)) := HB.out.trans ((below_regrown W dq osq).mono HB.out.size)
 generalize grow (redrawn W dq) osq = WZ at *
 go_wp2
 go_ret
 exact ⟨rfl, HR⟩
set_option maxHeartbeats 4000000 in
theorem refuses38 (m : Mt) (hv : m.v.size ≤ maxLen) (ls : List Lb) (hz : Lz ls) (A : Option Addr) (c bx : Nat) (w : World) (hL : LS w w.heap.size A ls) (hx : w.cell? ⟨bx, 0, none⟩ = some (.slice A ls.length c)) :
  Calls Tryz.prog 38 #[.agg #[.int .i64 m.k, .string m.n, .string m.v], .pointer (some ⟨bx, 0, none⟩)] w (EmpP (!fits m (getL ls m.n)) w) := by
 have hlt := World.block_lt_of_cell? w _ hx
 have hlt' : bx < w.heap.size := hlt
 have HB : Hid (Below w.heap.size w (w.alloc (.cells #[.int .i64 m.k, .string m.n, .string m.v] 25))) := (Below.refl _ _).alloc (Nat.le_refl _) _
 have C := Lib.hid (matchesLabels_any m hv ls hz A c _ (LS_up hL HB.out))
 clear hL hlt
 go_enter Tryz.func38, Tryz.ntmps38
 go_wp2_with (go_at_call 39; (with_reducible refine C.out.mono ?_); rintro e w1 ⟨rfl, b1⟩)
 go_ret
 exact ⟨rfl, HB.out.trans (b1.out.mono HB.out.size)⟩
structure Sz' (l : List Mt) : Prop where
 len : l.length ≤ maxLen
 sz : ∀ m ∈ l, m.n.size ≤ maxLen ∧ m.v.size ≤ maxLen
theorem any_sat (l : List Mt) (g : ByteArray → ByteArray) : (!l.any fun m => !fits m (g m.n)) = satG l g := by
 unfold satG
 induction l with
 | nil => rfl
 | cons m l ih => rw [List.any_cons, List.all_cons, Bool.not_or, ih, Bool.not_not]
set_option maxHeartbeats 4000000 in
theorem matches17 (l : List Mt) (hl : Sz' l) (ls : List Lb) (hz : Lz ls) (A C : Option Addr) (c d : Nat) (w : World) (hM : MS w w.heap.size A l) (hL : LS w w.heap.size C ls) :
  Calls Tryz.prog 17 #[.slice A l.length c, .slice C ls.length d] w (EmpP (matA l ls) w) := by
 have HB : Hid (Below w.heap.size w (w.alloc (.cells #[.slice C ls.length d] 23))) := (Below.refl _ _).alloc (Nat.le_refl _) _
 have KC := Lib.hid (checkM_any l hl.len hl.sz A c _ (hM.up HB.out))
 have HM := Lib.hid hM
 have HL := Lib.hid hL
 clear hM hL
 have eg : ∀ args w, (callFunc 38 args).run Tryz.prog w = .ok (.enter 38 args) w := enters_of Tryz.func38 (by kernel_rfl) rfl
 by_cases hc : chkA l = 0
 ·rw [hc] at KC
  have HE : Hid (matA l ls = !l.any fun m => !fits m (getL ls m.n)) := by
   show _ = _
   rw [any_sat]
   unfold matA
   rw [hc]
   rfl
  clear hc
  go_enter Tryz.func17, Tryz.ntmps17
  go_wp2_with fail
  refine KC.out.mono ?_
  rintro e w1 ⟨rfl, b1⟩
  have HB1 : Hid (Below w.heap.size w w1) := HB.out.trans (b1.out.mono HB.out.size)
  have KH := Lib.hid (hasC_any 38 #[.pointer (some ⟨w.heap.size, 0, none⟩)] eg (fun m => !fits m (getL ls m.n)) l hl.len A c w1 (HM.out.up HB1.out) (fun W x hx hb => by
   have h1 : W.cell? ⟨w.heap.size, 0, none⟩ = some (.slice C ls.length d) := by
    rw [(b1.out.trans (hb.mono b1.out.size)).cell (p := ⟨w.heap.size, 0, none⟩) (by simp)]
    simp
   exact refuses38 x (hl.sz x hx).2 ls hz C d w.heap.size W (LS_up HL.out (HB1.out.trans (hb.mono HB1.out.size))) h1))
  go_wp2_with (go_at_call 40; (with_reducible refine KH.out.mono ?_); rintro e w2 ⟨rfl, b2⟩)
  go_ret
  exact ⟨okE HE.out.symm, HB1.out.trans (b2.out.mono HB1.out.size)⟩
 ·have HE : Hid (matA l ls = false) := by
   show _ = _
   unfold matA
   rw [decide_eq_false hc]
   rfl
  have e0 := bneF hc
  clear hc
  generalize chkA l = r at *
  go_enter Tryz.func17, Tryz.ntmps17
  go_wp2_with (go_at_call 15; (with_reducible refine KC.out.mono ?_); rintro e w1 ⟨rfl, b1⟩)
  go_ret
  exact ⟨okE HE.out.symm, HB.out.trans (b1.out.mono HB.out.size)⟩
end Go.Proofs.YtdeppcddknakjaaGreatDoor.Mx
