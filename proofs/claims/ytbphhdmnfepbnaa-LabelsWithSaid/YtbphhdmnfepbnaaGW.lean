/- Layer 5: the calls of the laws. -/
import Derived.Test.YtbphhdmnfepbnaaAW
import Derived.Test.YtbphhdmnfepbnaaLZ
import Derived.Test.YtbphhdmnfepbnaaLF
import Derived.Test.YtbphhdmnfepbnaaLJ
import Derived.Test.YtbphhdmnfepbnaaLH
import Derived.Test.YtbphhdmnfepbnaaGA
set_option linter.unusedVariables false
set_option linter.unusedSimpArgs false
namespace Go.Proofs.Ytbphhdmnfepbnaa.Lab
open Go.RowKit
/-- What came in is as it was. -/
def RB (w0 V : World) : Prop := Below w0.heap.size w0 V
theorem RB.refl (w : World) : RB w w := Below.refl _ _
theorem RB.step {w0 V w' : World} (h : RB w0 V) (hb : Below V.heap.size V w') : RB w0 w' := Below.trans h (hb.mono h.size)
theorem RB.alloc {w0 V : World} (h : RB w0 V) (o : Obj) : RB w0 (V.alloc o) := Below.alloc h h.size o
theorem RB.drew {w0 V : World} (h : RB w0 V) : RB w0 V.drew := Below.drew h
theorem RB.drewN {w0 V : World} (h : RB w0 V) (n : Nat) : RB w0 (V.drewN n) := below_drewN h n
theorem LS.rb {w0 V : World} {A : Option Addr} {l : List Lb} (h : LS w0 w0.heap.size A l) (hb : RB w0 V) : LS V V.heap.size A l := (h.below hb).more hb.size
theorem SS.rb {w0 V : World} {A : Option Addr} {l : List ByteArray} (h : SS w0 w0.heap.size A l) (hb : RB w0 V) : SS V V.heap.size A l := (h.below hb).more hb.size
/-- Small enough. -/
structure Sm (l : List Lb) : Prop where
  len : l.length ≤ 17
  sz : ∀ x ∈ l, x.n.size ≤ 300 ∧ x.v.size ≤ 300
theorem Sm.nil : Sm [] := ⟨by simp, by simp⟩
theorem great_sm {l : List Lb} (h : greatL l = false) : Sm l := by
  unfold greatL at h
  rw [Bool.or_eq_false_iff] at h
  refine ⟨by have := of_decide_eq_false h.2; omega, fun x hx => ?_⟩
  have h1 := List.any_eq_false.1 h.1 x hx
  unfold bigX at h1
  simp at h1
  omega
theorem Sm.maxLen_ {l : List Lb} (h : Sm l) : l.length ≤ maxLen := by have := h.len; unfold maxLen; omega
theorem Sm.max {l : List Lb} (h : Sm l) : ∀ x ∈ l, x.n.size ≤ maxLen ∧ x.v.size ≤ maxLen := fun x hx => by have := h.sz x hx; unfold maxLen; omega
theorem Sm.hun {l : List Lb} (h : Sm l) : l.length ≤ 100000 := by have := h.len; omega
theorem Sm.huns {l : List Lb} (h : Sm l) : ∀ x ∈ l, x.n.size ≤ 100000 ∧ x.v.size ≤ 100000 := fun x hx => by have := h.sz x hx; omega
theorem Sm.fmt {l : List Lb} (h : Sm l) : (fmtL l).length ≤ 20000 := fmtL_bd h.len h.sz
theorem Sm.fmt2 {l : List Lb} (h : Sm l) : (fmtL l).length ≤ 1000000 := Nat.le_trans h.fmt (by omega)
theorem Sm.keep {l : List Lb} (h : Sm l) (b : Bool) (ns : List ByteArray) : Sm (keepL b ns l) := ⟨Nat.le_trans (keepL_len b ns l) h.len, fun x hx => h.sz x (List.mem_filter.1 hx).1⟩
theorem chkL_cons {o : Option ByteArray} {x : Lb} {r : List Lb} (h : chkL o (x :: r) = 0) : nameB x.n = true ∧ 0 < x.v.size ∧ x.v.size ≤ 200 ∧ leP x.n o = false ∧ chkL (some x.n) r = 0 := by
  rw [chkL] at h
  split at h
  · exact absurd h (by decide)
  · rename_i h1
    split at h
    · exact absurd h (by decide)
    · split at h
      · exact absurd h (by decide)
      · split at h
        · exact absurd h (by decide)
        · rename_i h4
          exact ⟨by simpa using h1, by omega, by omega, by simpa using h4, h⟩
theorem chkL_mk {o : Option ByteArray} {x : Lb} {r : List Lb} (h1 : nameB x.n = true) (h2 : 0 < x.v.size) (h3 : x.v.size ≤ 200) (h4 : leP x.n o = false) (h5 : chkL (some x.n) r = 0) : chkL o (x :: r) = 0 := by
  rw [chkL, if_neg (by simp [h1]), if_neg (by omega), if_neg (by omega), if_neg (by simp [h4]), h5]
theorem nameB_size {s : ByteArray} (h : nameB s = true) : 0 < s.size ∧ s.size ≤ 60 := by
  unfold nameB at h
  simp only [Bool.and_eq_true, decide_eq_true_iff] at h
  exact h.1.1
theorem chkL_sz : ∀ (o : Option ByteArray) (l : List Lb), chkL o l = 0 → ∀ x ∈ l, x.n.size ≤ 300 ∧ x.v.size ≤ 300
  | o, [], _ => by simp
  | o, y :: r, h => by
    intro x hx
    obtain ⟨h1, h2, h3, _, h5⟩ := chkL_cons h
    rcases List.mem_cons.1 hx with rfl | hx
    · have := nameB_size h1; omega
    · exact chkL_sz _ r h5 x hx
theorem chk_sm {l : List Lb} (h : chk l = 0) : Sm l := by
  unfold chk at h
  split at h
  · cases h
  · exact ⟨by omega, chkL_sz none l h⟩
theorem parse_sm (l : List UInt8) : Sm (parseO l).1 := by
  unfold parseO
  split
  · exact Sm.nil
  · split
    · rename_i h; exact chk_sm h
    · exact Sm.nil

section
variable {w0 V : World}
theorem c_great1 (l : List Lb) (hm : l.length ≤ maxLen) (hz : ∀ x ∈ l, x.n.size ≤ maxLen ∧ x.v.size ≤ maxLen) (A : Option Addr) (c : Nat) (w : World) (hL : LS w w.heap.size A l) :
    Calls Try.prog 10 #[.slice (some ⟨w.heap.size, 0, none⟩) 1 1] (w.alloc (.cells #[.slice A l.length c] 22)) fun e w' => e = .returned (.bool (greatL l)) ∧ w.alloc (.cells #[.slice A l.length c] 22) = w' := by
  refine (great_any [⟨A, c, l⟩] (by simp) w.heap.size 1 _ ⟨fun j hj => ?_, fun x hx => ?_⟩).mono fun e w' ⟨he, hw⟩ => ⟨by rw [he]; simp [greatLL], hw⟩
  · match j, hj with
    | 0, _ => simp
  · rw [List.mem_singleton] at hx
    subst hx
    exact ⟨w.heap.size, hm, hz, hL.below ((Below.refl _ w).alloc (Nat.le_refl _) _)⟩
def MadePost (w0 : World) (l : List Lb) (e : Ending) (w' : World) : Prop := ∃ A c, e = .returned (.slice A l.length c) ∧ LS w' w'.heap.size A l ∧ RB w0 w'
theorem MadePost.of {l : List Lb} {e : Ending} {w' : World} (h0 : RB w0 V) (h : OwnPost l V e w') : MadePost w0 l e w' := by
  obtain ⟨v, rfl, ho, hb⟩ := h
  obtain ⟨A, c, rfl, hl⟩ := ho.form
  exact ⟨A, c, rfl, hl, h0.step hb⟩
def PairPost (w0 : World) (l : List Lb) (er : Int) (e : Ending) (w' : World) : Prop := ∃ A c, e = .returned (.tuple #[.slice A l.length c, .int .i64 er]) ∧ LS w' w'.heap.size A l ∧ RB w0 w'
theorem PairPost.of {t : List UInt8} {e : Ending} {w' : World} {m : List Lb} {er : Int} (h0 : RB w0 V) (hp : parseO t = (m, er)) (h : ParsePost t V e w') : PairPost w0 m er e w' := by
  obtain ⟨v, m', er', rfl, ho, hb, hp'⟩ := h
  rw [hp] at hp'
  cases hp'
  obtain ⟨A, c, rfl, hl⟩ := ho.form
  exact ⟨A, c, rfl, hl, h0.step hb⟩
theorem c_parse (s : ByteArray) (hs : s.size ≤ 100000) {m : List Lb} {er : Int} (hp : parseO s.data.toList = (m, er)) (h : RB w0 V) : Calls Try.prog 23 #[.string s] V (PairPost w0 m er) := (parse_any s hs V).mono fun _ _ => PairPost.of h hp
theorem c_refParse (s : ByteArray) (hs : s.size ≤ 100000) {m : List Lb} {er : Int} (hp : parseO s.data.toList = (m, er)) (h : RB w0 V) : Calls Try.prog 24 #[.string s] V (PairPost w0 m er) := (refParse_any s hs V).mono fun _ _ => PairPost.of h hp
theorem c_format (l : List Lb) (hl : Sm l) (A : Option Addr) (c : Nat) (hL : LS V V.heap.size A l) (h : RB w0 V) : Calls Try.prog 25 #[.slice A l.length c] V fun e w' => e = .returned (.string (mkS (fmtL l))) ∧ RB w0 w' := (format_any l hl.hun hl.huns hl.fmt2 A c V hL).mono fun _ _ ⟨he, hb⟩ => ⟨he, h.step hb⟩
theorem c_refFormat (l : List Lb) (hl : Sm l) (A : Option Addr) (c : Nat) (hL : LS V V.heap.size A l) (h : RB w0 V) : Calls Try.prog 26 #[.slice A l.length c] V fun e w' => e = .returned (.string (mkS (fmtL l))) ∧ RB w0 w' := (refFormat_any l hl.hun hl.huns hl.fmt2 A c V hL).mono fun _ _ ⟨he, hb⟩ => ⟨he, h.step hb⟩
theorem c_hash (l : List Lb) (hl : Sm l) (A : Option Addr) (c : Nat) (hL : LS V V.heap.size A l) (h : RB w0 V) : Calls Try.prog 27 #[.slice A l.length c] V fun e w' => e = .returned (.int .i64 (hashL (fmtL l))) ∧ RB w0 w' := (hashList_any l hl.hun hl.huns hl.fmt2 A c V hL).mono fun _ _ ⟨he, hb⟩ => ⟨he, h.step hb⟩
theorem c_refHash (l : List Lb) (hl : Sm l) (A : Option Addr) (c : Nat) (hL : LS V V.heap.size A l) (h : RB w0 V) : Calls Try.prog 28 #[.slice A l.length c] V fun e w' => e = .returned (.int .i64 (hashL (fmtL l))) ∧ RB w0 w' := (refHashList_any l hl.hun hl.huns hl.fmt2 A c V hL).mono fun _ _ ⟨he, hb⟩ => ⟨he, h.step hb⟩
theorem c_equal (a b : List Lb) (ha : a.length ≤ maxLen) (hb : b.length ≤ maxLen) (A C : Option Addr) (c d : Nat) (hA : LS V V.heap.size A a) (hC : LS V V.heap.size C b) (h : RB w0 V) : Calls Try.prog 14 #[.slice A a.length c, .slice C b.length d] V fun e w' => e = .returned (.bool (eqL a b)) ∧ RB w0 w' := (equal_any a b ha hb A C c d _ _ V hA hC).mono fun _ _ ⟨he, n, hn⟩ => ⟨he, by rw [hn]; exact h.drewN n⟩
theorem c_same (a : List Lb) (ha : a.length ≤ maxLen) (A C : Option Addr) (c d : Nat) (hA : LS V V.heap.size A a) (hC : LS V V.heap.size C a) (h : RB w0 V) : Calls Try.prog 14 #[.slice A a.length c, .slice C a.length d] V fun e w' => e = .returned (.bool true) ∧ RB w0 w' := (c_equal a a ha ha A C c d hA hC h).mono fun _ _ ⟨he, hn⟩ => ⟨by rw [he, eqL_iff.2 rfl], hn⟩
theorem c_check (l : List Lb) (hl : Sm l) (A : Option Addr) (c : Nat) (hL : LS V V.heap.size A l) (h : RB w0 V) : Calls Try.prog 17 #[.slice A l.length c] V fun e w' => e = .returned (.int .i64 (chk l)) ∧ RB w0 w' := (check_any l hl.maxLen_ hl.max A c V hL).mono fun _ _ ⟨he, hb⟩ => ⟨he, h.step hb⟩
theorem c_refCheck (l : List Lb) (hl : Sm l) (A : Option Addr) (c : Nat) (hL : LS V V.heap.size A l) (h : RB w0 V) : Calls Try.prog 18 #[.slice A l.length c] V fun e w' => e = .returned (.int .i64 (chk l)) ∧ RB w0 w' := (refCheck_any l hl.maxLen_ hl.max A c V hL).mono fun _ _ ⟨he, hb⟩ => ⟨he, h.step hb⟩
theorem c_keep (l : List Lb) (hl : Sm l) (A : Option Addr) (c : Nat) (ns : List ByteArray) (hn : ns.length ≤ maxLen) (C : Option Addr) (d : Nat) (hL : LS V V.heap.size A l) (hC : SS V V.heap.size C ns) (h : RB w0 V) : Calls Try.prog 19 #[.slice A l.length c, .slice C ns.length d] V (MadePost w0 (keepL true ns l)) := (keep_any l hl.hun A c ns hn C d V hL hC).mono fun _ _ => MadePost.of h
theorem c_refKeep (l : List Lb) (hl : Sm l) (A : Option Addr) (c : Nat) (ns : List ByteArray) (hn : ns.length ≤ maxLen) (C : Option Addr) (d : Nat) (hL : LS V V.heap.size A l) (hC : SS V V.heap.size C ns) (h : RB w0 V) : Calls Try.prog 20 #[.slice A l.length c, .slice C ns.length d] V (MadePost w0 (keepL true ns l)) := (refKeep_any l hl.hun A c ns hn C d V hL hC).mono fun _ _ => MadePost.of h
theorem c_drop (l : List Lb) (hl : Sm l) (A : Option Addr) (c : Nat) (ns : List ByteArray) (hn : ns.length ≤ maxLen) (C : Option Addr) (d : Nat) (hL : LS V V.heap.size A l) (hC : SS V V.heap.size C ns) (h : RB w0 V) : Calls Try.prog 21 #[.slice A l.length c, .slice C ns.length d] V (MadePost w0 (keepL false ns l)) := (drop_any l hl.hun A c ns hn C d V hL hC).mono fun _ _ => MadePost.of h
theorem c_refDrop (l : List Lb) (hl : Sm l) (A : Option Addr) (c : Nat) (ns : List ByteArray) (hn : ns.length ≤ maxLen) (C : Option Addr) (d : Nat) (hL : LS V V.heap.size A l) (hC : SS V V.heap.size C ns) (h : RB w0 V) : Calls Try.prog 22 #[.slice A l.length c, .slice C ns.length d] V (MadePost w0 (keepL false ns l)) := (refDrop_any l hl.hun A c ns hn C d V hL hC).mono fun _ _ => MadePost.of h
theorem c_compare (a b : List Lb) (ha : a.length ≤ maxLen) (hb : b.length ≤ maxLen) (A C : Option Addr) (c d : Nat) (hA : LS V V.heap.size A a) (hC : LS V V.heap.size C b) (h : RB w0 V) : Calls Try.prog 31 #[.slice A a.length c, .slice C b.length d] V fun e w' => e = .returned (.int .i64 (cmpL a b)) ∧ RB w0 w' := (compare_any a b ha hb A C c d V hA hC).mono fun _ _ ⟨he, hn⟩ => ⟨he, h.step hn⟩
theorem c_refCompare (a b : List Lb) (ha : a.length ≤ maxLen) (hb : b.length ≤ maxLen) (A C : Option Addr) (c d : Nat) (hA : LS V V.heap.size A a) (hC : LS V V.heap.size C b) (h : RB w0 V) : Calls Try.prog 32 #[.slice A a.length c, .slice C b.length d] V fun e w' => e = .returned (.int .i64 (cmpL a b)) ∧ RB w0 w' := (refCompare_any a b ha hb A C c d _ _ V hA hC).mono fun _ _ ⟨he, n, hn⟩ => ⟨he, by rw [hn]; exact h.drewN n⟩
theorem c_awake (h : RB w0 V) : Calls Try.prog 11 #[] V fun e w' => e = .returned (.bool true) ∧ RB w0 w' := (awake_any V).mono fun _ _ ⟨he, hb⟩ => ⟨he, h.step hb⟩
end
end Go.Proofs.Ytbphhdmnfepbnaa.Lab
