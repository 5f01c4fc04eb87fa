/- Layer 6: bytes that a call makes; Prefix and Quote of the program. -/
import Derived.Lib.AppendStr
import Derived.Lib.ConvBytes
import Derived.Laws.IdiomStrings
import Derived.Laws.BytesArg
import Derived.Test.YtilfggnhaehbcaaPN
set_option linter.unusedVariables false
set_option linter.unusedSimpArgs false
namespace Go.Proofs.Ytilfggnhaehbcaa.Rx
open Go.RowKit
theorem info5 : (Try.prog.info? 5).map (fun i => (i.zero, i.size, i.bytes)) = some (some (.int .u8 0), 1, 1) := by kernel_rfl
/-- v owns the bytes l. -/
def OwnB (w : World) (B : Nat) (v : Value) (l : List UInt8) : Prop := w.ownsRow B 5 1 v l.length (Lib.byteCells l)
theorem OwnB.snoc {w : World} {B n : Nat} {v : Value} {l m : List UInt8} {xs : List Value} (h : w.ownsRow B 5 1 v (l.length + n) (Lib.byteCells l ++ xs)) (hx : xs = Lib.byteCells m) (hn : n = m.length) : OwnB w B v (l ++ m) := by
  unfold OwnB
  subst hx
  subst hn
  rw [List.length_append, Lib.byteCells_append]
  exact h
theorem OwnB.conv {B : Nat} {W : World} {v : Value} {l : List UInt8} (h : OwnB W B v l) : ∃ A n cap, v = .slice A n cap ∧ (convert 41 9 (.slice A n cap)).run Try.prog W = .ok (.string ⟨l.toArray⟩) W := by
  rcases h.2 with ⟨rfl, h0⟩ | ⟨g, cap, cur, rfl, hr⟩
  · have : l = [] := List.eq_nil_of_length_eq_zero h0
    subst this
    refine ⟨none, 0, 0, rfl, ?_⟩
    exact run_convert_bytes_nil (P := Try.prog) W 41 5 Try.underlying41 Try.underlying5 0 0 9 Try.underlying9
  · refine ⟨_, _, _, rfl, run_convert_bytes_back W 41 9 5 ⟨g, 0, none⟩ cap l Try.underlying41 Try.underlying5 Try.underlying9 fun j hj => ?_⟩
    rw [World.ownsRow.cells (g := g) h rfl j (.int .u8 (l[j].toNat : Int)) (by simp [Lib.byteCells, List.getElem?_eq_getElem hj])]
theorem OwnB.lt {w : World} {B : Nat} {v : Value} {l : List UInt8} (h : OwnB w B v l) : ∀ g, v.ownBlock = some g → B ≤ g ∧ g < w.heap.size := World.ownsRow.lt h
theorem OwnB.below {w w' : World} {B : Nat} {v : Value} {l : List UInt8} (h : OwnB w B v l) (hb : Below w.heap.size w w') : OwnB w' B v l := by
  refine ⟨h.1, ?_⟩
  rcases h.2 with h0 | ⟨g, cap, cur, e, h1, h2, h3⟩
  · exact .inl h0
  · exact .inr ⟨g, cap, cur, e, h1, (hb.block g (by have := (World.ownsRow.lt h g (by rw [e]; rfl)).2; omega)).trans h2, h3⟩
theorem OwnB.nil (w : World) (B : Nat) : OwnB w B (.slice none 0 0) [] := World.ownsRow_nil _ _ _ _
/-- The prefix of a text. -/
def pre (l : List UInt8) : List UInt8 × Bool := if check l = 0 then (match parse l with | some r => prefix_ r | none => ([], false)) else ([], false)
theorem pre_no {l : List UInt8} (h : check l ≠ 0) : pre l = ([], false) := if_neg h
theorem pre_yes {l : List UInt8} {r : Re} (h : check l = 0) (hp : parse l = some r) : pre l = prefix_ r := by unfold pre; rw [if_pos h, hp]
def PreP (s : ByteArray) (w : World) (e : Ending) (w' : World) : Prop := ∃ (u : ByteArray) (all : Bool), e = .returned (.tuple #[.string u, .bool all]) ∧ Hid (Below w.heap.size w w') ∧ Hid (pre s.data.toList = (u.data.toList, all))
theorem lead_halt {p : Pe} (h : ∀ c, p ≠ .byte c .one) (l : List Re) : leadB (reF p :: l) = ([], false) := by
  cases p with
  | byte c r =>
    cases r with
    | one => exact absurd rfl (h c)
    | star => rw [reF, withRep, leadB]; intro c h; cases h
    | plus => rw [reF, withRep, leadB]; intro c h; cases h
    | opt => rw [reF, withRep, leadB]; intro c h; cases h
  | cls f r => cases r <;> (rw [reF, withRep, leadB]; intro c h; cases h)
  | sub e r => cases r <;> (rw [reF, withRep, leadB]; intro c h; cases h)
theorem drop_at {α : Type} (l : List α) {k : Nat} (h : k < l.length) : l.drop k = l[k] :: l.drop (k + 1) := List.drop_eq_getElem_cons h
theorem rp_zero {r : Rp} (h : r ≠ .one) : ((r.b.toNat : Int) != 0) = true := by cases r <;> first | exact absurd rfl h | rfl
/-- What the loop of Prefix looks at. -/
theorem fac_look {w : World} {T : Nat → Prop} {C : List Value} {p : Pe} (h : PeV w T C p) :
    (∃ c : UInt8, p = .byte c .one ∧ C[257]? = some (.bool true) ∧ C[258]? = some (.int .u8 (c.toNat : Int)) ∧ C[259]? = some (.int .u8 0)) ∨
    ((∀ c, p ≠ .byte c .one) ∧ (C[257]? = some (.bool false) ∨ (C[257]? = some (.bool true) ∧ ∃ n : Int, C[259]? = some (.int .u8 n) ∧ (n != 0) = true))) := by
  cases p with
  | byte c r =>
    rw [PeV] at h
    subst h
    have hf := facL_at (fun x => x == c) (.slice none 0 0) true c r.b
    by_cases hr : r = .one
    · subst hr
      exact .inl ⟨c, rfl, hf.2.1, hf.2.2.1, hf.2.2.2⟩
    · exact .inr ⟨fun d e => hr (by injection e), .inr ⟨hf.2.1, _, hf.2.2.2, rp_zero hr⟩⟩
  | cls f r =>
    rw [PeV] at h
    subst h
    exact .inr ⟨fun c e => (by cases e), .inl (facL_at _ _ _ _ _).2.1⟩
  | sub e r =>
    rw [PeV] at h
    obtain ⟨_, b, cap, h1, _⟩ := h
    subst h1
    exact .inr ⟨fun c e => (by cases e), .inl (facL_at _ _ _ _ _).2.1⟩
set_option maxHeartbeats 4000000 in
set_option maxRecDepth 100000 in
theorem prefix_any (s : ByteArray) (hs : s.size ≤ maxLen) (w : World) : Calls Try.prog 15 #[.string s] w (PreP s w) := by
  have ZL := Lib.hid Z47_len
  have ZZ := Lib.hid zero47'
  generalize Z47 = Z at *
  obtain ⟨i0, hi, hz0, hz1, hz2⟩ := info_parts info5
  have HI := Lib.hid hi
  have HZ0 := Lib.hid hz0
  have HZ1 := Lib.hid hz1
  have HZ2 := Lib.hid hz2
  clear hi hz0 hz1 hz2
  go_enter Try.func15, Try.ntmps15
  go_wp2_with fail
  refine (parse_any s hs w).mono ?_
  rintro e w1 ⟨v, n, rfl, b1, hn, hx⟩
  by_cases hc : check s.data.toList = 0
  · have hn0 : n = 0 := hn.out.trans hc
    subst hn0
    obtain ⟨x, ⟨hx0, b, cap, rfl, hbT, hal⟩, hp, hw⟩ := hx.out hc
    have HP := Lib.hid (pre_yes hc hp)
    clear hx hn hc hp
    have HAL := Lib.hid hal
    have HBT := Lib.hid hbT
    have HW := Lib.hid hw
    clear hal hbT hw
    by_cases hlen : 1 < x.length
    · have HE : Hid (pre s.data.toList = ([], false)) := by
        rw [HP.out]
        match x, hlen with
        | [], h => simp at h
        | [_], h => simp at h
        | a :: a' :: x, _ => rw [reE, reE]; rfl
      go_wp2_with fail
      go_ret2
      exact ⟨⟨#[]⟩, false, rfl, b1, HE⟩
    · obtain ⟨a, rfl⟩ : ∃ a, x = [a] := by
        match x, hx0.1, hlen with
        | [], h, _ => exact absurd rfl h
        | [a], _, _ => exact ⟨a, rfl⟩
        | a :: a' :: x, _, h => simp at h
      obtain ⟨A, c2, hcell, hfs⟩ := HAL.out.at_ 0 (by simp)
      have HFS : Hid (FsV w1 (Fresh w w1) A a) := hfs
      have hcell : w1.cell? ⟨b, 0, none⟩ = some (.slice A a.length c2) := hcell
      have HPR : Hid (prefix_ (.alt (reE [a])) = leadB (reA a)) := by rw [reE_one]; rfl
      have hal : a.length ≤ 200 := by
        have h1 := wA_len a
        have h2 := HW.out
        rw [wE_one] at h2
        omega
      clear hfs hx0 hlen HAL HBT HW
      go_wp2_with fail
      clear hcell
      go_loopw [6, 25] (fun v vi wr => ∃ (k : Nat) (m : List UInt8), k ≤ a.length ∧ vi = .int .i64 k ∧ m.length = k ∧ Hid (OwnB wr w1.heap.size v m) ∧ Hid (Below w1.heap.size w1 wr) ∧ Hid (leadB (reA a) = (m ++ (leadB (reA (a.drop k))).1, (leadB (reA (a.drop k))).2))) (fun _ vi _ => a.length - (intOf vi).toNat)
      case atStart => exact ⟨0, [], Nat.zero_le _, rfl, rfl, OwnB.nil _ _, Below.refl _ _, rfl⟩
      case round =>
        obtain ⟨k, m, hk, rfl, hm, HO, HB, HL⟩ := hrel
        have HM : Hid (m.length = k) := hm
        clear hm
        have B0 : Hid (Below w.heap.size w wr) := b1.out.trans (HB.out.mono b1.out.size)
        by_cases hlt : k < a.length
        · obtain ⟨g, hA, hgT, hrow⟩ := HFS.out (by intro e; rw [e] at hlt; simp at hlt)
          obtain ⟨C, hr0, hpe⟩ := hrow.at_ k hlt
          rw [Nat.zero_add] at hr0
          have HGT := Lib.hid hgT
          have RC : Hid (wr.rangeAt g (k * 260) C) := rangeAt_keep hr0 (fun j => HB.out.cell hgT.2)
          have HCL := Lib.hid hpe.len
          have LK := Lib.hid (fac_look hpe)
          have HD := Lib.hid (drop_at a hlt)
          subst hA
          clear hgT hrow hr0 hpe
          rcases LK.out with ⟨c, hpc, hc1, hc2, hc3⟩ | ⟨hne, hstop⟩
          · have HN : Hid (leadB (reA a) = ((m ++ [c]) ++ (leadB (reA (a.drop (k + 1)))).1, (leadB (reA (a.drop (k + 1)))).2)) := by
              show _ = _
              rw [HL.out, HD.out, reA, hpc, reF_byte, leadB]
              simp
            have HC1 := Lib.hid hc1
            have HC2 := Lib.hid hc2
            have HC3 := Lib.hid hc3
            have hcb := c.toNat_lt
            have hml : m.length ≤ 200 := by have := HM.out; omega
            clear hpc hc1 hc2 hc3 LK HD HL
            go_wp2_with (first
    | ((with_reducible refine wpList_load_abs (o := ⟨_, .load 47 (.tmp 27), _, _, _, _⟩) rfl 47 _ rfl g (k * 260) ?_ C RC.out _ Try.underlying47 rfl 260 size47 HCL.out.1 ?_); (· first | rfl | simp))
    | ((with_reducible refine wpList_alloc_abs (o := ⟨some 8, .alloc 47, _, _, _, _⟩) rfl 47 rfl Z ZZ.out ?_); intro g2 w2 e2 k2 b2 s2)
    | ((with_reducible refine wpList_store_abs (o := ⟨_, .store 47 (.tmp 8) (.tmp 28), _, _, _, _⟩) rfl 47 _ _ rfl rfl g2 C ?_ ?_ 47 Z k2.out 260 size47 HCL.out.1 ZL.out HCL.out.2 ?_); (· rfl); (· rfl); intro w3 k3 b3 s3; have c1 : w3.cell? ⟨g2, 257, none⟩ = _ := (k3.out.cell 257).trans HC1.out; have c2 : w3.cell? ⟨g2, 258, none⟩ = _ := (k3.out.cell 258).trans HC2.out; have c3 : w3.cell? ⟨g2, 259, none⟩ = _ := (k3.out.cell 259).trans HC3.out; have B3 : Hid (Below wr.heap.size wr w3) := b2.out.trans (b3.out.below b2.out.size (fun n hn => by have := e2.out; omega)))
    | (at_builtin; refine wpList_append_own_at _ rfl (.tmp 39) (.tmp 42) 41 rfl w1.heap.size 5 i0 _ 1 1 Try.underlying41 HI.out HZ0.out HZ1.out HZ2.out rfl (by decide) u6 m.length _ rfl ((OwnB.below HO.out B3.out).below ((Below.refl _ _).alloc (Nat.le_refl _) _)) ⟨w3.heap.size, 0, none⟩ 1 1 [.int .u8 (c.toNat : Int)] rfl rfl (fun j u hu => by have h := (Blk.new w3 5 [.int .u8 (c.toNat : Int)]).range j u hu; rw [Nat.zero_add] at h; rw [Addr.add_mid, Nat.zero_add]; exact h) (by simp [Value.oneCell']) (by simp only [maxLen]; omega) (by omega) (by have := HB.out.size; have := B3.out.size; rw [World.size_alloc]; omega) ?_; intro v5 w5 ho5 hg5 _ _; have O5 := Lib.hid (OwnB.snoc (m := [c]) ho5 rfl rfl); have G5 := Lib.hid hg5; clear ho5 hg5))
            have B5 : Hid (Below w1.heap.size w1 w5) := Below.grown ((HB.out.trans (B3.out.mono HB.out.size)).alloc (by have := HB.out.size; have := B3.out.size; omega) _) G5.out (by have := HB.out.size; have := B3.out.size; rw [World.size_alloc]; omega) (fun g e => (HO.out.lt g e).1)
            go_roundw
            case rel => exact ⟨k + 1, m ++ [c], by omega, by go_num, by rw [List.length_append, HM.out]; rfl, O5, B5, HN⟩
            case measure => simp [intOf]; omega
          · have HE : Hid (pre s.data.toList = (m, false)) := by
              show _ = _
              rw [HP.out, HPR.out, HL.out, HD.out, reA, lead_halt hne]
              simp
            obtain ⟨A6, n6, cap6, hv6, hcv6⟩ := HO.out.conv
            subst hv6
            have HST := Lib.hid hstop
            clear LK HD HL hcv6 hne hstop
            rcases HST.out with hc1 | ⟨hc1, n, hc2, hn0⟩
            all_goals
              have HC1 := Lib.hid hc1
              clear hc1
              try (have HC2 := Lib.hid hc2; clear hc2)
            · go_wp2_with (first
    | ((with_reducible refine wpList_load_abs (o := ⟨_, .load 47 (.tmp 27), _, _, _, _⟩) rfl 47 _ rfl g (k * 260) ?_ C RC.out _ Try.underlying47 rfl 260 size47 HCL.out.1 ?_); (· first | rfl | simp))
    | ((with_reducible refine wpList_alloc_abs (o := ⟨some 8, .alloc 47, _, _, _, _⟩) rfl 47 rfl Z ZZ.out ?_); intro g2 w2 e2 k2 b2 s2)
    | ((with_reducible refine wpList_store_abs (o := ⟨_, .store 47 (.tmp 8) (.tmp 28), _, _, _, _⟩) rfl 47 _ _ rfl rfl g2 C ?_ ?_ 47 Z k2.out 260 size47 HCL.out.1 ZL.out HCL.out.2 ?_); (· rfl); (· rfl); intro w3 k3 b3 s3; have c1 : w3.cell? ⟨g2, 257, none⟩ = _ := (k3.out.cell 257).trans HC1.out; have B3 : Hid (Below wr.heap.size wr w3) := b2.out.trans (b3.out.below b2.out.size (fun n hn => by have := e2.out; omega)); obtain ⟨_, _, _, hq, hcv⟩ := (OwnB.below HO.out B3.out).conv; injection hq with q1 q2 q3; rw [← q1, ← q2, ← q3] at hcv; clear q1 q2 q3))
              go_ret2
              exact ⟨_, false, rfl, B0.out.trans (B3.out.mono B0.out.size), HE⟩
            · go_wp2_with (first
    | ((with_reducible refine wpList_load_abs (o := ⟨_, .load 47 (.tmp 27), _, _, _, _⟩) rfl 47 _ rfl g (k * 260) ?_ C RC.out _ Try.underlying47 rfl 260 size47 HCL.out.1 ?_); (· first | rfl | simp))
    | ((with_reducible refine wpList_alloc_abs (o := ⟨some 8, .alloc 47, _, _, _, _⟩) rfl 47 rfl Z ZZ.out ?_); intro g2 w2 e2 k2 b2 s2)
    | ((with_reducible refine wpList_store_abs (o := ⟨_, .store 47 (.tmp 8) (.tmp 28), _, _, _, _⟩) rfl 47 _ _ rfl rfl g2 C ?_ ?_ 47 Z k2.out 260 size47 HCL.out.1 ZL.out HCL.out.2 ?_); (· rfl); (· rfl); intro w3 k3 b3 s3; have c1 : w3.cell? ⟨g2, 257, none⟩ = _ := (k3.out.cell 257).trans HC1.out; have c3 : w3.cell? ⟨g2, 259, none⟩ = _ := (k3.out.cell 259).trans HC2.out; have B3 : Hid (Below wr.heap.size wr w3) := b2.out.trans (b3.out.below b2.out.size (fun n hn => by have := e2.out; omega)); obtain ⟨_, _, _, hq, hcv⟩ := (OwnB.below HO.out B3.out).conv; injection hq with q1 q2 q3; rw [← q1, ← q2, ← q3] at hcv; clear q1 q2 q3))
              go_ret2
              exact ⟨_, false, rfl, B0.out.trans (B3.out.mono B0.out.size), HE⟩
        · obtain rfl : k = a.length := by omega
          have HE : Hid (pre s.data.toList = (m, true)) := by
            show _ = _
            rw [HP.out, HPR.out, HL.out, List.drop_of_length_le (Nat.le_refl _), reA, leadB]
            simp
          obtain ⟨A6, n6, cap6, hv6, hcv⟩ := HO.out.conv
          subst hv6
          clear HL
          go_wp2_with fail
          go_ret2
          exact ⟨_, true, rfl, B0, HE⟩
  · have hn0 : (n != 0) = true := by
      have h := hn.out
      simp
      intro e
      exact hc (h.symm.trans e)
    have HE := Lib.hid (pre_no hc)
    clear hn hx hc
    go_wp2_with fail
    go_ret2
    exact ⟨⟨#[]⟩, false, rfl, b1, HE⟩
end Go.Proofs.Ytilfggnhaehbcaa.Rx
