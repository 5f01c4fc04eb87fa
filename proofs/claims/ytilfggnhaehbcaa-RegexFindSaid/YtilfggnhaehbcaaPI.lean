/- Layer 6: class of the program. -/
import Derived.Test.YtilfggnhaehbcaaPH
set_option linter.unusedVariables false
set_option linter.unusedSimpArgs false
namespace Go.Proofs.Ytilfggnhaehbcaa.Rx
open Go.RowKit
/-- A class: behind the opening bracket. -/
structure ClsRel (l l' : List UInt8) (b : Bool) (f : UInt8 → Bool) : Prop where
  ok : b = false → cls l = some (.cls f, l')
  no : b = true → cls l = none ∧ l' = []
def ClsP (ra : Nat) (s : ByteArray) (w : World) (e : Ending) (w' : World) : Prop :=
  ∃ (f : UInt8 → Bool) (s' : ByteArray) (b' : Bool), e = .returned (.agg (clsC f).toArray) ∧ Hid (Rd w' ra s' b') ∧ Hid (But (· = ra) w w') ∧ s'.size ≤ s.size ∧ Hid (ClsRel s.data.toList s'.data.toList b' f)
/-- How a class is read: behind the ^. -/
def clsI (iv : Bool) (l : List UInt8) : Option (Re × List UInt8) := (bx none_ true l).map fun q => (.cls (fun x => q.1 x != iv), q.2)
theorem cls_inv {l r : List UInt8} (h : l = 94 :: r) : cls l = clsI true r := by
  subst h
  rw [cls_eq, if_pos rfl]
  unfold clsI
  congr 1
  funext q
  congr 2
  funext x
  cases q.1 x <;> rfl
theorem cls_not {l : List UInt8} (h : beg [94] l = false) : cls l = clsI false l := by
  cases l with
  | nil => rfl
  | cons c r =>
    rw [cls_eq, if_neg (beg_one_no h)]
    unfold clsI
    congr 1
    funext q
    congr 2
    funext x
    cases q.1 x <;> rfl
/-- What the loop over the items keeps. -/
def Bx (l0 : List UInt8) (more : Bool) (f : UInt8 → Bool) (l : List UInt8) (b : Bool) : Prop :=
  (more = true → b = false ∧ ∃ flag, bx none_ true l0 = bx f flag l ∧ (flag = true ∨ beg [93] l = false)) ∧
  (more = false → (b = false ∧ bx none_ true l0 = some (f, l)) ∨ (b = true ∧ l = [] ∧ bx none_ true l0 = none))
theorem bx_fail {f : UInt8 → Bool} {flag : Bool} {l : List UInt8} (h : NoItem l) (hf : flag = true ∨ beg [93] l = false) : bx f flag l = none := by
  cases l with
  | nil => exact bx_nil f flag
  | cons c r =>
    by_cases hc : c = 93
    · subst hc
      rcases hf with rfl | hf
      · rw [bx_end]; rfl
      · exact absurd rfl (beg_one_no hf)
    · rcases h with h | ⟨lo, q, h, h2 | ⟨hi, q', h2, h3⟩⟩
      · exact bx_item hc h
      · exact bx_range hc h h2
      · exact bx_less hc h h2 h3
theorem Bx.bad {l0 l l' : List UInt8} {f g : UInt8 → Bool} {lo hi : UInt8} (h : Bx l0 true f l false) (k : ItemRel l l' true lo hi) : Bx l0 false g l' true := by
  obtain ⟨_, flag, h1, h2⟩ := h.1 rfl
  exact ⟨fun h => (by cases h), fun _ => .inr ⟨rfl, (k.no rfl).2, by rw [h1]; exact bx_fail (k.no rfl).1 h2⟩⟩
theorem item_ne {l r : List UInt8} {c : UInt8} (h : item l = some (c, r)) : ∃ d q, l = d :: q ∧ d ≠ 93 := by
  cases l with
  | nil => cases h
  | cons d q =>
    refine ⟨d, q, rfl, fun e => ?_⟩
    subst e
    rw [item, if_pos rfl] at h
    cases h
theorem Bx.step {l0 l l' : List UInt8} {f : UInt8 → Bool} {lo hi : UInt8} (h : Bx l0 true f l false) (k : ItemRel l l' false lo hi) : bx none_ true l0 = bx (addR f lo hi) false l' := by
  obtain ⟨_, flag, h1, h2⟩ := h.1 rfl
  obtain ⟨r, k1, k2, k3⟩ := k.ok rfl
  obtain ⟨d, q, rfl, hd⟩ := item_ne k1
  rw [h1, bx_step hd k1 k2 k3]
theorem Bx.go {l0 l l' : List UInt8} {f : UInt8 → Bool} {lo hi : UInt8} (h : Bx l0 true f l false) (k : ItemRel l l' false lo hi) (hb : beg [93] l' = false) : Bx l0 true (addR f lo hi) l' false :=
  ⟨fun _ => ⟨rfl, false, h.step k, .inr hb⟩, fun h => (by cases h)⟩
theorem Bx.stop {l0 l r : List UInt8} {f : UInt8 → Bool} {lo hi : UInt8} (h : Bx l0 true f l false) (k : ItemRel l (93 :: r) false lo hi) : Bx l0 false (addR f lo hi) r false := by
  refine ⟨fun h => (by cases h), fun _ => .inl ⟨rfl, ?_⟩⟩
  rw [h.step k, bx_end]
  rfl
theorem ItemRel.less {l l' : List UInt8} {lo hi : UInt8} (k : ItemRel l l' false lo hi) : l'.length < l.length := by
  obtain ⟨r, k1, k2, _⟩ := k.ok rfl
  have h1 := item_len k1
  have h2 := range_len k2
  omega
/-- The set with its first k places turned. -/
def flipTo (f : UInt8 → Bool) (iv : Bool) (k : Nat) (x : UInt8) : Bool := if x.toNat < k then f x != iv else f x
theorem flip_zero (f : UInt8 → Bool) (iv : Bool) (x : UInt8) : flipTo f iv 0 x = f x := by unfold flipTo; rw [if_neg (by omega)]
theorem flip_step (f : UInt8 → Bool) (iv : Bool) {k : Nat} (hk : k < 256) (x : UInt8) : (if x.toNat = k then (f (UInt8.ofNat k) != iv) else flipTo f iv k x) = flipTo f iv (k + 1) x := by
  unfold flipTo
  by_cases h : x.toNat = k
  · rw [if_pos h, if_pos (by omega), ← h]
    simp
  · rw [if_neg h]
    by_cases h2 : x.toNat < k
    · rw [if_pos h2, if_pos (by omega)]
    · rw [if_neg h2, if_neg (by omega)]
theorem flip_at (f : UInt8 → Bool) (iv : Bool) {k : Nat} (hk : k < 256) : flipTo f iv k (UInt8.ofNat k) = f (UInt8.ofNat k) := by
  unfold flipTo
  rw [if_neg]
  simp
  omega
theorem flip_end (f : UInt8 → Bool) (iv : Bool) (x : UInt8) : flipTo f iv 256 x = (f x != iv) := by unfold flipTo; rw [if_pos x.toNat_lt]
/-- How much is left to read. -/
def left (ra : Nat) (v : Value) (w : World) : Nat := match v, w.cell? ⟨ra, 0, none⟩ with
  | .bool true, some (.string s) => s.size + 1
  | _, _ => 0
theorem left_more {ra : Nat} {w : World} {s : ByteArray} {b : Bool} (h : Rd w ra s b) : left ra (.bool true) w = s.size + 1 := by unfold left; rw [h.cells.1]
theorem left_done (ra : Nat) (w : World) : left ra (.bool false) w = 0 := rfl
set_option maxHeartbeats 4000000 in
set_option maxRecDepth 100000 in
theorem class_any (ra : Nat) (s : ByteArray) (hs : s.size ≤ 1000) (w : World) (hr : Rd w ra s false) : Calls Try.prog 76 #[.pointer (some ⟨ra, 0, none⟩)] w (ClsP ra s w) := by
  have ZL : Hid ((clsC none_).length = 256) := clsC_len _
  have ZZ := Lib.hid zero45
  obtain ⟨Z, hZ⟩ : ∃ Z, Z = clsC none_ := ⟨_, rfl⟩
  rw [← hZ] at ZL ZZ
  have HZ := Lib.hid hZ
  clear hZ
  have KR := Lib.hid hr
  have RL := Lib.hid hr.lt
  clear hr
  go_enter Try.func76, Try.ntmps76
  go_wp2_with (first
    | ((with_reducible refine wpList_alloc_abs (o := ⟨some 2, .alloc 45, _, _, _, _⟩) rfl 45 rfl Z ZZ.out ?_); intro g0 w0 e0 k0 b0 s0))
  refine (skip_any ⟨#[94]⟩ ra s false hs _ (KR.out.below b0.out)).mono ?_
  intro e w1 hsk
  obtain ⟨iv, s1, he, hR1, hs1, hcl, hB1, hS1⟩ : ∃ (iv : Bool) (s1 : ByteArray), e = .returned (.bool iv) ∧ Hid (Rd w1 ra s1 false) ∧ s1.size ≤ s.size ∧ Hid (cls s.data.toList = clsI iv s1.data.toList) ∧ Hid (But (· = ra) w0 w1) ∧ Hid (w1.heap.size = w0.heap.size) := by
    obtain ⟨h1, h2, h3, h4⟩ := hsk
    cases hb : beg [94] s.data.toList with
    | true =>
      obtain ⟨h5, h6⟩ := h1 hb
      have h0 := beg_pos hb
      exact ⟨true, _, h5, h6, by rw [ByteArray.size_extract]; omega, cls_inv (by obtain ⟨r, hr⟩ := beg_one hb; rw [data_cons h0] at hr ⊢; injection hr with e1 e2; rw [e1]), h3, h4⟩
    | false =>
      obtain ⟨h5, h6⟩ := h2 hb
      exact ⟨false, s, h5, h6, Nat.le_refl _, cls_not hb, h3, h4⟩
  subst he
  clear hsk
  have G0 : Hid (ra < g0 ∧ w.heap.size = g0 ∧ g0 < w1.heap.size) := ⟨by have := e0.out; have := RL.out; omega, e0.out, by have := s0.out; have := hS1.out; omega⟩
  have k1 : Hid (Blk w1 g0 45 Z) := k0.out.but hB1.out (by have := G0.out.1; omega)
  have W1 : Hid (But (· = ra) w w1) := (But.of_below b0.out).trans hB1.out (fun _ _ h => h)
  clear KR e0 k0 b0 s0 hB1 hS1
  go_wp2_with (first
    | ((with_reducible refine wpList_alloc_abs (o := ⟨some 4, .alloc 45, _, _, _, _⟩) rfl 45 rfl Z ZZ.out ?_); intro g2 w2 e2 k2 b2 s2))
  have G2 : Hid (g2 = w1.heap.size) := e2.out.symm
  go_loopw [5] (fun v5 wr => ∃ (more : Bool) (f : UInt8 → Bool) (sk : ByteArray) (bk : Bool), v5 = .bool more ∧ sk.size ≤ s.size ∧ Hid (Rd wr ra sk bk) ∧ Hid (Bx s1.data.toList more f sk.data.toList bk) ∧ Hid (Blk wr g2 45 (clsC f ++ [])) ∧ Hid (Blk wr g0 45 Z) ∧ Hid (But (· = ra) w wr)) (fun v5 wr => left ra v5 wr)
  case atStart =>
    have k2' := k2.out
    rw [HZ.out] at k2'
    exact ⟨true, none_, s1, false, rfl, hs1, hR1.out.below b2.out, ⟨fun _ => ⟨rfl, true, rfl, .inl rfl⟩, fun h => (by cases h)⟩, by rw [List.append_nil]; exact k2', k1.out.below b2.out k1.out.lt, W1.out.add b2.out⟩
  case round =>
    clear k2 e2 b2 s2 k1 W1 hR1
    obtain ⟨more, f, sk, bk, rfl, hsk, HR, HX, HF, HG, HB⟩ := hrel
    cases more with
    | true =>
      obtain rfl : bk = false := (HX.out.1 rfl).1
      go_wp2_with fail
      refine (item_any ra sk (by omega) _ HR.out).mono ?_
      rintro e w3 ⟨lo, hi, s3, b3', rfl, R3, b3, hs3, H3⟩
      have hg2 : ¬ g2 = ra := by have := G0.out; have := G2.out; omega
      have hg0 : ¬ g0 = ra := by have := G0.out; omega
      have F3 : Hid (Blk w3 g2 45 (clsC f ++ [])) := HF.out.but b3.out hg2
      go_wp2_with fail
      refine (add_any g2 45 f [] lo hi _ F3.out).mono ?_
      rintro e w4 ⟨rfl, F4', b4', -⟩
      have F4 := Lib.hid F4'
      have b4 := Lib.hid b4'
      have R4 : Hid (Rd w4 ra s3 b3') := R3.out.but b4.out (by omega)
      have G4 : Hid (Blk w4 g0 45 Z) := (HG.out.but b3.out hg0).but b4.out (by have := G0.out; have := G2.out; omega)
      have B4 : Hid (But (· = ra) w w4) := (HB.out.trans b3.out (fun _ _ h => h)).row b4.out (fun h => by have := G0.out; have := G2.out; omega)
      have LM := Lib.hid (left_more HR.out)
      clear F4' b4' F3 R3 b3 HG HB HF hg2 hg0
      obtain ⟨h1, h2, -, -⟩ := R4.out.cells
      cases b3' with
      | true =>
        have HX' := Lib.hid (HX.out.bad (g := addR f lo hi) H3.out)
        go_wp2_with fail
        go_roundw
        case rel => exact ⟨false, _, s3, true, rfl, by omega, R4, HX', F4, G4, B4⟩
        case measure => rw [LM.out, left_done]; omega
      | false =>
        clear h1 h2
        have h2 := R4.out.cells.2.1
        have HL := Lib.hid H3.out.less
        go_wp2_with fail
        refine (skip_any ⟨#[93]⟩ ra s3 false (by omega) _ R4.out).mono ?_
        intro e w5 hsk5
        obtain ⟨h6, h7, h8, -⟩ := hsk5
        have B5 : Hid (But (· = ra) w w5) := B4.out.trans h8 (fun _ _ h => h)
        have F5 : Hid (Blk w5 g2 45 (clsC (addR f lo hi) ++ [])) := F4.out.but h8 (by have := G0.out; have := G2.out; omega)
        have G5 : Hid (Blk w5 g0 45 Z) := G4.out.but h8 (by have := G0.out; omega)
        cases hb : beg [93] s3.data.toList with
        | true =>
          obtain ⟨rfl, h9⟩ := h6 hb
          have R5 := Lib.hid h9
          have hz := beg_pos hb
          have HX' : Hid (Bx s1.data.toList false (addR f lo hi) (s3.extract 1 s3.size).data.toList false) := by
            obtain ⟨r, hr⟩ := beg_one hb
            have h := H3.out
            have hd := data_cons hz
            rw [hd] at hr
            injection hr with e1 e2
            rw [hd, e1] at h
            exact HX.out.stop h
          clear h6 h7 h8 h9 hb h2
          go_wp2_with fail
          go_roundw
          case rel => exact ⟨false, _, _, false, rfl, by rw [ByteArray.size_extract]; omega, R5, HX', F5, G5, B5⟩
          case measure => rw [LM.out, left_done]; omega
        | false =>
          obtain ⟨rfl, h9⟩ := h7 hb
          have R5 := Lib.hid h9
          have HX' := Lib.hid (HX.out.go H3.out hb)
          have LM5 := Lib.hid (left_more h9)
          clear h6 h7 h8 h9 hb h2
          go_wp2_with fail
          go_roundw
          case rel => exact ⟨true, _, _, false, rfl, by omega, R5, HX', F5, G5, B5⟩
          case measure =>
            rw [LM.out, LM5.out]
            have := HL.out
            rw [size_len, size_len] at this
            omega
    | false =>
      have FIN : Hid (sk.size ≤ s.size ∧ ClsRel s.data.toList sk.data.toList bk (fun x => f x != iv)) := ⟨hsk, by
        rcases HX.out.2 rfl with ⟨rfl, h1⟩ | ⟨rfl, h1, h2⟩
        · exact ⟨fun _ => by rw [hcl.out]; unfold clsI; rw [h1]; rfl, fun h => (by cases h)⟩
        · exact ⟨fun h => (by cases h), fun _ => ⟨by rw [hcl.out]; unfold clsI; rw [h2]; rfl, h1⟩⟩⟩
      have F0 : Hid (Blk wr g2 45 (clsC (flipTo f iv 0) ++ [])) := by rw [clsC_ext (flip_zero f iv)]; exact HF.out
      have I0 : Hid (wr.heap.size = wr.heap.size) := rfl
      have GB : Hid (g2 < wr.heap.size ∧ ra < wr.heap.size ∧ g2 ≠ g0 ∧ g2 ≠ ra ∧ g0 ≠ ra ∧ w.heap.size ≤ g0 ∧ w.heap.size ≤ g2) := ⟨HF.out.lt, HR.out.lt, by have := G0.out; have := G2.out; omega, by have := G0.out; have := G2.out; omega, by have := G0.out; omega, by have := G0.out; omega, by have := G0.out; have := G2.out; omega⟩
      clear HX hcl G0 G2
      obtain ⟨wo, rfl⟩ : ∃ wo : World, wo = wr := ⟨_, rfl⟩
      go_wp2_with fail
      go_loopw [25] (fun v wr => ∃ k : Nat, k ≤ 256 ∧ v = .int .i64 k ∧ Hid (Blk wr g2 45 (clsC (flipTo f iv k) ++ [])) ∧ Hid (But (· = g2) wo wr)) (fun v _ => 256 - (intOf v).toNat)
      case atStart => exact ⟨0, by omega, rfl, F0, But.refl _ _⟩
      case round =>
        clear F0 I0
        obtain ⟨k, hk, rfl, HK, HW⟩ := hrel
        by_cases hlt : k < 256
        · have h1 : wr.cell? ⟨g2, k, none⟩ = some (.bool (f (UInt8.ofNat k))) := by
            rw [HK.out.cell, front_at hlt, flip_at f iv hlt]
          have h2 := HK.out.froz k
          have HN : Hid (Blk (wr.setCell ⟨g2, k, none⟩ (.bool (f (UInt8.ofNat k) != iv))) g2 45 (clsC (flipTo f iv (k + 1)) ++ [])) := by
            have h3 := HK.out.set k (.bool (f (UInt8.ofNat k) != iv))
            rw [set_front hlt, clsC_ext (flip_step f iv hlt)] at h3
            exact h3
          generalize f (UInt8.ofNat k) = fk at h1 HN
          have hbv : (fk != iv) = (!(fk == iv)) := rfl
          go_wp2_with fail
          go_roundw
          case rel =>
            refine ⟨k + 1, by omega, by go_num, ?_, HW.out.setCell (p := ⟨g2, k, none⟩) (fun _ => rfl) _⟩
            first
              | exact HN.out
              | (have h4 := HN.out; simp only [bne] at h4 ⊢; exact h4)
          case measure => simp [intOf]; omega
        · obtain rfl : k = 256 := by omega
          obtain ⟨L, hL⟩ : ∃ L, L = clsC (fun x => f x != iv) := ⟨_, rfl⟩
          have K2 : Hid (Blk wr g2 45 L) := by
            have h := HK.out
            rw [List.append_nil, clsC_ext (flip_end f iv)] at h
            rw [hL]
            exact h
          have HL : Hid (L.length = 256) := by rw [hL]; exact clsC_len _
          have OL : Hid (∀ v ∈ L, v.oneCell' = true) := by rw [hL]; exact clsC_one _
          have HLL := Lib.hid hL
          have GQ : Hid (Blk wr g0 45 Z) := HG.out.but HW.out (by have := GB.out; omega)
          clear hL HK
          go_wp2_with (first
    | ((with_reducible refine wpList_load_abs (o := ⟨_, .load 45 (.tmp 4), _, _, _, _⟩) rfl 45 _ rfl g2 0 ?_ L K2.out.range _ Try.underlying45 rfl 256 size45 HL.out ?_); (· rfl))
    | ((with_reducible refine wpList_store_abs (o := ⟨_, .store 45 (.tmp 2) (.tmp 36), _, _, _, _⟩) rfl 45 _ _ rfl rfl g0 L ?_ ?_ 45 Z GQ.out 256 size45 HL.out ZL.out OL.out ?_); (· rfl); (· rfl); intro w7 k7 b7 s7))
          refine bodyPost_ret (results_cell_row rfl _ _ g0 45 L.toArray (0, 0) _ rfl k7.out Try.underlying45 rfl (by simpa [HL.out] using size45)) rfl ⟨fun x => f x != iv, sk, bk, by rw [← HLL.out], ?_, ?_, FIN.out.1, FIN.out.2⟩
          · exact (HR.out.but HW.out (by have := GB.out; omega)).but b7.out (by have := GB.out; omega)
          · exact (HB.out.row HW.out (fun h => by have := GB.out; omega)).row b7.out (fun h => by have := GB.out; omega)
end Go.Proofs.Ytilfggnhaehbcaa.Rx
