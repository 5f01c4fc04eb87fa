/- Layer 5: value of the program's reader. -/
import Derived.Deep.RegionHeld3
import Derived.Deep.DeepCutAuto
import Derived.Test.YtbphhdmnfepbnaaLP
import Derived.Test.YtbphhdmnfepbnaaLX
import Derived.Test.YtbphhdmnfepbnaaPM
import Derived.Test.YtbphhdmnfepbnaaLN
set_option linter.unusedVariables false
set_option linter.unusedSimpArgs false
namespace Go.Proofs.Ytbphhdmnfepbnaa.Lab
open Go.RowKit
theorem pre1_true {s : ByteArray} {k : Nat} {c : UInt8} {r : List UInt8} (h : s.data.toList.drop k = c :: r) : preS (s.extract k s.size) ⟨#[c]⟩ = true := by
  rw [preS_iff, ext_drop, h]; rfl
theorem pre1_false {s : ByteArray} {k : Nat} {c : UInt8} (h : ∀ r, s.data.toList.drop k ≠ c :: r) : preS (s.extract k s.size) ⟨#[c]⟩ = false := by
  rw [← Bool.not_eq_true, preS_iff, ext_drop]
  intro e
  cases hd : s.data.toList.drop k with
  | nil => rw [hd] at e; cases e
  | cons d r =>
    rw [hd] at e
    have : d = c := by injection e
    exact h r (by rw [hd, this])
theorem pre2_iff {s : ByteArray} {k : Nat} {c d : UInt8} : preS (s.extract k s.size) ⟨#[c, d]⟩ = true ↔ ∃ r, s.data.toList.drop k = c :: d :: r := by
  rw [preS_iff, ext_drop]
  constructor
  · intro e
    cases hd : s.data.toList.drop k with
    | nil => rw [hd] at e; cases e
    | cons a l =>
      rw [hd] at e
      cases l with
      | nil => cases e
      | cons b r =>
        have h1 : a = c ∧ b = d := by
          have := e
          simp only [ByteArray.size, List.size_toArray] at this
          simpa using this
        exact ⟨r, by rw [h1.1, h1.2]⟩
  · rintro ⟨r, h⟩
    rw [h]; rfl
theorem drop_one {s : ByteArray} {k : Nat} {c : UInt8} {r : List UInt8} (h : s.data.toList.drop k = c :: r) : s.data.toList.drop (k + 1) = r := by
  rw [← List.drop_drop, h]; rfl
theorem OwnE.form {w : World} {B : Nat} {v : Value} {l : List UInt8} (h : OwnE w B v l) : ∃ A n cap, v = .slice A n cap := by
  obtain ⟨A, n, cap, e, _⟩ := h.conv
  exact ⟨A, n, cap, e⟩
theorem OwnE.conv' {w : World} {B n cap : Nat} {A : Option Addr} {l : List UInt8} (h : OwnE w B (.slice A n cap) l) : (convert 47 9 (.slice A n cap)).run Try.prog w = .ok (.string (mkS l)) w := by
  obtain ⟨A', n', cap', e, h⟩ := h.conv
  cases e
  exact h
theorem val_none {r : List UInt8} (h1 : ¬ ∃ r', r = 110 :: r') (h2 : ¬ ∃ r', r = 92 :: r') (h3 : ¬ ∃ r', r = 34 :: r') : unq (92 :: r) = none := by
  have hne : ∀ (d c : UInt8), d.toNat = c.toNat → d = c := fun d c h => UInt8.toNat_inj.1 h
  cases r with
  | nil => exact unq_one rfl
  | cons d r =>
    refine unq_bad r rfl (fun h => h2 ⟨r, ?_⟩) (fun h => h3 ⟨r, ?_⟩) (fun h => h1 ⟨r, ?_⟩)
    · rw [hne d 92 h]
    · rw [hne d 34 h]
    · rw [hne d 110 h]
/-- The offset that the box holds. -/
def offOf (ba : Nat) (w : World) : Nat := match w.cell? ⟨ba, 0, none⟩ with
  | some (.int _ q) => q.toNat
  | _ => 0
theorem RS.off {bt ba : Nat} {s : ByteArray} {k : Nat} {V : World} (h : RS bt ba s k V) : offOf ba V = k := by
  unfold offOf
  rw [h.cells.2.1]
  simp
/-- What value hands back. -/
structure ValOK (u : Option (List UInt8 × List UInt8)) (t : ByteArray) (b : Bool) (r : List UInt8) : Prop where
  yes : b = true → u = some (t.data.toList, r)
  no : b = false → u = none
def ValPost (u : Option (List UInt8 × List UInt8)) (bt ba : Nat) (s : ByteArray) (w : World) (e : Ending) (w' : World) : Prop :=
  ∃ t b k', e = .returned (.tuple #[.string t, .bool b]) ∧ RS bt ba s k' w' ∧ w.grownBy w' (some ba) ∧ ValOK u t b (s.data.toList.drop k')
/-- Between two rounds. -/
structure VS (u : Option (List UInt8 × List UInt8)) (bt ba : Nat) (s : ByteArray) (w : World) (k0 k : Nat) (o : List UInt8) (vb : Value) (V : World) : Prop where
  own : OwnE V w.heap.size vb o
  rs : RS bt ba s k V
  gr : w.grownBy V (some ba)
  eq : u = pre o (unq (s.data.toList.drop k))
  len : o.length + k0 ≤ k
theorem VS.next {u : Option (List UInt8 × List UInt8)} {bt ba : Nat} {s : ByteArray} {w : World} {k0 k k' : Nat} {o o' m : List UInt8} {vb v' : Value} {V V' : World} (h : VS u bt ba s w k0 k o vb V)
    (ho : OwnE V' w.heap.size v' o') (hr : RS bt ba s k' V') (hg : V.grownBy V' (some ba)) (he : unq (s.data.toList.drop k) = pre m (unq (s.data.toList.drop k'))) (hm : o' = o ++ m) (hl : m.length + k ≤ k') : VS u bt ba s w k0 k' o' v' V' := by
  subst hm
  exact ⟨ho, hr, grown_trans h.gr hg, by rw [h.eq, he, pre_pre], by rw [List.length_append]; have := h.len; omega⟩
theorem VS.off {u : Option (List UInt8 × List UInt8)} {bt ba : Nat} {s : ByteArray} {w : World} {k0 k : Nat} {o : List UInt8} {vb : Value} {V : World} (h : VS u bt ba s w k0 k o vb V) : offOf ba V = k := h.rs.off
theorem VS.ne {u : Option (List UInt8 × List UInt8)} {bt ba : Nat} {s : ByteArray} {w : World} {k0 k : Nat} {o : List UInt8} {vb : Value} {V : World} (h : VS u bt ba s w k0 k o vb V) : vb.ownBlock ≠ some ba := h.own.ne h.rs.hk (by decide)
theorem VS.ge {u : Option (List UInt8 × List UInt8)} {bt ba : Nat} {s : ByteArray} {w : World} {k0 k : Nat} {o : List UInt8} {vb : Value} {V : World} (h : VS u bt ba s w k0 k o vb V) : w.heap.size ≤ V.heap.size := h.gr.size
/-- A step of the reader. -/
theorem VS.step {u : Option (List UInt8 × List UInt8)} {bt ba : Nat} {s : ByteArray} {w : World} {k0 k k' : Nat} {o : List UInt8} {vb : Value} {V V' : World} (h : VS u bt ba s w k0 k o vb V)
    (hr : RS bt ba s k' V') (hg : V.grownBy V' (some ba)) : OwnE V' w.heap.size vb o ∧ RS bt ba s k' V' ∧ w.grownBy V' (some ba) := ⟨h.own.grown hg h.ne, hr, grown_trans h.gr hg⟩
/-- The plain bytes at the beginning of the rest. -/
theorem plains (l : List UInt8) : unq l = pre (l.take (lead plainB l)) (unq (l.drop (lead plainB l))) := by
  have h : ∀ l : List UInt8, ∀ c ∈ l.take (lead plainB l), plainB c.toNat = true := by
    intro l
    induction l with
    | nil => intro c hc; simp at hc
    | cons d r ih =>
      intro c hc
      rw [lead] at hc
      split at hc
      · rename_i hd
        rw [List.take_succ_cons] at hc
        rcases List.mem_cons.1 hc with rfl | hc
        · exact hd
        · exact ih c hc
      · simp at hc
  have h2 := unq_plains _ (l.drop (lead plainB l)) (h l)
  rw [List.take_append_drop] at h2
  exact h2
theorem lead_stops (p : Nat → Bool) : ∀ (l : List UInt8) (c : UInt8) (r : List UInt8), l.drop (lead p l) = c :: r → p c.toNat = false
  | [], c, r, h => by simp at h
  | d :: l, c, r, h => by
    rw [lead] at h
    split at h
    · rw [List.drop_succ_cons] at h
      exact lead_stops p l c r h
    · rename_i hd
      rw [List.drop_zero] at h
      cases h
      simpa using hd
/-- What follows the plain bytes. -/
def Stop (l : List UInt8) : Prop := ∀ c r, l = c :: r → plainB c.toNat = false
theorem nextPlain (bt ba : Nat) (s : ByteArray) (hs : s.size ≤ 1000000) (k : Nat) (w : World) (H : RS bt ba s k w) :
    Calls Try.prog 64 #[.func (.func 77) #[] #[], .pointer (some ⟨ba, 0, none⟩), .pointer (some ⟨bt, 0, none⟩)] w (NextPost bt ba s k (lead plainB (s.data.toList.drop k)) w) := by
  have hle := H.le
  have h1 := lead_le plainB (s.data.toList.drop k)
  rw [List.length_drop, Array.length_toList] at h1
  have h2 : s.data.size = s.size := rfl
  refine next_plain bt ba 0 s hs k _ (by omega) w H ?_
  have h3 := plainSize_any (s.extract k s.size) (by rw [ext_size]; unfold maxLen; omega) w.drew
  rw [ext_drop] at h3
  exact h3
theorem nextWord (bt ba : Nat) (s : ByteArray) (hs : s.size ≤ 1000000) (k : Nat) (w : World) (H : RS bt ba s k w) :
    Calls Try.prog 64 #[.func (.func 61) #[] #[], .pointer (some ⟨ba, 0, none⟩), .pointer (some ⟨bt, 0, none⟩)] w (NextPost bt ba s k (lead letterB (s.data.toList.drop k)) w) := by
  have hle := H.le
  have h1 := lead_le letterB (s.data.toList.drop k)
  rw [List.length_drop, Array.length_toList] at h1
  have h2 : s.data.size = s.size := rfl
  refine next_word bt ba 0 s hs k _ (by omega) w H ?_
  have h3 := wordSize_any (s.extract k s.size) (by rw [ext_size]; unfold maxLen; omega) w.drew
  rw [ext_drop] at h3
  exact h3
/-- skip of one sign. -/
theorem skip_yes (bt ba : Nat) (s : ByteArray) (hs : s.size ≤ 1000000) (k : Nat) (c : UInt8) (r : List UInt8) (h : s.data.toList.drop k = c :: r) (w : World) (H : RS bt ba s k w) :
    Calls Try.prog 65 #[.func (.func 64) #[] #[.pointer (some ⟨ba, 0, none⟩), .pointer (some ⟨bt, 0, none⟩)], .string ⟨#[c]⟩] w fun e w' => e = .returned (.bool true) ∧ RS bt ba s (k + 1) w' ∧ w.grownBy w' (some ba) := by
  have h1 := skip_any bt ba s hs k ⟨#[c]⟩ (Nat.lt_succ_self 0) (by show 1 ≤ 1000000; omega) w H
  rw [pre1_true h] at h1
  exact h1.mono fun e w' h => h
theorem skip_no (bt ba : Nat) (s : ByteArray) (hs : s.size ≤ 1000000) (k : Nat) (c : UInt8) (h : ∀ r, s.data.toList.drop k ≠ c :: r) (w : World) (H : RS bt ba s k w) :
    Calls Try.prog 65 #[.func (.func 64) #[] #[.pointer (some ⟨ba, 0, none⟩), .pointer (some ⟨bt, 0, none⟩)], .string ⟨#[c]⟩] w fun e w' => e = .returned (.bool false) ∧ RS bt ba s k w' ∧ w.grownBy w' (some ba) := by
  have h1 := skip_any bt ba s hs k ⟨#[c]⟩ (Nat.lt_succ_self 0) (by show 1 ≤ 1000000; omega) w H
  rw [pre1_false h] at h1
  exact h1.mono fun e w' h => h
theorem below_grown {A B C : World} {row : Option Nat} (h : Below A.heap.size A B) (g : B.grownBy C row) : A.grownBy C row := grown_trans (grown_below h) g
theorem own_put {w V V0 V1 : World} {B ba : Nat} {vb : Value} {o : List UInt8} (ho : OwnE V B vb o) (hV : Below V.heap.size V V0) (hg : V0.grownBy V1 vb.ownBlock) (hwb : w.grownBy V (some ba)) (hB : B = w.heap.size) : w.grownBy V1 (some ba) := by
  refine ⟨hg.os.trans (hV.os.trans hwb.os), hg.tape.trans (hV.tape.trans hwb.tape), hg.output.trans (hV.output.trans hwb.output), Nat.le_trans hwb.size (Nat.le_trans hV.size hg.size), fun b hb hne => ?_⟩
  have h1 : b < V.heap.size := Nat.lt_of_lt_of_le hb hwb.size
  have h2 : some b ≠ vb.ownBlock := fun e => by have := (ho.lt b e.symm).1; omega
  exact (hg.block b (Nat.lt_of_lt_of_le h1 hV.size) h2).trans ((hV.block b h1).trans (hwb.block b hb hne))
theorem rs_put {V V0 V1 : World} {bt ba k B : Nat} {s : ByteArray} {vb : Value} {o : List UInt8} (hr : RS bt ba s k V) (ho : OwnE V B vb o) (hV : Below V.heap.size V V0) (hg : V0.grownBy V1 vb.ownBlock) : RS bt ba s k V1 :=
  (hr.below hV).grown hg (fun e => ho.ne hr.hs (by decide) e.symm) (fun e => ho.ne hr.hk (by decide) e.symm)
set_option maxRecDepth 100000 in
set_option maxHeartbeats 4000000 in
theorem value_any (bt ba : Nat) (s : ByteArray) (hs : s.size ≤ 1000000) (k : Nat) (w : World) (H : RS bt ba s k w) :
    Calls Try.prog 74 #[.func (.func 64) #[] #[.pointer (some ⟨ba, 0, none⟩), .pointer (some ⟨bt, 0, none⟩)]] w (ValPost (unq (s.data.toList.drop k)) bt ba s w) := by
  have hss : ∀ j n, (s.extract j (j + n)).size ≤ s.size := fun j n => by
    have h1 := congrArg List.length (ext_take s j n)
    rw [List.length_take, List.length_drop, Array.length_toList, Array.length_toList] at h1
    have h2 : s.data.size = s.size := rfl
    have h3 : (s.extract j (j + n)).data.size = (s.extract j (j + n)).size := rfl
    omega
  have HSS := Lib.hid hss
  clear hss
  have HH := Lib.hid H
  clear H
  obtain ⟨u, hu⟩ : ∃ u, u = unq (s.data.toList.drop k) := ⟨_, rfl⟩
  have HU := Lib.hid hu
  rw [← hu]
  clear hu
  have kcv := fun (W : World) (t : ByteArray) => Lib.run_convert_string_bytes (P := Try.prog) W 9 47 5 t Try.underlying9 Try.underlying47 Try.underlying5
  go_enter Try.func74, Try.ntmps74
  go_wp2_with fail
  refine (nextPlain bt ba s hs k w HH.out).mono ?_
  rintro e w1 ⟨rfl, hR, hG⟩
  obtain ⟨n1, hn1⟩ : ∃ n1, n1 = lead plainB (s.data.toList.drop k) := ⟨_, rfl⟩
  rw [← hn1] at hR ⊢
  obtain ⟨t1, ht1⟩ : ∃ t1, t1 = s.extract k (k + n1) := ⟨_, rfl⟩
  have ht1d : t1.data.toList = (s.data.toList.drop k).take n1 := by rw [ht1, ext_take]
  have ht1s : t1.size ≤ 1000000 := by rw [ht1]; exact Nat.le_trans (HSS.out k n1) hs
  rw [← ht1]
  clear ht1
  have h0 : Hid (VS u bt ba s w k (k + n1) t1.data.toList (.slice (some ⟨w1.heap.size, 0, none⟩) t1.size (grownCap w1 t1.size 0 5)) (Lib.bytesWorld w1 5 t1)) := by
    have hcw := conv_world w1 t1 w.heap.size hG.size ht1s
    refine ⟨hcw.1, hR.below hcw.2, grown_trans hG (grown_below hcw.2), ?_, ?_⟩
    · rw [HU.out, plains, ← hn1, List.drop_drop, ht1d]
    · rw [ht1d, List.length_take]; omega
  have hst : Stop (s.data.toList.drop (k + n1)) := fun c r h => by
    rw [← List.drop_drop, hn1] at h
    exact lead_stops _ _ c r h
  have HST := Lib.hid hst
  clear hR hG hst hn1 HU HH ht1d ht1s
  go_wp2
  clear kcv
  go_loopw [4] (fun vb wr => ∃ (j : Nat) (o : List UInt8), Hid (VS u bt ba s w k j o vb wr) ∧ Hid (Stop (s.data.toList.drop j)) ∧ j ≤ s.size) (fun vb wr => s.size - offOf ba wr)
  case atStart => exact ⟨k + n1, _, h0, HST, h0.out.rs.le⟩
  case round =>
    clear h0 HST
    obtain ⟨j, o, HV, HT, hj⟩ := hrel
    have hol : o.length ≤ 1000000 := by have := HV.out.len; omega
    have HO0 := Lib.hid HV.out.off
    by_cases hc : ∃ r, s.data.toList.drop j = 92 :: r
    · obtain ⟨r, hr⟩ := hc
      have HR := Lib.hid hr
      clear hr
      go_wp2_with fail
      refine (skip_yes bt ba s hs j 92 r HR.out wr HV.out.rs).mono ?_
      rintro e w2 ⟨rfl, hR, hG⟩
      have R2 := Lib.hid hR
      have G2 := Lib.hid hG
      have D1 := Lib.hid (drop_one HR.out)
      clear hR hG
      by_cases hn : ∃ r', r = 110 :: r'
      · obtain ⟨r', rfl⟩ := hn
        go_wp2_with fail
        refine (skip_yes bt ba s hs (j + 1) 110 r' D1.out w2 R2.out).mono ?_
        rintro e w6 ⟨rfl, hR, hG⟩
        have R6 := Lib.hid hR
        have D2 := Lib.hid ((drop_one D1.out).symm.trans rfl : r' = s.data.toList.drop (j + 1 + 1))
        have G6 := Lib.hid (grown_trans HV.out.gr (grown_trans G2.out hG))
        have O6 := Lib.hid (HV.out.own.grown (grown_trans G2.out hG) HV.out.ne)
        clear hR hG R2 G2
        go_wp2_with (at_builtin; refine wpList_append_E rfl (.tmp 13) (.tmp 14) rfl w.heap.size u4 o rfl (O6.out.below ((Below.refl _ _).alloc (Nat.le_refl _) _)) ⟨w6.heap.size, 0, none⟩ 1 [10] 1 rfl rfl (by decide) (bytes_one w6 10) (by simp only [List.length_singleton]; omega) (by have := G6.out.size; simp; omega) ?_; intro v7 w7 ho hg; have O7 := Lib.hid ho; have G7 := Lib.hid (own_put O6.out ((Below.refl _ _).alloc (Nat.le_refl _) _) hg G6.out rfl); have R7 := Lib.hid (rs_put R6.out O6.out ((Below.refl _ _).alloc (Nat.le_refl _) _) hg); clear ho hg)
        refine (nextPlain bt ba s hs (j + 1 + 1) w7 R7.out).mono ?_
        rintro e w8 ⟨rfl, hR, hG⟩
        obtain ⟨n8, hn8⟩ : ∃ n8, n8 = lead plainB (s.data.toList.drop (j + 1 + 1)) := ⟨_, rfl⟩
        rw [← hn8] at hR ⊢
        obtain ⟨t8, ht8⟩ : ∃ t8, t8 = s.extract (j + 1 + 1) (j + 1 + 1 + n8) := ⟨_, rfl⟩
        have ht8d : t8.data.toList = (s.data.toList.drop (j + 1 + 1)).take n8 := by rw [ht8, ext_take]
        have ht8s : t8.size ≤ 1000000 := by rw [ht8]; exact Nat.le_trans (HSS.out _ n8) hs
        rw [← ht8]
        have R8 := Lib.hid hR
        have O8 := Lib.hid (O7.out.grown hG (O7.out.ne R7.out.hk (by decide)))
        have G8 := Lib.hid (grown_trans G7.out hG)
        have ET : Hid (u = pre (o ++ [10] ++ t8.data.toList) (unq (s.data.toList.drop (j + 1 + 1 + n8)))) := by
          rw [HV.out.eq, HR.out, unq_n r' rfl rfl, D2.out, pre_pre, plains, ← hn8, List.drop_drop, ← ht8d, pre_pre]
          rfl
        have SP : Hid (Stop (s.data.toList.drop (j + 1 + 1 + n8))) := fun c r h => by
          rw [← List.drop_drop, hn8] at h
          exact lead_stops _ _ c r h
        have LT : Hid (t8.data.toList.length ≤ n8) := by
          rw [ht8d, List.length_take]
          exact Nat.min_le_left _ _
        clear hR hG ht8 ht8d hn8 R6 O6 G6 O7
        go_wp2_with (at_builtin; refine wpList_append_E_string rfl (.tmp 28) (.tmp 30) rfl w.heap.size v7 (o ++ [10]) rfl O8.out t8 rfl (by simp only [List.length_append, List.length_singleton]; omega) G8.out.size ?_; intro v9 w9 ho hg; have O9 := Lib.hid ho; have G9 := Lib.hid (own_put O8.out (Below.refl _ _) hg G8.out rfl); have R9 := Lib.hid (rs_put R8.out O8.out (Below.refl _ _) hg); clear ho hg)
        go_roundw
        case rel => exact ⟨j + 1 + 1 + n8, _, ⟨O9.out, R9.out, G9.out, ET.out, by have h1 := HV.out.len; have h2 := LT.out; simp only [List.length_append, List.length_singleton]; omega⟩, SP, R9.out.le⟩
        case measure => have h1 := R9.out.off; have h2 := R9.out.le; have h3 := HO0.out; simp only [h1, h3]; omega
      · have N1 : Hid (∀ q, s.data.toList.drop (j + 1) ≠ 110 :: q) := fun q e => hn ⟨q, by rw [← D1.out, e]⟩
        go_wp2_with fail
        refine (skip_no bt ba s hs (j + 1) 110 N1.out w2 R2.out).mono ?_
        rintro e w3 ⟨rfl, hR, hG⟩
        have R3 := Lib.hid hR
        have G3 := Lib.hid (grown_trans G2.out hG)
        clear hR hG R2 G2
        by_cases hb : ∃ r', r = 92 :: r'
        · obtain ⟨r', rfl⟩ := hb
          clear hn N1
          go_wp2_with fail
          refine (skip_yes bt ba s hs (j + 1) 92 r' D1.out w3 R3.out).mono ?_
          rintro e w6 ⟨rfl, hR, hG⟩
          have R6 := Lib.hid hR
          have D2 := Lib.hid ((drop_one D1.out).symm.trans rfl : r' = s.data.toList.drop (j + 1 + 1))
          have G6 := Lib.hid (grown_trans HV.out.gr (grown_trans G3.out hG))
          have O6 := Lib.hid (HV.out.own.grown (grown_trans G3.out hG) HV.out.ne)
          clear hR hG R3 G3
          go_wp2_with (at_builtin; refine wpList_append_E rfl (.tmp 19) (.tmp 20) rfl w.heap.size u4 o rfl (O6.out.below ((Below.refl _ _).alloc (Nat.le_refl _) _)) ⟨w6.heap.size, 0, none⟩ 1 [92] 1 rfl rfl (by decide) (bytes_one w6 92) (by simp only [List.length_singleton]; omega) (by have := G6.out.size; simp; omega) ?_; intro v7 w7 ho hg; have O7 := Lib.hid ho; have G7 := Lib.hid (own_put O6.out ((Below.refl _ _).alloc (Nat.le_refl _) _) hg G6.out rfl); have R7 := Lib.hid (rs_put R6.out O6.out ((Below.refl _ _).alloc (Nat.le_refl _) _) hg); clear ho hg)
          refine (nextPlain bt ba s hs (j + 1 + 1) w7 R7.out).mono ?_
          rintro e w8 ⟨rfl, hR, hG⟩
          obtain ⟨n8, hn8⟩ : ∃ n8, n8 = lead plainB (s.data.toList.drop (j + 1 + 1)) := ⟨_, rfl⟩
          rw [← hn8] at hR ⊢
          obtain ⟨t8, ht8⟩ : ∃ t8, t8 = s.extract (j + 1 + 1) (j + 1 + 1 + n8) := ⟨_, rfl⟩
          have ht8d : t8.data.toList = (s.data.toList.drop (j + 1 + 1)).take n8 := by rw [ht8, ext_take]
          have ht8s : t8.size ≤ 1000000 := by rw [ht8]; exact Nat.le_trans (HSS.out _ n8) hs
          rw [← ht8]
          have R8 := Lib.hid hR
          have O8 := Lib.hid (O7.out.grown hG (O7.out.ne R7.out.hk (by decide)))
          have G8 := Lib.hid (grown_trans G7.out hG)
          have ET : Hid (u = pre (o ++ [92] ++ t8.data.toList) (unq (s.data.toList.drop (j + 1 + 1 + n8)))) := by
            rw [HV.out.eq, HR.out, unq_esc r' rfl (.inl rfl), D2.out, pre_pre, plains, ← hn8, List.drop_drop, ← ht8d, pre_pre]
            rfl
          have SP : Hid (Stop (s.data.toList.drop (j + 1 + 1 + n8))) := fun c r h => by
            rw [← List.drop_drop, hn8] at h
            exact lead_stops _ _ c r h
          have LT : Hid (t8.data.toList.length ≤ n8) := by
            rw [ht8d, List.length_take]
            exact Nat.min_le_left _ _
          clear hR hG ht8 ht8d hn8 R6 O6 G6 O7
          go_wp2_with (at_builtin; refine wpList_append_E_string rfl (.tmp 28) (.tmp 30) rfl w.heap.size v7 (o ++ [92]) rfl O8.out t8 rfl (by simp only [List.length_append, List.length_singleton]; omega) G8.out.size ?_; intro v9 w9 ho hg; have O9 := Lib.hid ho; have G9 := Lib.hid (own_put O8.out (Below.refl _ _) hg G8.out rfl); have R9 := Lib.hid (rs_put R8.out O8.out (Below.refl _ _) hg); clear ho hg)
          go_roundw
          case rel => exact ⟨j + 1 + 1 + n8, _, ⟨O9.out, R9.out, G9.out, ET.out, by have h1 := HV.out.len; have h2 := LT.out; simp only [List.length_append, List.length_singleton]; omega⟩, SP, R9.out.le⟩
          case measure => have h1 := R9.out.off; have h2 := R9.out.le; have h3 := HO0.out; simp only [h1, h3]; omega
        · have N2 : Hid (∀ q, s.data.toList.drop (j + 1) ≠ 92 :: q) := fun q e => hb ⟨q, by rw [← D1.out, e]⟩
          go_wp2_with fail
          refine (skip_no bt ba s hs (j + 1) 92 N2.out w3 R3.out).mono ?_
          rintro e w4 ⟨rfl, hR, hG⟩
          have R4 := Lib.hid hR
          have G4 := Lib.hid (grown_trans G3.out hG)
          clear hR hG R3 G3
          by_cases hq : ∃ r', r = 34 :: r'
          · obtain ⟨r', rfl⟩ := hq
            clear hn hb N1 N2
            go_wp2_with fail
            refine (skip_yes bt ba s hs (j + 1) 34 r' D1.out w4 R4.out).mono ?_
            rintro e w6 ⟨rfl, hR, hG⟩
            have R6 := Lib.hid hR
            have D2 := Lib.hid ((drop_one D1.out).symm.trans rfl : r' = s.data.toList.drop (j + 1 + 1))
            have G6 := Lib.hid (grown_trans HV.out.gr (grown_trans G4.out hG))
            have O6 := Lib.hid (HV.out.own.grown (grown_trans G4.out hG) HV.out.ne)
            clear hR hG R4 G4
            go_wp2_with (at_builtin; refine wpList_append_E rfl (.tmp 25) (.tmp 26) rfl w.heap.size u4 o rfl (O6.out.below ((Below.refl _ _).alloc (Nat.le_refl _) _)) ⟨w6.heap.size, 0, none⟩ 1 [34] 1 rfl rfl (by decide) (bytes_one w6 34) (by simp only [List.length_singleton]; omega) (by have := G6.out.size; simp; omega) ?_; intro v7 w7 ho hg; have O7 := Lib.hid ho; have G7 := Lib.hid (own_put O6.out ((Below.refl _ _).alloc (Nat.le_refl _) _) hg G6.out rfl); have R7 := Lib.hid (rs_put R6.out O6.out ((Below.refl _ _).alloc (Nat.le_refl _) _) hg); clear ho hg)
            refine (nextPlain bt ba s hs (j + 1 + 1) w7 R7.out).mono ?_
            rintro e w8 ⟨rfl, hR, hG⟩
            obtain ⟨n8, hn8⟩ : ∃ n8, n8 = lead plainB (s.data.toList.drop (j + 1 + 1)) := ⟨_, rfl⟩
            rw [← hn8] at hR ⊢
            obtain ⟨t8, ht8⟩ : ∃ t8, t8 = s.extract (j + 1 + 1) (j + 1 + 1 + n8) := ⟨_, rfl⟩
            have ht8d : t8.data.toList = (s.data.toList.drop (j + 1 + 1)).take n8 := by rw [ht8, ext_take]
            have ht8s : t8.size ≤ 1000000 := by rw [ht8]; exact Nat.le_trans (HSS.out _ n8) hs
            rw [← ht8]
            have R8 := Lib.hid hR
            have O8 := Lib.hid (O7.out.grown hG (O7.out.ne R7.out.hk (by decide)))
            have G8 := Lib.hid (grown_trans G7.out hG)
            have ET : Hid (u = pre (o ++ [34] ++ t8.data.toList) (unq (s.data.toList.drop (j + 1 + 1 + n8)))) := by
              rw [HV.out.eq, HR.out, unq_esc r' rfl (.inr rfl), D2.out, pre_pre, plains, ← hn8, List.drop_drop, ← ht8d, pre_pre]
              rfl
            have SP : Hid (Stop (s.data.toList.drop (j + 1 + 1 + n8))) := fun c r h => by
              rw [← List.drop_drop, hn8] at h
              exact lead_stops _ _ c r h
            have LT : Hid (t8.data.toList.length ≤ n8) := by
              rw [ht8d, List.length_take]
              exact Nat.min_le_left _ _
            clear hR hG ht8 ht8d hn8 R6 O6 G6 O7
            go_wp2_with (at_builtin; refine wpList_append_E_string rfl (.tmp 28) (.tmp 30) rfl w.heap.size v7 (o ++ [34]) rfl O8.out t8 rfl (by simp only [List.length_append, List.length_singleton]; omega) G8.out.size ?_; intro v9 w9 ho hg; have O9 := Lib.hid ho; have G9 := Lib.hid (own_put O8.out (Below.refl _ _) hg G8.out rfl); have R9 := Lib.hid (rs_put R8.out O8.out (Below.refl _ _) hg); clear ho hg)
            go_roundw
            case rel => exact ⟨j + 1 + 1 + n8, _, ⟨O9.out, R9.out, G9.out, ET.out, by have h1 := HV.out.len; have h2 := LT.out; simp only [List.length_append, List.length_singleton]; omega⟩, SP, R9.out.le⟩
            case measure => have h1 := R9.out.off; have h2 := R9.out.le; have h3 := HO0.out; simp only [h1, h3]; omega
          · have N3 : Hid (∀ q, s.data.toList.drop (j + 1) ≠ 34 :: q) := fun q e => hq ⟨q, by rw [← D1.out, e]⟩
            go_wp2_with fail
            refine (skip_no bt ba s hs (j + 1) 34 N3.out w4 R4.out).mono ?_
            rintro e w5 ⟨rfl, hR, hG⟩
            have R5 := Lib.hid hR
            have G5 := Lib.hid (grown_trans HV.out.gr (grown_trans G4.out hG))
            clear hR hG R4 G4
            have HN : Hid (u = none) := by
              rw [HV.out.eq, HR.out, val_none hn hb hq]
              rfl
            clear hn hb hq N1 N2 N3
            go_wp2
            go_ret2
            exact ⟨⟨#[]⟩, false, j + 1, rfl, R5.out, G5.out, ⟨fun h => (by cases h), fun _ => HN.out⟩⟩
    · have N0 : Hid (∀ q, s.data.toList.drop j ≠ 92 :: q) := fun q e => hc ⟨q, e⟩
      clear hc
      go_wp2_with fail
      refine (skip_no bt ba s hs j 92 N0.out wr HV.out.rs).mono ?_
      rintro e w1' ⟨rfl, hR, hG⟩
      have RA := Lib.hid hR
      have GA := Lib.hid hG
      have OA := Lib.hid (HV.out.own.grown hG HV.out.ne)
      have NA := Lib.hid HV.out.ne
      have EQ := Lib.hid HV.out.eq
      have GV := Lib.hid (grown_trans HV.out.gr hG)
      clear hR hG GA
      obtain ⟨A, n, cap, rfl⟩ := OA.out.form
      have OD : Hid (OwnE w1'.drew w.heap.size (.slice A n cap) o) := OA.out.below ⟨rfl, rfl, rfl, Nat.le_refl _, fun _ _ => rfl⟩
      have RD : Hid (RS bt ba s j w1'.drew) := ⟨RA.out.hs, RA.out.hk, RA.out.le⟩
      have GD : Hid (w.grownBy w1'.drew (some ba)) := ⟨GV.out.os, GV.out.tape, GV.out.output, GV.out.size, GV.out.block⟩
      have CV1 := Lib.hid (OwnE.conv' OD.out)
      have ND : Hid ((Value.slice A n cap).ownBlock ≠ some ba) := NA.out
      clear HV OA RA GV NA
      go_upto_region 11 with fail
      by_cases hq : ∃ r, s.data.toList.drop j = 34 :: r
      · obtain ⟨r, hr⟩ := hq
        have VO : Hid (ValOK u (mkS o) true (s.data.toList.drop (j + 1))) := by
          refine ⟨fun _ => ?_, fun h => (by cases h)⟩
          rw [EQ.out, hr, unq_end r rfl, pre_some, List.append_nil, drop_one hr]
          unfold mkS
          rw [ba_mk]
        have HR := Lib.hid hr
        clear hr HT EQ N0 hol hj
        refine wp_region_held_drew (S := (fun _ => True)) (by kernel_rfl) trivial (fun hHeld => ?_)
        refine wpAnyH_take (i := 0) (v := _) rfl (by kernel_rfl) (by kernel_rfl) (by kernel_rfl) (fun _ _ _ h => h) (Or.inl ⟨by rfl, by intro w hSw; go_simp; try (with_reducible rfl)⟩) trivial ?_
        try simp only [Act.put, List.setIfInBounds_toArray, List.set_cons_zero, List.set_cons_succ]
        refine wpAnyH_take (i := 2) (v := _) rfl (by kernel_rfl) (by kernel_rfl) (by kernel_rfl) (fun _ _ _ h => h) (Or.inl ⟨by rfl, by intro w hSw; go_simp; try (with_reducible rfl)⟩) trivial ?_
        try simp only [Act.put, List.setIfInBounds_toArray, List.set_cons_zero, List.set_cons_succ]
        refine wpAnyH_ready (rs := [1, 3]) (by kernel_rfl) (by simp) ?_
        refine AllReadyH.cons rfl (fun K hK => ?_) (AllReadyH.cons rfl (fun K hK => ?_) AllReadyH.nil)
        · skip
          have cvh := CV1.out
          go_simp
          clear cvh
          refine hK.out _ _ trivial (fun hHeld => ?_)
          clear hK K
          try simp only [Act.put, List.setIfInBounds_toArray, List.set_cons_zero, List.set_cons_succ]
          refine wpAnyH_ready (rs := [3]) (by kernel_rfl) (by simp) ?_
          refine AllReadyH.cons rfl (fun K hK => ?_) AllReadyH.nil
          go_simp
          go_at_call 65
          refine Calls.mono (skip_yes bt ba s hs j 34 r HR.out _ RD.out) ?_
          rintro e w2 ⟨rfl, hR, hG⟩
          have R2 := Lib.hid hR
          have G2 := Lib.hid (grown_trans GD.out hG)
          have cv2 := OwnE.conv' (OD.out.grown hG ND.out)
          clear hR hG
          refine hK.out _ _ trivial (fun hHeld => ?_)
          clear hK K
          try simp only [Act.put, List.setIfInBounds_toArray, List.set_cons_zero, List.set_cons_succ]
          clear cv2
          refine wpAnyH_ready (rs := [4]) (by kernel_rfl) (by simp) ?_
          refine AllReadyH.cons rfl (fun K hK => ?_) AllReadyH.nil
          go_simp
          refine hK.out _ _ trivial (fun hHeld => ?_)
          clear hK K
          try simp only [Act.put, List.setIfInBounds_toArray, List.set_cons_zero, List.set_cons_succ]
          refine wpAnyH_ready (rs := [5]) (by kernel_rfl) (by simp) ?_
          refine AllReadyH.cons rfl (fun K hK => ?_) AllReadyH.nil
          go_simp
          refine hK.out _ _ trivial (fun hHeld => ?_)
          clear hK K
          try simp only [Act.put, List.setIfInBounds_toArray, List.set_cons_zero, List.set_cons_succ]
          refine wpAnyH_done (by kernel_rfl) ?_ _
          go_wp2
          go_ret2
          exact ⟨mkS o, true, j + 1, rfl, R2.out, G2.out, VO.out⟩
        · skip
          go_simp
          go_at_call 65
          refine Calls.mono (skip_yes bt ba s hs j 34 r HR.out _ RD.out) ?_
          rintro e w2 ⟨rfl, hR, hG⟩
          have R2 := Lib.hid hR
          have G2 := Lib.hid (grown_trans GD.out hG)
          have cv2 := OwnE.conv' (OD.out.grown hG ND.out)
          clear hR hG
          refine hK.out _ _ trivial (fun hHeld => ?_)
          clear hK K
          try simp only [Act.put, List.setIfInBounds_toArray, List.set_cons_zero, List.set_cons_succ]
          refine wpAnyH_ready (rs := [1]) (by kernel_rfl) (by simp) ?_
          refine AllReadyH.cons rfl (fun K hK => ?_) AllReadyH.nil
          have cvh := cv2
          go_simp
          clear cvh
          refine hK.out _ _ trivial (fun hHeld => ?_)
          clear hK K
          try simp only [Act.put, List.setIfInBounds_toArray, List.set_cons_zero, List.set_cons_succ]
          clear cv2
          refine wpAnyH_ready (rs := [4]) (by kernel_rfl) (by simp) ?_
          refine AllReadyH.cons rfl (fun K hK => ?_) AllReadyH.nil
          go_simp
          refine hK.out _ _ trivial (fun hHeld => ?_)
          clear hK K
          try simp only [Act.put, List.setIfInBounds_toArray, List.set_cons_zero, List.set_cons_succ]
          refine wpAnyH_ready (rs := [5]) (by kernel_rfl) (by simp) ?_
          refine AllReadyH.cons rfl (fun K hK => ?_) AllReadyH.nil
          go_simp
          refine hK.out _ _ trivial (fun hHeld => ?_)
          clear hK K
          try simp only [Act.put, List.setIfInBounds_toArray, List.set_cons_zero, List.set_cons_succ]
          refine wpAnyH_done (by kernel_rfl) ?_ _
          go_wp2
          go_ret2
          exact ⟨mkS o, true, j + 1, rfl, R2.out, G2.out, VO.out⟩
      · have NQ : Hid (∀ q, s.data.toList.drop j ≠ 34 :: q) := fun q e => hq ⟨q, e⟩
        have VO : Hid (ValOK u (mkS o) false (s.data.toList.drop j)) := by
          refine ⟨fun h => (by cases h), fun _ => ?_⟩
          rw [EQ.out]
          cases hd : s.data.toList.drop j with
          | nil => rw [unq_nil]; rfl
          | cons c r =>
            have h1 := HT.out c r hd
            unfold plainB at h1
            rw [decide_eq_false_iff_not] at h1
            have h2 : c.toNat ≠ 92 := fun e => N0.out r (by rw [hd, show c = 92 from UInt8.toNat_inj.1 e])
            have h3 : c.toNat ≠ 34 := fun e => NQ.out r (by rw [hd, show c = 34 from UInt8.toNat_inj.1 e])
            rw [unq_nl r (by omega)]; rfl
        clear hq HT EQ N0 hol hj
        refine wp_region_held_drew (S := (fun _ => True)) (by kernel_rfl) trivial (fun hHeld => ?_)
        refine wpAnyH_take (i := 0) (v := _) rfl (by kernel_rfl) (by kernel_rfl) (by kernel_rfl) (fun _ _ _ h => h) (Or.inl ⟨by rfl, by intro w hSw; go_simp; try (with_reducible rfl)⟩) trivial ?_
        try simp only [Act.put, List.setIfInBounds_toArray, List.set_cons_zero, List.set_cons_succ]
        refine wpAnyH_take (i := 2) (v := _) rfl (by kernel_rfl) (by kernel_rfl) (by kernel_rfl) (fun _ _ _ h => h) (Or.inl ⟨by rfl, by intro w hSw; go_simp; try (with_reducible rfl)⟩) trivial ?_
        try simp only [Act.put, List.setIfInBounds_toArray, List.set_cons_zero, List.set_cons_succ]
        refine wpAnyH_ready (rs := [1, 3]) (by kernel_rfl) (by simp) ?_
        refine AllReadyH.cons rfl (fun K hK => ?_) (AllReadyH.cons rfl (fun K hK => ?_) AllReadyH.nil)
        · skip
          have cvh := CV1.out
          go_simp
          clear cvh
          refine hK.out _ _ trivial (fun hHeld => ?_)
          clear hK K
          try simp only [Act.put, List.setIfInBounds_toArray, List.set_cons_zero, List.set_cons_succ]
          refine wpAnyH_ready (rs := [3]) (by kernel_rfl) (by simp) ?_
          refine AllReadyH.cons rfl (fun K hK => ?_) AllReadyH.nil
          go_simp
          go_at_call 65
          refine Calls.mono (skip_no bt ba s hs j 34 NQ.out _ RD.out) ?_
          rintro e w2 ⟨rfl, hR, hG⟩
          have R2 := Lib.hid hR
          have G2 := Lib.hid (grown_trans GD.out hG)
          have cv2 := OwnE.conv' (OD.out.grown hG ND.out)
          clear hR hG
          refine hK.out _ _ trivial (fun hHeld => ?_)
          clear hK K
          try simp only [Act.put, List.setIfInBounds_toArray, List.set_cons_zero, List.set_cons_succ]
          clear cv2
          refine wpAnyH_ready (rs := [4]) (by kernel_rfl) (by simp) ?_
          refine AllReadyH.cons rfl (fun K hK => ?_) AllReadyH.nil
          go_simp
          refine hK.out _ _ trivial (fun hHeld => ?_)
          clear hK K
          try simp only [Act.put, List.setIfInBounds_toArray, List.set_cons_zero, List.set_cons_succ]
          refine wpAnyH_ready (rs := [5]) (by kernel_rfl) (by simp) ?_
          refine AllReadyH.cons rfl (fun K hK => ?_) AllReadyH.nil
          go_simp
          refine hK.out _ _ trivial (fun hHeld => ?_)
          clear hK K
          try simp only [Act.put, List.setIfInBounds_toArray, List.set_cons_zero, List.set_cons_succ]
          refine wpAnyH_done (by kernel_rfl) ?_ _
          go_wp2
          go_ret2
          exact ⟨mkS o, false, j, rfl, R2.out, G2.out, VO.out⟩
        · skip
          go_simp
          go_at_call 65
          refine Calls.mono (skip_no bt ba s hs j 34 NQ.out _ RD.out) ?_
          rintro e w2 ⟨rfl, hR, hG⟩
          have R2 := Lib.hid hR
          have G2 := Lib.hid (grown_trans GD.out hG)
          have cv2 := OwnE.conv' (OD.out.grown hG ND.out)
          clear hR hG
          refine hK.out _ _ trivial (fun hHeld => ?_)
          clear hK K
          try simp only [Act.put, List.setIfInBounds_toArray, List.set_cons_zero, List.set_cons_succ]
          refine wpAnyH_ready (rs := [1]) (by kernel_rfl) (by simp) ?_
          refine AllReadyH.cons rfl (fun K hK => ?_) AllReadyH.nil
          have cvh := cv2
          go_simp
          clear cvh
          refine hK.out _ _ trivial (fun hHeld => ?_)
          clear hK K
          try simp only [Act.put, List.setIfInBounds_toArray, List.set_cons_zero, List.set_cons_succ]
          clear cv2
          refine wpAnyH_ready (rs := [4]) (by kernel_rfl) (by simp) ?_
          refine AllReadyH.cons rfl (fun K hK => ?_) AllReadyH.nil
          go_simp
          refine hK.out _ _ trivial (fun hHeld => ?_)
          clear hK K
          try simp only [Act.put, List.setIfInBounds_toArray, List.set_cons_zero, List.set_cons_succ]
          refine wpAnyH_ready (rs := [5]) (by kernel_rfl) (by simp) ?_
          refine AllReadyH.cons rfl (fun K hK => ?_) AllReadyH.nil
          go_simp
          refine hK.out _ _ trivial (fun hHeld => ?_)
          clear hK K
          try simp only [Act.put, List.setIfInBounds_toArray, List.set_cons_zero, List.set_cons_succ]
          refine wpAnyH_done (by kernel_rfl) ?_ _
          go_wp2
          go_ret2
          exact ⟨mkS o, false, j, rfl, R2.out, G2.out, VO.out⟩
end Go.Proofs.Ytbphhdmnfepbnaa.Lab
