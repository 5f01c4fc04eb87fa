/- Layer 5: list and Parse of the program. -/
import Derived.Test.YtbphhdmnfepbnaaLR
import Derived.Test.YtbphhdmnfepbnaaLC
set_option linter.unusedVariables false
set_option linter.unusedSimpArgs false
namespace Go.Proofs.Ytbphhdmnfepbnaa.Lab
open Go.RowKit
theorem Own5.grown {w w' : World} {B : Nat} {v : Value} {l : List Lb} {row : Option Nat} (h : Own5 w B v l) (hb : w.grownBy w' row) (hne : v.ownBlock ≠ row) : Own5 w' B v l := by
  refine ⟨h.1, ?_⟩
  rcases h.2 with h0 | ⟨g, cap, cur, e, h1, h2, h3⟩
  · exact .inl h0
  · subst e
    exact .inr ⟨g, cap, cur, rfl, h1, (hb.block g (Array.getElem?_eq_some_iff.1 h2).1 hne).trans h2, h3⟩
theorem Own5.lt {w : World} {B : Nat} {v : Value} {l : List Lb} (h : Own5 w B v l) : ∀ g, v.ownBlock = some g → B ≤ g ∧ g < w.heap.size := World.ownsRow.lt h
theorem Own5.ne {w : World} {B : Nat} {v : Value} {l : List Lb} (h : Own5 w B v l) {g : Nat} {cs : Array Value} {fz : Nat × Nat} {t : TypeId} (hh : w.heap[g]? = some (.cells cs t fz)) (ht : t ≠ 29) : v.ownBlock ≠ some g := by
  intro e
  rcases h.2 with ⟨rfl, _⟩ | ⟨g', cap, cur, rfl, _, hh', _⟩
  · simp [Value.ownBlock] at e
  · have : g' = g := by simpa [Value.ownBlock] using e
    subst this
    rw [hh] at hh'
    simp at hh'
    exact ht hh'.2.1
/-- Between two rounds of list. -/
structure LT (full : List UInt8) (bt ba : Nat) (s : ByteArray) (w : World) (k : Nat) (m : List Lb) (vl : Value) (V : World) : Prop where
  own : Own5 V w.heap.size vl m
  rs : RS bt ba s k V
  gr : w.grownBy V (some ba)
  len : m.length ≤ k
theorem LT.ne {full : List UInt8} {bt ba : Nat} {s : ByteArray} {w : World} {k : Nat} {m : List Lb} {vl : Value} {V : World} (h : LT full bt ba s w k m vl V) : vl.ownBlock ≠ some ba := h.own.ne h.rs.hk (by decide)
theorem LT.step {full : List UInt8} {bt ba : Nat} {s : ByteArray} {w : World} {k k' : Nat} {m : List Lb} {vl : Value} {V V' : World} (h : LT full bt ba s w k m vl V) (hr : RS bt ba s k' V') (hg : V.grownBy V' (some ba)) (hk : k ≤ k') : LT full bt ba s w k' m vl V' :=
  ⟨h.own.grown hg h.ne, hr, grown_trans h.gr hg, Nat.le_trans h.len hk⟩
theorem LT.app {full : List UInt8} {bt ba : Nat} {s : ByteArray} {w : World} {k : Nat} {m m' : List Lb} {vl v' : Value} {V V0 V1 : World} (h : LT full bt ba s w k m vl V) (hV : Below V.heap.size V V0) (hg : V0.grownBy V1 vl.ownBlock) (ho : Own5 V1 w.heap.size v' m') (hk : m'.length ≤ k) : LT full bt ba s w k m' v' V1 := by
  refine ⟨ho, (h.rs.below hV).grown hg (fun e => h.own.ne h.rs.hs (by decide) e.symm) (fun e => h.ne e.symm), ?_, hk⟩
  refine ⟨hg.os.trans (hV.os.trans h.gr.os), hg.tape.trans (hV.tape.trans h.gr.tape), hg.output.trans (hV.output.trans h.gr.output), Nat.le_trans h.gr.size (Nat.le_trans hV.size hg.size), fun b hb hne => ?_⟩
  have h1 : b < V.heap.size := Nat.lt_of_lt_of_le hb h.gr.size
  have h2 : some b ≠ vl.ownBlock := fun e => by have := (h.own.lt b e.symm).1; omega
  exact (hg.block b (Nat.lt_of_lt_of_le h1 hV.size) h2).trans ((hV.block b h1).trans (h.gr.block b hb hne))
theorem two_at (V : World) (x y : Value) (t : TypeId) (g : Nat) (h : V.heap.size = g) : ∀ j u, [x, y][j]? = some u → (V.alloc (.cells #[x, y] t)).cell? ((⟨g, 0, none⟩ : Addr).add j) = some u := by
  subst h
  exact cell_two_new V x y t
/-- What list hands back. -/
structure ListOK (u : Option (List Lb)) (m : List Lb) (b : Bool) (r : List UInt8) : Prop where
  yes : b = true → r = [] → u = some m
  no : b = false → u = none
  more : r ≠ [] → u = none
def ListPost (u : Option (List Lb)) (bt ba : Nat) (s : ByteArray) (w : World) (e : Ending) (w' : World) : Prop :=
  ∃ v b k' m, e = .returned (.tuple #[v, .bool b]) ∧ Own5 w' w.heap.size v m ∧ RS bt ba s k' w' ∧ w.grownBy w' (some ba) ∧ ListOK u m b (s.data.toList.drop k') ∧ m.length ≤ s.size
theorem labsP_none {f : Nat} {l : List UInt8} (h : labP l = none) : labsP f l = none := by
  cases f with
  | zero => rfl
  | succ f => rw [labsP, h]
theorem labsP_end {f : Nat} {l : List UInt8} {x : Lb} (h : labP l = some (x, [])) : labsP f l = none := by
  cases f with
  | zero => rfl
  | succ f => rw [labsP, h]
theorem labsP_comma {f : Nat} {l r : List UInt8} {x : Lb} (h : labP l = some (x, 44 :: r)) : labsP (f + 1) l = (labsP f r).map (fun m => x :: m) := by
  rw [labsP, h]
  simp only
  rw [if_pos (show (44 : UInt8).toNat = 44 from rfl)]
theorem labsP_last {f : Nat} {l : List UInt8} {x : Lb} (h : labP l = some (x, [125])) : labsP (f + 1) l = some [x] := by
  rw [labsP, h]
  simp only
  rw [if_neg (show ¬ (125 : UInt8).toNat = 44 by decide), if_pos ⟨show (125 : UInt8).toNat = 125 from rfl, trivial⟩]
theorem labsP_bad {f : Nat} {l r : List UInt8} {x : Lb} {c : UInt8} (h : labP l = some (x, c :: r)) (h1 : c ≠ 44) (h2 : ¬ (c = 125 ∧ r = [])) : labsP f l = none := by
  cases f with
  | zero => rfl
  | succ f =>
    rw [labsP, h]
    simp only
    rw [if_neg (show ¬ c.toNat = 44 from fun e => h1 (UInt8.toNat_inj.1 e)), if_neg (show ¬ (c.toNat = 125 ∧ r = []) from fun e => h2 ⟨UInt8.toNat_inj.1 e.1, e.2⟩)]
/-- What has been read, and what is to come. -/
def Rest (u : Option (List Lb)) (m : List Lb) (l : List UInt8) : Prop := ∃ f, l.length + 1 ≤ f ∧ u = (labsP f l).map (fun q => m ++ q)
theorem Rest.none_ {u : Option (List Lb)} {m : List Lb} {l : List UInt8} (h : Rest u m l) (hl : labP l = none) : u = none := by
  obtain ⟨f, hf, e⟩ := h
  rw [e, labsP_none hl]; rfl
theorem Rest.ends {u : Option (List Lb)} {m : List Lb} {l : List UInt8} {x : Lb} (h : Rest u m l) (hl : labP l = some (x, [])) : u = none := by
  obtain ⟨f, hf, e⟩ := h
  rw [e, labsP_end hl]; rfl
theorem Rest.comma {u : Option (List Lb)} {m : List Lb} {l r : List UInt8} {x : Lb} (h : Rest u m l) (hl : labP l = some (x, 44 :: r)) : Rest u (m ++ [x]) r := by
  obtain ⟨f, hf, e⟩ := h
  have h1 := labP_len hl
  rw [List.length_cons] at h1
  obtain ⟨f', rfl⟩ : ∃ f', f = f' + 1 := ⟨f - 1, by omega⟩
  refine ⟨f', by omega, ?_⟩
  rw [e, labsP_comma hl]
  cases labsP f' r <;> simp
theorem Rest.last {u : Option (List Lb)} {m : List Lb} {l : List UInt8} {x : Lb} (h : Rest u m l) (hl : labP l = some (x, [125])) : u = some (m ++ [x]) := by
  obtain ⟨f, hf, e⟩ := h
  obtain ⟨f', rfl⟩ : ∃ f', f = f' + 1 := ⟨f - 1, by omega⟩
  rw [e, labsP_last hl]; rfl
theorem Rest.bad {u : Option (List Lb)} {m : List Lb} {l r : List UInt8} {x : Lb} {c : UInt8} (h : Rest u m l) (hl : labP l = some (x, c :: r)) (h1 : c ≠ 44) (h2 : ¬ (c = 125 ∧ r = [])) : u = none := by
  obtain ⟨f, hf, e⟩ := h
  rw [e, labsP_bad hl h1 h2]; rfl
set_option maxRecDepth 100000 in
set_option maxHeartbeats 4000000 in
theorem list_any (bt ba : Nat) (s : ByteArray) (hs : s.size ≤ 1000000) (w : World) (H : RS bt ba s 0 w) :
    Calls Try.prog 45 #[.func (.func 64) #[] #[.pointer (some ⟨ba, 0, none⟩), .pointer (some ⟨bt, 0, none⟩)]] w (ListPost (txtP s.data.toList) bt ba s w) := by
  obtain ⟨i0, hi, hz0, hz1, hz2⟩ := info_parts info29
  have HH := Lib.hid H
  obtain ⟨full, hfull⟩ : ∃ full, full = s.data.toList := ⟨_, rfl⟩
  have HF := Lib.hid hfull
  have hd0 : s.data.toList.drop 0 = full := by rw [List.drop_zero, hfull]
  have HD0 := Lib.hid hd0
  rw [← hfull]
  obtain ⟨u, hu⟩ : ∃ u, u = txtP full := ⟨_, rfl⟩
  have HU := Lib.hid hu
  rw [← hu]
  clear H hfull hd0 hu
  by_cases h1 : ∃ r, full = 123 :: r
  · obtain ⟨r, rfl⟩ := h1
    have D1 : Hid (s.data.toList.drop (0 + 1) = r) := drop_one HD0.out
    go_enter Try.func45, Try.ntmps45
    go_wp2_with fail
    refine (skip_yes bt ba s hs 0 123 r HD0.out w HH.out).mono ?_
    rintro e w1 ⟨rfl, hR, hG⟩
    have R1 := Lib.hid hR
    have G1 := Lib.hid hG
    clear hR hG HH
    by_cases h2 : ∃ r', r = 125 :: r'
    · obtain ⟨r', rfl⟩ := h2
      go_wp2_with fail
      refine (skip_yes bt ba s hs (0 + 1) 125 r' D1.out w1 R1.out).mono ?_
      rintro e w2 ⟨rfl, hR, hG⟩
      have R2 := Lib.hid hR
      have G2 := Lib.hid (grown_trans G1.out hG)
      have D2 := Lib.hid (drop_one D1.out)
      have OK : Hid (ListOK u [] true (s.data.toList.drop (0 + 1 + 1))) := by
        rw [D2.out]
        refine ⟨fun _ h => ?_, fun h => (by cases h), fun h => ?_⟩
        · subst h
          rw [HU.out, txtP, if_pos (by rfl), if_pos rfl]
        · rw [HU.out, txtP, if_pos (by rfl), if_neg (by intro e; injection e with _ e; exact h e)]
          exact labsP_none (labP_zero rfl)
      clear hR hG R1 G1 D1 D2 HD0
      go_wp2
      go_ret2
      exact ⟨_, _, _, [], rfl, World.ownsRow_nil _ _ _ _, R2.out, G2.out, OK.out, Nat.zero_le _⟩
    · have N1 : Hid (∀ q, s.data.toList.drop (0 + 1) ≠ 125 :: q) := fun q e => h2 ⟨q, by rw [← D1.out]; exact e⟩
      go_wp2_with fail
      refine (skip_no bt ba s hs (0 + 1) 125 N1.out w1 R1.out).mono ?_
      rintro e w2 ⟨rfl, hR, hG⟩
      have T2 : Hid (LT (123 :: r) bt ba s w (0 + 1) [] (.slice none 0 0) w2) := ⟨World.ownsRow_nil _ _ _ _, hR, grown_trans G1.out hG, Nat.zero_le _⟩
      have Q2 : Hid (Rest u [] (s.data.toList.drop (0 + 1))) := by
        rw [D1.out]
        refine ⟨r.length + 1, Nat.le_refl _, ?_⟩
        rw [HU.out, txtP, if_pos (by rfl), if_neg (fun e => h2 ⟨[], e⟩)]
        cases labsP (r.length + 1) r <;> simp
      clear hR hG R1 G1 D1 HD0 N1 h2
      go_wp2
      go_loopw [4] (fun vl wr => ∃ (j : Nat) (m : List Lb), Hid (LT (123 :: r) bt ba s w j m vl wr) ∧ Hid (Rest u m (s.data.toList.drop j)) ∧ j ≤ s.size) (fun _ wr => s.size - offOf ba wr)
      case atStart => exact ⟨0 + 1, [], T2, Q2, T2.out.rs.le⟩
      case round =>
        clear T2 Q2
        obtain ⟨j, m, HT, HQ, hj⟩ := hrel
        have HO := Lib.hid HT.out.rs.off
        have hml : m.length ≤ 1000000 := Nat.le_trans HT.out.len (Nat.le_trans hj hs)
        go_wp2_with fail
        refine (label_any bt ba s hs j wr HT.out.rs).mono ?_
        rintro e w3 ⟨n, v, b, k', rfl, hR, hG, hL⟩
        cases b with
        | false =>
          have OK : Hid (ListOK u [] false (s.data.toList.drop k')) := by
            have hn := HQ.out.none_ (hL.no rfl)
            exact ⟨fun h => (by cases h), fun _ => hn, fun _ => hn⟩
          have R3 := Lib.hid hR
          have G3 := Lib.hid (grown_trans HT.out.gr hG)
          have R4 := Lib.hid (R3.out.below ((Below.refl _ _).alloc (Nat.le_refl _) (.cells #[.string n, .string v] 29)))
          have G4 := Lib.hid (grown_trans G3.out (grown_below ((Below.refl _ w3).alloc (Nat.le_refl _) (.cells #[.string n, .string v] 29))))
          clear hR hG hL HT HQ
          go_wp2
          go_ret2
          exact ⟨_, _, k', [], rfl, World.ownsRow_nil _ _ _ _, R4.out, G4.out, OK.out, Nat.zero_le _⟩
        | true =>
          have LP := Lib.hid (hL.yes rfl)
          have hkk : j + 4 ≤ k' := by
            have h1 := labP_len LP.out
            rw [List.length_drop, List.length_drop, Array.length_toList] at h1
            have h2 : s.data.size = s.size := rfl
            have h3 := hR.le
            omega
          have T3 := Lib.hid (HT.out.step hR hG (by omega))
          have K3 := Lib.hid hR.le
          clear hR hG hL
          have T4 : Hid (LT (123 :: r) bt ba s w k' m u4 (w3.alloc (.cells #[.string n, .string v] 29))) := ⟨T3.out.own.below ((Below.refl _ _).alloc (Nat.le_refl _) _), T3.out.rs.below ((Below.refl _ _).alloc (Nat.le_refl _) _), grown_trans T3.out.gr (grown_below ((Below.refl _ _).alloc (Nat.le_refl _) _)), T3.out.len⟩
          go_wp2_with (at_builtin; refine wpList_append_own _ rfl (.tmp 19) (.tmp 21) 22 rfl w.heap.size 29 i0 _ 2 32 Try.underlying22 hi hz0 hz1 hz2 rfl (by decide) u4 _ _ rfl (T4.out.own.below ((Below.refl _ _).alloc (Nat.le_refl _) _)) ⟨w3.heap.size + 1, 0, none⟩ 1 1 [.string n, .string v] rfl rfl (two_at _ _ _ _ _ (by simp)) (by simp [Value.oneCell']) (by simp only [maxLen]; omega) (by omega) (by have := T3.out.gr.size; simp; omega) ?_; intro v5 w5 ho hg _; have T5 := Lib.hid (T4.out.app ((Below.refl _ _).alloc (Nat.le_refl _) _) hg (own5_snoc (x := ⟨n, v⟩) ho) (by have := HT.out.len; rw [List.length_append, List.length_singleton]; omega)); clear ho hg)
          by_cases hc : ∃ q, s.data.toList.drop k' = 44 :: q
          · obtain ⟨q, hq⟩ := hc
            have Q5 : Hid (Rest u (m ++ [⟨n, v⟩]) (s.data.toList.drop (k' + 1))) := by
              rw [drop_one hq]
              exact HQ.out.comma (by rw [LP.out, hq])
            refine (skip_yes bt ba s hs k' 44 q hq w5 T5.out.rs).mono ?_
            rintro e w6 ⟨rfl, hR, hG⟩
            have T6 := Lib.hid (T5.out.step hR hG (Nat.le_succ _))
            clear hR hG hq HQ LP T3 T4 T5
            go_wp2
            go_roundw
            case rel => exact ⟨k' + 1, _, T6, Q5, T6.out.rs.le⟩
            case measure => have h1 := T6.out.rs.off; have h2 := T6.out.rs.le; have h3 := HO.out; simp only [h1, h3]; omega
          · have NC : Hid (∀ q, s.data.toList.drop k' ≠ 44 :: q) := fun q e => hc ⟨q, e⟩
            refine (skip_no bt ba s hs k' 44 NC.out w5 T5.out.rs).mono ?_
            rintro e w6 ⟨rfl, hR, hG⟩
            have T6 := Lib.hid (T5.out.step hR hG (Nat.le_refl _))
            clear hR hG hc T3 T4 T5
            by_cases hb : ∃ q, s.data.toList.drop k' = 125 :: q
            · obtain ⟨q, hq⟩ := hb
              have OK : Hid (ListOK u (m ++ [⟨n, v⟩]) true (s.data.toList.drop (k' + 1))) := by
                rw [drop_one hq]
                refine ⟨fun _ h => ?_, fun h => (by cases h), fun h => ?_⟩
                · subst h
                  exact HQ.out.last (by rw [LP.out, hq])
                · exact HQ.out.bad (by rw [LP.out, hq]) (by decide) (fun e => h e.2)
              go_wp2_with fail
              refine (skip_yes bt ba s hs k' 125 q hq w6 T6.out.rs).mono ?_
              rintro e w7 ⟨rfl, hR, hG⟩
              have T7 := Lib.hid (T6.out.step hR hG (Nat.le_succ _))
              clear hR hG hq HQ LP T6
              go_wp2
              go_ret2
              exact ⟨_, _, k' + 1, _, rfl, T7.out.own, T7.out.rs, T7.out.gr, OK.out, Nat.le_trans T7.out.len T7.out.rs.le⟩
            · have NB : Hid (∀ q, s.data.toList.drop k' ≠ 125 :: q) := fun q e => hb ⟨q, e⟩
              have OK : Hid (ListOK u (m ++ [⟨n, v⟩]) false (s.data.toList.drop k')) := by
                have hn : u = none := by
                  cases hd : s.data.toList.drop k' with
                  | nil => exact HQ.out.ends (by rw [LP.out, hd])
                  | cons c q => exact HQ.out.bad (by rw [LP.out, hd]) (fun e => NC.out q (by rw [hd, e])) (fun e => NB.out q (by rw [hd, e.1]))
                exact ⟨fun h => (by cases h), fun _ => hn, fun _ => hn⟩
              go_wp2_with fail
              refine (skip_no bt ba s hs k' 125 NB.out w6 T6.out.rs).mono ?_
              rintro e w7 ⟨rfl, hR, hG⟩
              have T7 := Lib.hid (T6.out.step hR hG (Nat.le_refl _))
              clear hR hG HQ LP T6 hb
              go_wp2
              go_ret2
              exact ⟨_, _, k', _, rfl, T7.out.own, T7.out.rs, T7.out.gr, OK.out, Nat.le_trans T7.out.len T7.out.rs.le⟩
  · have N0 : Hid (∀ q, s.data.toList.drop 0 ≠ 123 :: q) := fun q e => h1 ⟨q, by rw [← HD0.out, e]⟩
    have OK : Hid (ListOK u [] false (s.data.toList.drop 0)) := by
      have hn : u = none := by
        rw [HU.out]
        cases full with
        | nil => rfl
        | cons c q => rw [txtP, if_neg (fun e => h1 ⟨q, by rw [show c = 123 from UInt8.toNat_inj.1 e]⟩)]
      exact ⟨fun h => (by cases h), fun _ => hn, fun _ => hn⟩
    go_enter Try.func45, Try.ntmps45
    go_wp2_with fail
    refine (skip_no bt ba s hs 0 123 N0.out w HH.out).mono ?_
    rintro e w1 ⟨rfl, hR, hG⟩
    have R1 := Lib.hid hR
    have G1 := Lib.hid hG
    clear hR hG HH N0 h1
    go_wp2
    go_ret2
    exact ⟨_, _, 0, [], rfl, World.ownsRow_nil _ _ _ _, R1.out, G1.out, OK.out, Nat.zero_le _⟩
end Go.Proofs.Ytbphhdmnfepbnaa.Lab
