/- Layer 8: the reference's insert. -/
import Derived.Test.YtejnmjaclhmelaaPE
set_option linter.unusedVariables false
set_option linter.unusedSimpArgs false
namespace Go.Proofs.Ytejnmjaclhmelaa.Po
open Go.RowKit
theorem cell_one_new (w : World) (u : Value) (e : TypeId) : ∀ j v, [u][j]? = some v → (w.alloc (.cells #[u] e)).cell? ((⟨w.heap.size, 0, none⟩ : Addr).add j) = some v := by
  intro j v hj
  match j, hj with
  | 0, hj => simp at hj; subst hj; simp [Addr.add]
theorem ins_mem {l : List Int} {x : Int} (ha : asc l) (hk : seekN l x < l.length) (h : l[seekN l x]?.getD 0 = x) : insP l x = l := by
  unfold insP
  rw [if_pos ((mem_seek ha).2 ⟨hk, by rw [List.getElem?_eq_getElem hk] at h; exact h⟩)]
theorem ins_no {l : List Int} {x : Int} (ha : asc l) (h : ∀ hk : seekN l x < l.length, l[seekN l x]?.getD 0 ≠ x) : insP l x = l.take (seekN l x) ++ [x] ++ l.drop (seekN l x) := by
  refine insP_cut fun hm => ?_
  obtain ⟨hk, e⟩ := (mem_seek ha).1 hm
  refine h hk ?_
  rw [List.getElem?_eq_getElem hk]
  exact e
theorem ins_row {W : World} {B : Nat} {v : Value} {m : List Int} {k : Nat} {x : Int} (hk : k ≤ m.length) (h : W.ownsRow B 3 1 v (0 + k + 1 + (m.length - k)) ([] ++ (ic m).take (k * 1) ++ [.int .i64 x] ++ (ic m).drop (k * 1))) :
    W.ownsRow B 3 1 v (m.take k ++ [x] ++ m.drop k).length (ic (m.take k ++ [x] ++ m.drop k)) := by
  have e : (m.take k ++ [x] ++ m.drop k).length = 0 + k + 1 + (m.length - k) := by simp; omega
  rw [e]
  unfold ic at h ⊢
  simpa using h
set_option maxHeartbeats 4000000 in
set_option maxRecDepth 100000 in
theorem pInsert_any (zs : List Int) (hl : zs.length ≤ 1000000) (hv : chk zs = 0) (sv : Value) (x : Int) (w : World) (hI : Ints w.heap.size w sv zs) :
    Calls Try.prog 45 #[sv, .int .i64 x] w (IntsOut w (insP zs x)) := by
  obtain ⟨i0, hi, hz0, hz1, hz2⟩ := info_parts infoI
  have CS := Lib.hid (pSeek_any zs hl sv x w hI.at)
  rw [seekO_ok hv] at CS
  have HV := Lib.hid ((chk_zero.1 hv).2)
  have hk := seekN_le zs x
  have HM := Lib.hid (@ins_mem zs x HV.out)
  have HN := Lib.hid (@ins_no zs x HV.out)
  have hXa := hI.at
  have H0 := Lib.hid hI
  obtain ⟨a, cap, rfl, hr⟩ := hI
  have HR := Lib.hid hr
  obtain ⟨a', cap', ea, hcx⟩ := hXa
  obtain ⟨rfl, rfl⟩ : a = a' ∧ cap = cap' := by simpa using ea
  have HX := Lib.hid hcx
  have hcap := hr.le
  clear hcx hr ea hv HV
  generalize seekN zs x = k at *
  have hfin : ∀ (V : World) (vr : Value), (∀ hk : k < zs.length, zs[k]?.getD 0 ≠ x) → V.ownsRow w.heap.size 3 1 vr (0 + k + 1 + (zs.length - k)) ([] ++ (ic zs).take (k * 1) ++ [.int .i64 x] ++ (ic zs).drop (k * 1)) → Below w.heap.size w V → IntsOut w (insP zs x) (.returned vr) V := fun V vr hne h hb => by
    rw [HN.out hne]
    exact ⟨_, rfl, Ints.of_own (ins_row hk h) (Nat.le_refl _), hb⟩
  have HF := Lib.hid hfin
  have PO : Hid (∀ w1 : World, w.heap.size ≤ w1.heap.size → (w1.alloc (.cells #[] 3)).ownsRow w.heap.size 3 1 (.slice (some ⟨w1.heap.size, 0, none⟩) 0 0) 0 []) := Lib.hid fun w1 h => World.ownsRow_made w1 #[] 0 h (by unfold maxLen; omega) (by simp)
  clear hfin
  by_cases hlt : k < zs.length
  · obtain ⟨b, o, rfl, hb, hc⟩ := HX.out (List.ne_nil_of_length_pos (by omega))
    have hcw := hc k hlt
    have hi' : (k : Int) < zs.length := by omega
    clear hc
    have HM2 := Lib.hid (HM.out hlt)
    by_cases hxy : zs[k]?.getD 0 = x
    · have HE := Lib.hid (HM2.out hxy)
      have hq : (zs[k]?.getD 0 == x) = true := by rw [hxy]; simp
      generalize zs[k]?.getD 0 = y at *
      clear HM HM2 hxy HF HN
      go_enter Try.func45, Try.ntmps45
      go_wp2_with (go_at_call 24; with_reducible refine CS.out.mono ?_; rintro e w1 ⟨rfl, hb1⟩; have HB := Lib.hid hb1; have hcell := (hb1.cell (p := ⟨b, o + k, none⟩) hb).trans hcw; clear hb1)
      go_ret
      rw [HE.out]
      exact ⟨_, rfl, (H0.out.below HB.out).mono HB.out.size, HB.out⟩
    · have HE := Lib.hid (fun V vr => HF.out V vr (fun _ => hxy))
      have hq : (zs[k]?.getD 0 == x) = false := by rw [beq_eq_false_iff_ne]; exact hxy
      generalize zs[k]?.getD 0 = y at *
      clear HM HM2 hxy HF HN
      have RC : Hid (∀ wa wb, Below w.heap.size w wa → Below wa.heap.size wa wb → Reads wb wa.heap.size 1 (some ⟨b, o + k, none⟩) (zs.length - k) ((ic zs).drop (k * 1))) := fun wa wb ha hb => by
        have h := (((HR.out.reads.below ha).more ha.size).below hb).cut (cap := cap) hk hcap
        rw [if_neg (by omega), Option.map_some, add_lit, Nat.mul_one] at h
        simpa using h
      have R0 := Lib.hid HR.out.reads
      have tk := Lib.hid (ic_one zs)
      clear HX HR H0
      go_enter Try.func45, Try.ntmps45
      go_wp2_with (first
        | (go_at_call 24; with_reducible refine CS.out.mono ?_; rintro e w1 ⟨rfl, hb1⟩; have HB := Lib.hid hb1; have hcell := (hb1.cell (p := ⟨b, o + k, none⟩) hb).trans hcw; have O1 := Lib.hid (PO.out w1 hb1.size); have R1 := Lib.hid (((R0.out.below hb1).more hb1.size).alloc (Nat.le_refl _) (.cells #[] 3)); have HSZ := Lib.hid hb1.size; clear hb1)
        | (at_builtin; refine wpList_append_any _ rfl (.tmp 23) (.tmp 26) 22 rfl w.heap.size 3 i0 _ 1 8 Try.underlying22 hi hz0 hz1 hz2 rfl (by decide) (.slice (some ⟨w1.heap.size, 0, none⟩) 0 0) 0 [] rfl O1.out w1.heap.size (some ⟨b, o, none⟩) k _ _ rfl (R1.out.take hk) (one_of tk.out _) (by simp only [maxLen]; omega) (by omega) (by have := HSZ.out; simp; omega) ?_; intro va wa hoa hga hata; have HOA := Lib.hid hoa; have BA := Lib.hid (app_below ((Below.refl _ w1).alloc (Nat.le_refl _) _) hga (by simp) (fun g e => by cases e; exact Nat.le_refl _)); have HTA := Lib.hid (row_ge (v := .slice (some ⟨w1.heap.size, 0, none⟩) 0 0) (B := w1.heap.size) hata (fun g e => by cases e; exact Nat.le_refl _) (by simp)); clear hoa hga hata)
        | (at_builtin; refine wpList_append_any _ rfl (.tmp 27) (.tmp 29) 22 rfl w.heap.size 3 i0 _ 1 8 Try.underlying22 hi hz0 hz1 hz2 rfl (by decide) va _ _ rfl (HOA.out.alloc _) (wa.heap.size + 1) (some ⟨wa.heap.size, 0, none⟩) 1 1 [.int .i64 x] rfl ⟨rfl, fun _ => ⟨_, rfl, by simp, cell_one_new _ _ _⟩⟩ (by simp [Value.oneCell']) (by simp only [maxLen]; omega) (by omega) (by have := HSZ.out; have := BA.out.size; simp; omega) ?_; intro vb wb hob hgb hatb; have HOB := Lib.hid hob; have BB := Lib.hid (app_below (BA.out.alloc BA.out.size _) hgb (by have := BA.out.size; simp; omega) HTA.out); have HTB := Lib.hid (row_ge (B := w1.heap.size) hatb HTA.out (by have := BA.out.size; simp; omega)); clear hob hgb hatb)
        | (at_builtin; refine wpList_append_any _ rfl (.tmp 31) (.tmp 34) 22 rfl w.heap.size 3 i0 _ 1 8 Try.underlying22 hi hz0 hz1 hz2 rfl (by decide) vb _ _ rfl HOB.out w1.heap.size (some ⟨b, o + k, none⟩) (zs.length - k) _ _ rfl (RC.out w1 wb HB.out BB.out) (one_ofd tk.out _) (by simp only [maxLen]; omega) (by omega) (by have := HSZ.out; have := BB.out.size; omega) ?_; intro vc wc hoc hgc hatc; have HOC := Lib.hid hoc; have BC := Lib.hid (app_below BB.out hgc BB.out.size HTB.out); clear hoc hgc hatc))
      go_ret
      exact HE.out _ _ HOC.out (HB.out.trans (BC.out.mono HSZ.out))
  · have HKm : Hid (k = zs.length) := by
      have : k = zs.length := by omega
      exact this
    have HE := Lib.hid (fun V vr => HF.out V vr (fun h => absurd h hlt))
    clear HM HF HN
    have R0 := Lib.hid HR.out.reads
    have tk := Lib.hid (ic_one zs)
    have hnlt : ¬ (k : Int) < zs.length := by omega
    cases a with
    | none =>
      have hc0 := HR.out.nil rfl
      subst hc0
      have RC : Hid (∀ wa wb, Below w.heap.size w wa → Below wa.heap.size wa wb → Reads wb wa.heap.size 1 none (zs.length - k) ((ic zs).drop (k * 1))) := fun wa wb ha hb => by
        have h := (((HR.out.reads.below ha).more ha.size).below hb).cut (cap := 0) hk hcap
        simpa using h
      have hk0 : k ≤ 0 := by omega
      clear HX HR H0
      go_enter Try.func45, Try.ntmps45
      go_wp2_with (first
        | (go_at_call 24; with_reducible refine CS.out.mono ?_; rintro e w1 ⟨rfl, hb1⟩; have HB := Lib.hid hb1; have O1 := Lib.hid (PO.out w1 hb1.size); have R1 := Lib.hid (((R0.out.below hb1).more hb1.size).alloc (Nat.le_refl _) (.cells #[] 3)); have HSZ := Lib.hid hb1.size; clear hb1)
        | (at_builtin; refine wpList_append_any _ rfl (.tmp 23) (.tmp 26) 22 rfl w.heap.size 3 i0 _ 1 8 Try.underlying22 hi hz0 hz1 hz2 rfl (by decide) (.slice (some ⟨w1.heap.size, 0, none⟩) 0 0) 0 [] rfl O1.out w1.heap.size none 0 _ _ rfl (R1.out.take (Nat.zero_le _)) (one_of tk.out _) (by simp only [maxLen]; omega) (by omega) (by have := HSZ.out; simp; omega) ?_; intro va wa hoa hga hata; have HOA := Lib.hid hoa; have BA := Lib.hid (app_below ((Below.refl _ w1).alloc (Nat.le_refl _) _) hga (by simp) (fun g e => by cases e; exact Nat.le_refl _)); have HTA := Lib.hid (row_ge (v := .slice (some ⟨w1.heap.size, 0, none⟩) 0 0) (B := w1.heap.size) hata (fun g e => by cases e; exact Nat.le_refl _) (by simp)); clear hoa hga hata)
        | (at_builtin; refine wpList_append_any _ rfl (.tmp 27) (.tmp 29) 22 rfl w.heap.size 3 i0 _ 1 8 Try.underlying22 hi hz0 hz1 hz2 rfl (by decide) va _ _ rfl (HOA.out.alloc _) (wa.heap.size + 1) (some ⟨wa.heap.size, 0, none⟩) 1 1 [.int .i64 x] rfl ⟨rfl, fun _ => ⟨_, rfl, by simp, cell_one_new _ _ _⟩⟩ (by simp [Value.oneCell']) (by simp only [maxLen]; omega) (by omega) (by have := HSZ.out; have := BA.out.size; simp; omega) ?_; intro vb wb hob hgb hatb; have HOB := Lib.hid hob; have BB := Lib.hid (app_below (BA.out.alloc BA.out.size _) hgb (by have := BA.out.size; simp; omega) HTA.out); have HTB := Lib.hid (row_ge (B := w1.heap.size) hatb HTA.out (by have := BA.out.size; simp; omega)); clear hob hgb hatb)
        | (at_builtin; refine wpList_append_any _ rfl (.tmp 31) (.tmp 34) 22 rfl w.heap.size 3 i0 _ 1 8 Try.underlying22 hi hz0 hz1 hz2 rfl (by decide) vb _ _ rfl HOB.out w1.heap.size none (zs.length - k) _ _ rfl (RC.out w1 wb HB.out BB.out) (one_ofd tk.out _) (by simp only [maxLen]; omega) (by omega) (by have := HSZ.out; have := BB.out.size; omega) ?_; intro vc wc hoc hgc hatc; have HOC := Lib.hid hoc; have BC := Lib.hid (app_below BB.out hgc BB.out.size HTB.out); clear hoc hgc hatc))
      go_ret
      obtain rfl : k = 0 := by omega
      exact HE.out _ _ HOC.out (HB.out.trans (BC.out.mono HSZ.out))
    | some ad =>
      by_cases hck : cap = k
      · have RC : Hid (∀ wa wb, Below w.heap.size w wa → Below wa.heap.size wa wb → Reads wb wa.heap.size 1 (some ad) 0 ((ic zs).drop (k * 1))) := fun wa wb ha hb => by
          have h := (((HR.out.reads.below ha).more ha.size).below hb).cut (cap := cap) hk hcap
          rw [if_pos hck, show zs.length - k = 0 by omega] at h
          exact h
        clear HX HR H0
        obtain ⟨b, o, sp⟩ := ad
        have hck' : k = cap := hck.symm
        subst hck'
        clear hck
        go_enter Try.func45, Try.ntmps45
        go_wp2_with (first
          | (go_at_call 24; with_reducible refine CS.out.mono ?_; rintro e w1 ⟨rfl, hb1⟩; have HB := Lib.hid hb1; have O1 := Lib.hid (PO.out w1 hb1.size); have R1 := Lib.hid (((R0.out.below hb1).more hb1.size).alloc (Nat.le_refl _) (.cells #[] 3)); have HSZ := Lib.hid hb1.size; clear hb1)
          | (at_builtin; refine wpList_append_any _ rfl (.tmp 23) (.tmp 26) 22 rfl w.heap.size 3 i0 _ 1 8 Try.underlying22 hi hz0 hz1 hz2 rfl (by decide) (.slice (some ⟨w1.heap.size, 0, none⟩) 0 0) 0 [] rfl O1.out w1.heap.size (some ⟨b, o, sp⟩) k _ _ rfl (R1.out.take hk) (one_of tk.out _) (by simp only [maxLen]; omega) (by omega) (by have := HSZ.out; simp; omega) ?_; intro va wa hoa hga hata; have HOA := Lib.hid hoa; have BA := Lib.hid (app_below ((Below.refl _ w1).alloc (Nat.le_refl _) _) hga (by simp) (fun g e => by cases e; exact Nat.le_refl _)); have HTA := Lib.hid (row_ge (v := .slice (some ⟨w1.heap.size, 0, none⟩) 0 0) (B := w1.heap.size) hata (fun g e => by cases e; exact Nat.le_refl _) (by simp)); clear hoa hga hata)
          | (at_builtin; refine wpList_append_any _ rfl (.tmp 27) (.tmp 29) 22 rfl w.heap.size 3 i0 _ 1 8 Try.underlying22 hi hz0 hz1 hz2 rfl (by decide) va _ _ rfl (HOA.out.alloc _) (wa.heap.size + 1) (some ⟨wa.heap.size, 0, none⟩) 1 1 [.int .i64 x] rfl ⟨rfl, fun _ => ⟨_, rfl, by simp, cell_one_new _ _ _⟩⟩ (by simp [Value.oneCell']) (by simp only [maxLen]; omega) (by omega) (by have := HSZ.out; have := BA.out.size; simp; omega) ?_; intro vb wb hob hgb hatb; have HOB := Lib.hid hob; have BB := Lib.hid (app_below (BA.out.alloc BA.out.size _) hgb (by have := BA.out.size; simp; omega) HTA.out); have HTB := Lib.hid (row_ge (B := w1.heap.size) hatb HTA.out (by have := BA.out.size; simp; omega)); clear hob hgb hatb)
          | (at_builtin; refine wpList_append_any _ rfl (.tmp 31) (.tmp 34) 22 rfl w.heap.size 3 i0 _ 1 8 Try.underlying22 hi hz0 hz1 hz2 rfl (by decide) vb _ _ rfl HOB.out w1.heap.size (some ⟨b, o, sp⟩) 0 _ _ rfl (RC.out w1 wb HB.out BB.out) (one_ofd tk.out _) (by simp only [maxLen]; omega) (by omega) (by have := HSZ.out; have := BB.out.size; omega) ?_; intro vc wc hoc hgc hatc; have HOC := Lib.hid hoc; have BC := Lib.hid (app_below BB.out hgc BB.out.size HTB.out); clear hoc hgc hatc))
        go_ret
        exact HE.out _ _ (by rw [show zs.length - k = 0 by omega]; exact HOC.out) (HB.out.trans (BC.out.mono HSZ.out))
      · obtain ⟨b, o, sp⟩ := ad
        have hsp := HR.out.plain (by omega) _ rfl
        dsimp only at hsp
        subst hsp
        have RC : Hid (∀ wa wb, Below w.heap.size w wa → Below wa.heap.size wa wb → Reads wb wa.heap.size 1 (some ⟨b, o + k, none⟩) (zs.length - k) ((ic zs).drop (k * 1))) := fun wa wb ha hb => by
          have h := (((HR.out.reads.below ha).more ha.size).below hb).cut (cap := cap) hk hcap
          rw [if_neg hck, Option.map_some, add_lit, Nat.mul_one] at h
          simpa using h
        clear HX HR H0
        go_enter Try.func45, Try.ntmps45
        go_wp2_with (first
          | (go_at_call 24; with_reducible refine CS.out.mono ?_; rintro e w1 ⟨rfl, hb1⟩; have HB := Lib.hid hb1; have O1 := Lib.hid (PO.out w1 hb1.size); have R1 := Lib.hid (((R0.out.below hb1).more hb1.size).alloc (Nat.le_refl _) (.cells #[] 3)); have HSZ := Lib.hid hb1.size; clear hb1)
          | (at_builtin; refine wpList_append_any _ rfl (.tmp 23) (.tmp 26) 22 rfl w.heap.size 3 i0 _ 1 8 Try.underlying22 hi hz0 hz1 hz2 rfl (by decide) (.slice (some ⟨w1.heap.size, 0, none⟩) 0 0) 0 [] rfl O1.out w1.heap.size (some ⟨b, o, none⟩) k _ _ rfl (R1.out.take hk) (one_of tk.out _) (by simp only [maxLen]; omega) (by omega) (by have := HSZ.out; simp; omega) ?_; intro va wa hoa hga hata; have HOA := Lib.hid hoa; have BA := Lib.hid (app_below ((Below.refl _ w1).alloc (Nat.le_refl _) _) hga (by simp) (fun g e => by cases e; exact Nat.le_refl _)); have HTA := Lib.hid (row_ge (v := .slice (some ⟨w1.heap.size, 0, none⟩) 0 0) (B := w1.heap.size) hata (fun g e => by cases e; exact Nat.le_refl _) (by simp)); clear hoa hga hata)
          | (at_builtin; refine wpList_append_any _ rfl (.tmp 27) (.tmp 29) 22 rfl w.heap.size 3 i0 _ 1 8 Try.underlying22 hi hz0 hz1 hz2 rfl (by decide) va _ _ rfl (HOA.out.alloc _) (wa.heap.size + 1) (some ⟨wa.heap.size, 0, none⟩) 1 1 [.int .i64 x] rfl ⟨rfl, fun _ => ⟨_, rfl, by simp, cell_one_new _ _ _⟩⟩ (by simp [Value.oneCell']) (by simp only [maxLen]; omega) (by omega) (by have := HSZ.out; have := BA.out.size; simp; omega) ?_; intro vb wb hob hgb hatb; have HOB := Lib.hid hob; have BB := Lib.hid (app_below (BA.out.alloc BA.out.size _) hgb (by have := BA.out.size; simp; omega) HTA.out); have HTB := Lib.hid (row_ge (B := w1.heap.size) hatb HTA.out (by have := BA.out.size; simp; omega)); clear hob hgb hatb)
          | (at_builtin; refine wpList_append_any _ rfl (.tmp 31) (.tmp 34) 22 rfl w.heap.size 3 i0 _ 1 8 Try.underlying22 hi hz0 hz1 hz2 rfl (by decide) vb _ _ rfl HOB.out w1.heap.size (some ⟨b, o + k, none⟩) (zs.length - k) _ _ rfl (RC.out w1 wb HB.out BB.out) (one_ofd tk.out _) (by simp only [maxLen]; omega) (by omega) (by have := HSZ.out; have := BB.out.size; omega) ?_; intro vc wc hoc hgc hatc; have HOC := Lib.hid hoc; have BC := Lib.hid (app_below BB.out hgc BB.out.size HTB.out); clear hoc hgc hatc))
        go_ret
        exact HE.out _ _ HOC.out (HB.out.trans (BC.out.mono HSZ.out))
end Go.Proofs.Ytejnmjaclhmelaa.Po
