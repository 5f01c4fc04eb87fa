/- Layer 5: Format and Hash. -/
import Derived.Lib.SlBytesConst
import Derived.Test.YtbphhdmnfepbnaaLL
import Derived.Test.YtbphhdmnfepbnaaLF
set_option linter.unusedVariables false
set_option linter.unusedSimpArgs false
namespace Go.Proofs.Ytbphhdmnfepbnaa.Lab
open Go.RowKit Go.Sort
/-- A label as it is written; a list of labels. -/
def lab1 (x : Lb) : List UInt8 := x.n.data.toList ++ [61, 34] ++ quo x.v.data.toList ++ [34]
def tailL (l : List Lb) : List UInt8 := l.flatMap fun x => 44 :: lab1 x
def bodyL : List Lb → List UInt8
  | [] => []
  | x :: r => lab1 x ++ tailL r
def fmtL (l : List Lb) : List UInt8 := [123] ++ bodyL l ++ [125]
theorem tailL_append (a b : List Lb) : tailL (a ++ b) = tailL a ++ tailL b := by unfold tailL; rw [List.flatMap_append]
theorem tailL_one (x : Lb) : tailL [x] = 44 :: lab1 x := by simp [tailL]
theorem bodyL_snoc {l : List Lb} (x : Lb) (h : l ≠ []) : bodyL (l ++ [x]) = bodyL l ++ [44] ++ lab1 x := by
  cases l with
  | nil => exact absurd rfl h
  | cons y r =>
    rw [List.cons_append, bodyL, bodyL, tailL_append, tailL_one]
    simp
theorem bodyL_one (x : Lb) : bodyL ([] ++ [x]) = lab1 x := by simp [bodyL, tailL]
theorem bodyL_zero {l : List Lb} {k : Nat} (hk : k < l.length) (h : k = 0) : bodyL (l.take (k + 1)) = bodyL (l.take k) ++ lab1 l[k] := by
  rw [take_snocL l hk]
  subst h
  rw [List.take_zero, bodyL_one]
  rfl
theorem bodyL_pos {l : List Lb} {k : Nat} (hk : k < l.length) (h : 0 < k) : bodyL (l.take (k + 1)) = bodyL (l.take k) ++ [44] ++ lab1 l[k] := by
  rw [take_snocL l hk, bodyL_snoc]
  intro e
  have := congrArg List.length e
  rw [List.length_take, List.length_nil] at this
  omega
theorem bodyL_take_le (l : List Lb) (k : Nat) : (bodyL (l.take k)).length ≤ (bodyL l).length := by
  cases l with
  | nil => simp
  | cons y r =>
    cases k with
    | zero => simp [bodyL]
    | succ k =>
      have e : tailL r = tailL (r.take k) ++ tailL (r.drop k) := by rw [← tailL_append, List.take_append_drop]
      rw [List.take_succ_cons, bodyL, bodyL, e]
      simp only [List.length_append]
      omega
theorem fmtL_len (l : List Lb) : (fmtL l).length = (bodyL l).length + 2 := by unfold fmtL; simp only [List.length_append, List.length_singleton]; omega
theorem lab1_len (x : Lb) : (lab1 x).length = x.n.size + (quo x.v.data.toList).length + 3 := by
  unfold lab1
  simp only [List.length_append, List.length_singleton, List.length_cons, List.length_nil, Array.length_toList]
  have : x.n.data.size = x.n.size := rfl
  omega
theorem tailL_bd : ∀ (l : List Lb) (N : Nat), (∀ x ∈ l, (lab1 x).length ≤ N) → (tailL l).length ≤ l.length * (N + 1)
  | [], N, _ => by simp [tailL]
  | x :: r, N, h => by
    have h1 := tailL_bd r N (fun y hy => h y (by simp [hy]))
    have h2 := h x (by simp)
    rw [show x :: r = [x] ++ r from rfl, tailL_append, tailL_one, List.length_append, List.length_cons, List.length_append, List.length_singleton, Nat.add_mul]
    omega
theorem fmtL_bd {l : List Lb} (hl : l.length ≤ 17) (h : ∀ x ∈ l, x.n.size ≤ 300 ∧ x.v.size ≤ 300) : (fmtL l).length ≤ 20000 := by
  have h1 : ∀ x ∈ l, (lab1 x).length ≤ 903 := fun x hx => by
    have := h x hx
    have h2 := quo_len x.v.data.toList
    have h3 : x.v.data.toList.length = x.v.size := Array.length_toList
    rw [lab1_len]
    omega
  rw [fmtL_len]
  cases l with
  | nil => simp [bodyL]
  | cons y r =>
    have h2 := tailL_bd r 903 (fun x hx => h1 x (by simp [hx]))
    have h3 := h1 y (by simp)
    have h4 : r.length * 904 ≤ 17 * 904 := Nat.mul_le_mul_right _ (by simp at hl; omega)
    rw [bodyL, List.length_append]
    omega
set_option maxHeartbeats 4000000 in
theorem escaped_any (s : ByteArray) (hs : s.size ≤ 100000) (B : Nat) (v : Value) (l : List UInt8) (hl : l.length ≤ 100000000) (w : World) (hv : OwnB w B v l) (hB : B ≤ w.heap.size) :
    Calls Try.prog 48 #[v, .string s] w (BytesPost (l ++ quo s.data.toList) B w) := by
  obtain ⟨i0, hi, hz0, hz1, hz2⟩ := info_parts info5
  have O0 : Hid (OwnB w B v (l ++ quo (s.data.toList.take 0))) := by
    rw [List.take_zero, quo_nil, List.append_nil]
    exact hv
  have B0 : Hid (Below B w w) := Below.refl _ _
  clear hv
  go_enter Try.func48, Try.ntmps48
  go_wp2
  go_loopw [0, 9] (fun vo vi wr => ∃ k : Nat, k ≤ s.size ∧ vi = .int .i64 k ∧ Hid (OwnB wr B vo (l ++ quo (s.data.toList.take k))) ∧ Hid (Below B w wr) ∧ Hid (B ≤ wr.heap.size)) (fun _ vi _ => s.size - (intOf vi).toNat)
  case atStart => exact ⟨0, by omega, rfl, O0, B0, hB⟩
  case round =>
    clear O0 B0 hB
    obtain ⟨k, hk, rfl, HO, HB, HSZ⟩ := hrel
    by_cases hlt : k < s.size
    · have HE := Lib.hid (quo_snoc s hlt)
      have hc256 := s[k].toNat_lt
      obtain ⟨m, hm⟩ : ∃ m, l ++ quo (s.data.toList.take k) = m := ⟨_, rfl⟩
      have hml : m.length ≤ 100200000 := by
        have h1 := quo_len (s.data.toList.take k)
        have h2 : (s.data.toList.take k).length ≤ k := List.length_take_le _ _
        rw [← hm, List.length_append]; omega
      have HE2 : Hid (∀ q, quo1 s[k] = q → l ++ quo (s.data.toList.take (k + 1)) = m ++ q) := fun q h => by rw [HE.out, h, ← hm, List.append_assoc]
      rw [hm] at HO
      clear hm HE
      by_cases hc : s[k].toNat = 10
      · have HQ := Lib.hid (HE2.out _ (quo1_nl hc))
        have t1 : ((s[k].toNat : Int) == 10) = true := by simp [hc]
        clear hc HE2
        go_wp2_with (at_builtin; refine Lib.wpList_append_own_string _ rfl (.tmp 22) (.const (.string ⟨#[92, 110]⟩)) 47 9 rfl B 5 i0 Try.underlying47 Try.underlying9 hi hz0 hz1 hz2 _ _ _ rfl HO.out ⟨#[92, 110]⟩ rfl (by simp only [maxLen, ByteArray.size]; simp; omega) (by simp only [ByteArray.size]; simp; omega) HSZ.out ?_; intro v1 w1 hown' hgrow _; have HO1 := Lib.hid (OwnB.snoc (m := [92, 110]) hown' rfl rfl); have B1 := Lib.hid (row_below HB.out HO.out (Below.refl _ _) hgrow HSZ.out); have HSZ1 := Lib.hid (Nat.le_trans HSZ.out hgrow.size); clear hown' hgrow)
        go_roundw
        case rel => exact ⟨k + 1, by omega, by go_num, by rw [HQ.out]; exact HO1.out, B1, HSZ1⟩
        case measure => simp [intOf]; omega
      · have t1 : ((s[k].toNat : Int) == 10) = false := by simp; omega
        by_cases hesc : s[k].toNat = 92 ∨ s[k].toNat = 34
        · have HQ := Lib.hid (HE2.out _ (quo1_esc hc hesc))
          clear hc HE2
          have hes : (((s[k].toNat : Int) == 92) = true) ∨ (((s[k].toNat : Int) == 92) = false ∧ ((s[k].toNat : Int) == 34) = true) := by
            rcases hesc with h | h
            · exact .inl (by simp [h])
            · exact .inr ⟨by simp [h], by simp [h]⟩
          clear hesc
          rcases hes with t2 | ⟨t2, t3⟩
          all_goals
            go_wp2_with (at_builtin; refine wpList_append_own _ rfl (.tmp 27) (.tmp 29) 47 rfl B 5 i0 _ 1 1 Try.underlying47 hi hz0 hz1 hz2 rfl (by decide) _ _ _ rfl (HO.out.below ((Below.refl _ _).alloc (Nat.le_refl _) _)) ⟨wr.heap.size, 0, none⟩ 2 2 [.int .u8 92, .int .u8 (s[k].toNat : Int)] rfl rfl (cell_two_new _ _ _ _) (by simp [Value.oneCell']) (by simp only [maxLen]; omega) (by omega) (by have := HSZ.out; simp; omega) ?_; intro v1 w1 hown' hgrow _; have HO1 := Lib.hid (OwnB.snoc (m := [92, s[k]]) hown' rfl rfl); have B1 := Lib.hid (row_below HB.out HO.out ((Below.refl _ _).alloc (Nat.le_refl _) _) hgrow HSZ.out); have HSZ1 := Lib.hid (Nat.le_trans HSZ.out (by have := hgrow.size; simp at this; omega) : B ≤ w1.heap.size); clear hown' hgrow)
            go_roundw
            case rel => exact ⟨k + 1, by omega, by go_num, by rw [HQ.out]; exact HO1.out, B1, HSZ1⟩
            case measure => simp [intOf]; omega
        · have HQ := Lib.hid (HE2.out _ (quo1_plain hc (fun h => hesc (.inl h)) (fun h => hesc (.inr h))))
          have t2 : ((s[k].toNat : Int) == 92) = false := by simp; omega
          have t3 : ((s[k].toNat : Int) == 34) = false := by simp; omega
          clear hc hesc HE2
          go_wp2_with (at_builtin; refine wpList_append_own _ rfl (.tmp 16) (.tmp 18) 47 rfl B 5 i0 _ 1 1 Try.underlying47 hi hz0 hz1 hz2 rfl (by decide) _ _ _ rfl (HO.out.below ((Below.refl _ _).alloc (Nat.le_refl _) _)) ⟨wr.heap.size, 0, none⟩ 1 1 [.int .u8 (s[k].toNat : Int)] rfl rfl (cell_one_new _ _ _) (by simp [Value.oneCell']) (by simp only [maxLen]; omega) (by omega) (by have := HSZ.out; simp; omega) ?_; intro v1 w1 hown' hgrow _; have HO1 := Lib.hid (OwnB.snoc (m := [s[k]]) hown' rfl rfl); have B1 := Lib.hid (row_below HB.out HO.out ((Below.refl _ _).alloc (Nat.le_refl _) _) hgrow HSZ.out); have HSZ1 := Lib.hid (Nat.le_trans HSZ.out (by have := hgrow.size; simp at this; omega) : B ≤ w1.heap.size); clear hown' hgrow)
          go_roundw
          case rel => exact ⟨k + 1, by omega, by go_num, by rw [HQ.out]; exact HO1.out, B1, HSZ1⟩
          case measure => simp [intOf]; omega
    · obtain rfl : k = s.size := by omega
      have h2 := HO.out
      rw [List.take_of_length_le (by rw [Array.length_toList]; exact Nat.le_refl _)] at h2
      have H2 := Lib.hid h2
      clear HO h2
      go_wp2
      go_ret
      exact ⟨_, rfl, H2.out, HB.out⟩
theorem ba_append (a b : ByteArray) : (a ++ b).data.toList = a.data.toList ++ b.data.toList := by simp
theorem ba_ext {a b : ByteArray} (h : a.data.toList = b.data.toList) : a = b := by
  apply ByteArray.ext
  exact Array.toList_inj.1 h
theorem ba_mk (l : List UInt8) : (⟨l.toArray⟩ : ByteArray).data.toList = l := by simp
set_option maxHeartbeats 4000000 in
theorem refFormat_any (l : List Lb) (hl : l.length ≤ 100000) (hs : ∀ x ∈ l, x.n.size ≤ 100000 ∧ x.v.size ≤ 100000) (hf : (fmtL l).length ≤ 1000000) (A : Option Addr) (c : Nat) (w : World) (hA : LS w w.heap.size A l) :
    Calls Try.prog 26 #[.slice A l.length c] w (StrPost (fmtL l) w) := by
  have HA := Lib.hid hA
  have HZ := Lib.hid hs
  clear hA hs
  have mixed : Try.prog.follows .mixedOrders = true := by kernel_rfl
  go_enter Try.func26, Try.ntmps26
  go_wp2
  go_loopw [3, 4] (fun vo vi wr => ∃ (k : Nat) (t : ByteArray), k ≤ l.length ∧ vi = .int .i64 k ∧ vo = .string t ∧ Hid (t.data.toList = [123] ++ bodyL (l.take k)) ∧ Hid (Below w.heap.size w wr)) (fun _ vi _ => l.length - (intOf vi).toNat)
  case atStart => exact ⟨0, _, by omega, rfl, rfl, rfl, Below.refl _ _⟩
  case round =>
    obtain ⟨k, t, hk, rfl, rfl, HT, HB⟩ := hrel
    by_cases hlt : k < l.length
    · obtain ⟨b, off, rfl, hb, h1', h2'⟩ := HA.out.at_ hlt
      have h1 := (HB.out.cell (p := ⟨b, off + k * 2, none⟩) hb).trans h1'
      have h2 := (HB.out.cell (p := ⟨b, off + k * 2 + 1, none⟩) hb).trans h2'
      clear h1' h2'
      have q1 := cell_regrown h1
      have q2 := cell_regrown h2
      obtain ⟨zn, zv⟩ := HZ.out _ (List.getElem_mem hlt)
      obtain ⟨q, hq⟩ : ∃ q : ByteArray, q = ⟨(quo l[k].v.data.toList).toArray⟩ := ⟨_, rfl⟩
      have hqd : q.data.toList = quo l[k].v.data.toList := by rw [hq, ba_mk]
      have hqs : q.size ≤ 200000 := by
        have h1 := quo_len l[k].v.data.toList
        have h2 : l[k].v.data.toList.length = l[k].v.size := Array.length_toList
        have h3 : q.data.toList.length = q.size := Array.length_toList
        rw [hqd] at h3
        omega
      have hts : t.size ≤ 1000000 := by
        have h1 := bodyL_take_le l k
        have h3 : t.data.toList.length = t.size := Array.length_toList
        rw [HT.out, List.length_append, List.length_singleton] at h3
        rw [fmtL_len] at hf
        omega
      have HQ : Hid (∀ w, Calls Try.prog 49 #[.string l[k].v] w fun e w' => e = .returned (.string q) ∧ Below w.heap.size w w') := fun w => (refQuoted_any l[k].v zv w).mono fun e w' h => ⟨by rw [hq]; exact h.1, h.2⟩
      have HQD := Lib.hid hqd
      clear hq hqd zv
      have HX : Hid (∀ t' : ByteArray, t'.data.toList = t.data.toList ++ (if 0 < k then [44] else []) → (((t' ++ l[k].n) ++ ⟨#[61, 34]⟩) ++ q ++ ⟨#[34]⟩).data.toList = [123] ++ bodyL (l.take (k + 1))) := fun t' ht => by
        simp only [ba_append, ba_mk, ht, HT.out, HQD.out]
        by_cases h0 : 0 < k
        · rw [bodyL_pos hlt h0, if_pos h0, lab1]
          simp [List.append_assoc]
        · rw [bodyL_zero hlt (by omega), if_neg h0, lab1]
          simp [List.append_assoc]
      clear h1 h2
      by_cases h0 : 0 < k
      · have hg : decide (0 < k) = true := by simp [h0]
        have b1 : ¬ 9223372036854775807 < t.size + 1 + l[k].n.size := by omega
        have b2 : ¬ 9223372036854775807 < t.size + 1 + l[k].n.size + 2 := by omega
        have b3 : ¬ 9223372036854775807 < t.size + 1 + l[k].n.size + 2 + q.size := by omega
        have b4 : ¬ 9223372036854775807 < t.size + 1 + l[k].n.size + 2 + q.size + 1 := by omega
        have HX2 := Lib.hid (HX.out (t ++ ⟨#[44]⟩) (by rw [ba_append, if_pos h0]))
        clear HX
        go_wp2
        refine wp_region_quiet_below (by assumption) (by kernel_rfl) ?_
        iterate 13 quiet_step (fail)
        quiet_step (exact Calls.regrown_of (HQ.out _))
        iterate 3 quiet_step (fail)
        refine wpQuiet_nil ?_
        intro _ hw'
        obtain ⟨⟨dq, osq⟩, hw''⟩ := hw'
        subst hw''
        have HZ := Lib.hid (HB.out.trans ((below_regrown wr dq osq).mono HB.out.size))
        generalize grow (redrawn wr dq) osq = WZ at *
        go_wp2_with fail
        go_roundw
        case rel => exact ⟨k + 1, _, by omega, by go_num, rfl, HX2.out, HZ⟩
        case measure => simp [intOf]; omega
      · have hg : decide (0 < k) = false := by simp; omega
        have b1 : ¬ 9223372036854775807 < t.size + l[k].n.size := by omega
        have b2 : ¬ 9223372036854775807 < t.size + l[k].n.size + 2 := by omega
        have b3 : ¬ 9223372036854775807 < t.size + l[k].n.size + 2 + q.size := by omega
        have b4 : ¬ 9223372036854775807 < t.size + l[k].n.size + 2 + q.size + 1 := by omega
        have HX2 := Lib.hid (HX.out t (by rw [if_neg h0, List.append_nil]))
        clear HX
        go_wp2
        refine wp_region_quiet_below (by assumption) (by kernel_rfl) ?_
        iterate 13 quiet_step (fail)
        quiet_step (exact Calls.regrown_of (HQ.out _))
        iterate 3 quiet_step (fail)
        refine wpQuiet_nil ?_
        intro _ hw'
        obtain ⟨⟨dq, osq⟩, hw''⟩ := hw'
        subst hw''
        have HZ := Lib.hid (HB.out.trans ((below_regrown wr dq osq).mono HB.out.size))
        generalize grow (redrawn wr dq) osq = WZ at *
        go_wp2_with fail
        go_roundw
        case rel => exact ⟨k + 1, _, by omega, by go_num, rfl, HX2.out, HZ⟩
        case measure => simp [intOf]; omega
    · have hT := HT.out
      rw [List.take_of_length_le (by omega)] at hT
      have hts : t.size ≤ 1000000 := by
        have h3 : t.data.toList.length = t.size := Array.length_toList
        rw [hT, List.length_append, List.length_singleton] at h3
        rw [fmtL_len] at hf
        omega
      have HE : Hid (t ++ ⟨#[125]⟩ = ⟨(fmtL l).toArray⟩) := by
        apply ba_ext
        rw [ba_append, hT, ba_mk]
        rfl
      clear hT HT
      go_wp2
      go_ret
      exact ⟨by rw [← HE.out]; rfl, HB.out⟩
end Go.Proofs.Ytbphhdmnfepbnaa.Lab
