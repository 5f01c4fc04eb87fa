/- Layer 10: what the program's reader makes of any string; of an encoding it makes the column. -/
import Derived.Test.YtpinmmmbmhfmiaaDtB
set_option linter.unusedVariables false
set_option linter.unusedSimpArgs false
namespace Go.Proofs.Ytpinmmmbmhfmiaa.Dt
open Go.RowKit
/-- A number of at most most, or 0, and then nothing is read. -/
def upT (most : Int) (s : List UInt8) : Nat × List UInt8 := (rdN most s).getD (0, s)
theorem upT_uv {most : Int} {n : Nat} (h : (n : Int) ≤ most) (h2 : n ≤ 1152921504606846976) (r : List UInt8) : upT most (uv n ++ r) = (n, r) := by unfold upT; rw [rdN_uv h h2]; rfl
theorem upT_none {most : Int} {s : List UInt8} (h : rdN most s = none) : upT most s = (0, s) := by unfold upT; rw [h]; rfl
theorem upT_some {most : Int} {s : List UInt8} {p : Nat × List UInt8} (h : rdN most s = some p) : upT most s = p := by unfold upT; rw [h]; rfl
theorem rdN_some {most : Int} {s : List UInt8} {p : Nat × List UInt8} (h : rdN most s = some p) : (p.1 : Int) ≤ most ∧ p.2.length ≤ s.length := by
  unfold rdN at h
  split at h
  · cases h
  · split at h
    · cases h
    · cases h
      exact ⟨by dsimp only; omega, by dsimp only; rw [List.length_drop]; omega⟩
theorem upT_le {most : Int} (h : 0 ≤ most) (s : List UInt8) : ((upT most s).1 : Int) ≤ most := by
  cases e : rdN most s with
  | none => rw [upT_none e]; exact h
  | some p => rw [upT_some e]; exact (rdN_some e).1
theorem upT_len (most : Int) (s : List UInt8) : (upT most s).2.length ≤ s.length := by
  cases e : rdN most s with
  | none => rw [upT_none e]; exact Nat.le_refl _
  | some p => rw [upT_some e]; exact (rdN_some e).2
/-- The string behind another one. -/
def wrdN (a s : List UInt8) : Nat × List UInt8 := upT (1000 - ((upT a.length s).1 : Int)) (upT a.length s).2
def wrdB (a s : List UInt8) : List UInt8 := a.take (upT a.length s).1 ++ (wrdN a s).2.take (wrdN a s).1
def wrdL (a s : List UInt8) : BA × List UInt8 := (⟨(wrdB a s).toArray⟩, (wrdN a s).2.drop (wrdN a s).1)
theorem wrd_shared (a s : List UInt8) : (upT a.length s).1 ≤ a.length := by have := upT_le (most := (a.length : Int)) (by omega) s; omega
theorem wrdL_size {a : List UInt8} (ha : a.length ≤ 1000) (s : List UInt8) : (wrdL a s).1.size ≤ 1000 := by
  have h1 := wrd_shared a s
  have h2 := upT_le (most := 1000 - ((upT a.length s).1 : Int)) (by omega) (upT a.length s).2
  show (wrdB a s).toArray.size ≤ 1000
  unfold wrdB wrdN
  rw [List.size_toArray, List.length_append, List.length_take, List.length_take]
  omega
theorem wrdL_len (a s : List UInt8) : (wrdL a s).2.length ≤ s.length := by
  have h1 := upT_len (a.length : Int) s
  have h2 := upT_len (1000 - ((upT a.length s).1 : Int)) (upT a.length s).2
  unfold wrdL wrdN
  rw [List.length_drop]
  omega
theorem wrdL_ent {x : BA} (hx : x.size ≤ 1000) {a : List UInt8} (ha : a.length ≤ 1000) (r : List UInt8) : wrdL a (entB a x ++ r) = (x, r) := by
  have hc := comN_le a x.data.toList
  have hxl : x.data.toList.length = x.size := Array.length_toList
  have e : entB a x ++ r = uv (comN a x.data.toList) ++ (uv (x.size - comN a x.data.toList) ++ (x.data.toList.drop (comN a x.data.toList) ++ r)) := by
    unfold entB
    simp only [List.append_assoc]
  have h1 := upT_uv (most := (a.length : Int)) (n := comN a x.data.toList) (by omega) (by omega) (uv (x.size - comN a x.data.toList) ++ (x.data.toList.drop (comN a x.data.toList) ++ r))
  have h2 := upT_uv (most := 1000 - (comN a x.data.toList : Int)) (n := x.size - comN a x.data.toList) (by omega) (by omega) (x.data.toList.drop (comN a x.data.toList) ++ r)
  have hdl : (x.data.toList.drop (comN a x.data.toList)).length = x.size - comN a x.data.toList := by rw [List.length_drop, hxl]
  have e1 : a.take (comN a x.data.toList) ++ (x.data.toList.drop (comN a x.data.toList) ++ r).take (x.size - comN a x.data.toList) = x.data.toList := by
    rw [List.take_left' hdl, comN_take, List.take_append_drop]
  have e2 : (x.data.toList.drop (comN a x.data.toList) ++ r).drop (x.size - comN a x.data.toList) = r := List.drop_left' hdl
  unfold wrdL wrdB wrdN
  rw [e, h1]
  dsimp only
  rw [h2]
  dsimp only
  rw [e1, e2, mk_data]
/-- The last string's bytes. -/
def lastL (d : List BA) : List UInt8 := (d.getLast?.map fun x => x.data.toList).getD []
theorem lastL_snoc (d : List BA) (x : BA) : lastL (d ++ [x]) = x.data.toList := by unfold lastL; simp
theorem lastL_nil : lastL [] = [] := rfl
theorem lastL_len {d : List BA} (h : ∀ x ∈ d, x.size ≤ 1000) : (lastL d).length ≤ 1000 := by
  unfold lastL
  cases e : d.getLast? with
  | none => simp
  | some x =>
    have := h x (List.mem_of_getLast? e)
    have h2 : x.data.toList.length = x.size := Array.length_toList
    simpa using by omega
/-- So many strings of a dictionary. -/
def dicS (s : List UInt8) : Nat → List BA × List UInt8
  | 0 => ([], s)
  | k + 1 => ((dicS s k).1 ++ [(wrdL (lastL (dicS s k).1) (dicS s k).2).1], (wrdL (lastL (dicS s k).1) (dicS s k).2).2)
theorem dicS_len (s : List UInt8) : ∀ k, (dicS s k).1.length = k ∧ (∀ x ∈ (dicS s k).1, x.size ≤ 1000) ∧ (dicS s k).2.length ≤ s.length
  | 0 => ⟨rfl, (fun x h => by cases h), Nat.le_refl _⟩
  | k + 1 => by
    obtain ⟨h1, h2, h3⟩ := dicS_len s k
    refine ⟨by rw [dicS, List.length_append, h1]; rfl, fun x hx => ?_, ?_⟩
    · rw [dicS, List.mem_append] at hx
      rcases hx with hx | hx
      · exact h2 x hx
      · rw [List.mem_singleton] at hx
        rw [hx]
        exact wrdL_size (lastL_len h2) _
    · have := wrdL_len (lastL (dicS s k).1) (dicS s k).2
      rw [dicS]
      dsimp only
      omega
theorem dicS_dic {d : List BA} (h : ∀ x ∈ d, x.size ≤ 1000) (r : List UInt8) : ∀ k, k ≤ d.length → dicS (dicB [] d ++ r) k = (d.take k, dicB (lastL (d.take k)) (d.drop k) ++ r)
  | 0, _ => rfl
  | k + 1, hk => by
    have hlt : k < d.length := hk
    have e : d.drop k = d[k] :: d.drop (k + 1) := List.drop_eq_getElem_cons hlt
    have et : d.take (k + 1) = d.take k ++ [d[k]] := by rw [List.take_add_one, List.getElem?_eq_getElem hlt]; rfl
    have hx := h d[k] (List.getElem_mem hlt)
    have hw := wrdL_ent hx (lastL_len (d := d.take k) fun x hx => h x (List.mem_of_mem_take hx)) (dicB d[k].data.toList (d.drop (k + 1)) ++ r)
    rw [dicS, dicS_dic h r k (by omega), e]
    dsimp only
    rw [show dicB (lastL (d.take k)) (d[k] :: d.drop (k + 1)) ++ r = entB (lastL (d.take k)) d[k] ++ (dicB d[k].data.toList (d.drop (k + 1)) ++ r) from by rw [dicB, List.append_assoc], hw, et, lastL_snoc]
def dicL (n : Nat) (s : List UInt8) : List BA × List UInt8 := dicS (upT n s).2 (upT n s).1
theorem dicL_ok (n : Nat) (s : List UInt8) : (dicL n s).1.length ≤ n ∧ (∀ x ∈ (dicL n s).1, x.size ≤ 1000) ∧ (dicL n s).2.length ≤ s.length := by
  obtain ⟨h1, h2, h3⟩ := dicS_len (upT n s).2 (upT n s).1
  have h4 := upT_le (most := (n : Int)) (by omega) s
  have h5 := upT_len (n : Int) s
  exact ⟨by unfold dicL; omega, h2, by unfold dicL; omega⟩
theorem dicL_dic {n : Nat} (hn : n ≤ 2000) {d : List BA} (hd : d.length ≤ n) (h : ∀ x ∈ d, x.size ≤ 1000) (r : List UInt8) : dicL n (uv d.length ++ (dicB [] d ++ r)) = (d, r) := by
  unfold dicL
  rw [upT_uv (by omega) (by omega)]
  dsimp only
  rw [dicS_dic h r d.length (Nat.le_refl _), List.take_length, List.drop_length]
  rfl
/-- The runs: f rounds at most. -/
def runF (d : List BA) (n : Nat) : Nat → List BA → List UInt8 → List BA × List UInt8
  | 0, l, s => (l, s)
  | f + 1, l, s => if l.length < n then
      runF d n f (l ++ List.replicate ((upT ((n : Int) - l.length - 1) (upT ((d.length : Int) - 1) s).2).1 + 1) (d[(upT ((d.length : Int) - 1) s).1]?.getD ⟨#[]⟩)) (upT ((n : Int) - l.length - 1) (upT ((d.length : Int) - 1) s).2).2
    else (l, s)
theorem runF_end (d : List BA) (n : Nat) {l : List BA} (h : ¬ l.length < n) (s : List UInt8) : ∀ f, runF d n f l s = (l, s)
  | 0 => rfl
  | f + 1 => by rw [runF, if_neg h]
theorem runF_step (d : List BA) (n f : Nat) {l : List BA} (h : l.length < n) (s : List UInt8) : runF d n (f + 1) l s = runF d n f (l ++ List.replicate ((upT ((n : Int) - l.length - 1) (upT ((d.length : Int) - 1) s).2).1 + 1) (d[(upT ((d.length : Int) - 1) s).1]?.getD ⟨#[]⟩)) (upT ((n : Int) - l.length - 1) (upT ((d.length : Int) - 1) s).2).2 := by
  rw [runF, if_pos h]
theorem runF_ok {d : List BA} (hd : d ≠ []) (hs : ∀ x ∈ d, x.size ≤ 1000) (n : Nat) : ∀ (f : Nat) (l : List BA) (s : List UInt8), l.length ≤ n → (∀ x ∈ l, x.size ≤ 1000) → (runF d n f l s).1.length ≤ n ∧ (∀ x ∈ (runF d n f l s).1, x.size ≤ 1000) ∧ (runF d n f l s).2.length ≤ s.length
  | 0, l, s, h1, h2 => ⟨h1, h2, Nat.le_refl _⟩
  | f + 1, l, s, h1, h2 => by
    have hp := List.length_pos_iff.2 hd
    by_cases h : l.length < n
    · have a1 := upT_le (most := (d.length : Int) - 1) (by omega) s
      have a2 := upT_len ((d.length : Int) - 1) s
      have a3 := upT_le (most := (n : Int) - l.length - 1) (by omega) (upT ((d.length : Int) - 1) s).2
      have a4 := upT_len ((n : Int) - l.length - 1) (upT ((d.length : Int) - 1) s).2
      rw [runF_step d n f h]
      have ih := runF_ok hd hs n f (l ++ List.replicate ((upT ((n : Int) - l.length - 1) (upT ((d.length : Int) - 1) s).2).1 + 1) (d[(upT ((d.length : Int) - 1) s).1]?.getD ⟨#[]⟩)) (upT ((n : Int) - l.length - 1) (upT ((d.length : Int) - 1) s).2).2
        (by rw [List.length_append, List.length_replicate]; omega) (fun x hx => by
          rcases List.mem_append.1 hx with hx | hx
          · exact h2 x hx
          · rw [(List.mem_replicate.1 hx).2, List.getElem?_eq_getElem (by omega)]
            exact hs _ (List.getElem_mem _))
      exact ⟨ih.1, ih.2.1, by omega⟩
    · rw [runF_end d n h]
      exact ⟨h1, h2, Nat.le_refl _⟩
theorem runF_runs (d : List BA) (hd : d.length ≤ 2000) (z : List UInt8) : ∀ (r : List (BA × Nat)) (out : List BA) (f : Nat), (∀ p ∈ r, p.1 ∈ d ∧ 1 ≤ p.2) → (expand r).length ≤ 2000 → (expand r).length ≤ f → runF d (out.length + (expand r).length) f out (runB d r ++ z) = (out ++ expand r, z)
  | [], out, f, _, _, _ => by
    rw [runF_end d _ (by simp [expand])]
    simp [expand, runB]
  | (x, k) :: r, out, f, h, hl, hf => by
    have h0 := h (x, k) (List.mem_cons_self ..)
    dsimp only at h0
    obtain ⟨i, hi, hil, hix⟩ := idxI_mem h0.1
    rw [expand_len_cons] at hl hf ⊢
    have e : runB d ((x, k) :: r) ++ z = uv i ++ (uv (k - 1) ++ (runB d r ++ z)) := by rw [runB_cons, hi, Int.toNat_natCast]; simp only [List.append_assoc]
    have h1 := upT_uv (most := (d.length : Int) - 1) (n := i) (by omega) (by omega) (uv (k - 1) ++ (runB d r ++ z))
    have h2 := upT_uv (most := ((out.length + (k + (expand r).length) : Nat) : Int) - out.length - 1) (n := k - 1) (by omega) (by omega) (runB d r ++ z)
    obtain ⟨g, rfl⟩ : ∃ g, f = g + 1 := ⟨f - 1, by omega⟩
    have ih := runF_runs d hd z r (out ++ List.replicate k x) g (fun p hp => h p (List.mem_cons_of_mem _ hp)) (by omega) (by omega)
    rw [List.length_append, List.length_replicate] at ih
    rw [runF_step d _ g (by omega), e, h1]
    dsimp only
    rw [h2]
    dsimp only
    rw [show k - 1 + 1 = k by omega, List.getElem?_eq_getElem hil, hix, show out.length + (k + (expand r).length) = out.length + k + (expand r).length by omega]
    show runF d (out.length + k + (expand r).length) g (out ++ List.replicate k x) (runB d r ++ z) = _
    rw [ih, expand_cons, List.append_assoc]
/-- The runs behind a dictionary. -/
def runL (d : List BA) (n : Nat) (s : List UInt8) : List BA × List UInt8 := if d = [] then ([], s) else runF d n n [] s
/-- A column. -/
def colL (s : List UInt8) : List BA := (runL (dicL (upT 2000 s).1 (upT 2000 s).2).1 (upT 2000 s).1 (dicL (upT 2000 s).1 (upT 2000 s).2).2).1
theorem colL_ok (s : List UInt8) : colOk (colL s) := by
  have h1 := upT_le (most := 2000) (by omega) s
  obtain ⟨_, h3, _⟩ := dicL_ok (upT 2000 s).1 (upT 2000 s).2
  unfold colL runL
  by_cases h : (dicL (upT 2000 s).1 (upT 2000 s).2).1 = []
  · rw [if_pos h]
    exact ⟨by simp, fun x hx => by cases hx⟩
  · rw [if_neg h]
    have := runF_ok h h3 (upT 2000 s).1 (upT 2000 s).1 [] (dicL (upT 2000 s).1 (upT 2000 s).2).2 (Nat.zero_le _) (fun x hx => by cases hx)
    exact ⟨by omega, this.2.1⟩
theorem colL_enc {l : List BA} (h : colOk l) : colL (encL l) = l := by
  have hd := dict_len l
  have hl := h.1
  have h1 := upT_uv (most := 2000) (n := l.length) (by omega) (by omega) (uv (dict l).length ++ (dicB [] (dict l) ++ runB (dict l) (rle l)))
  have h2 := dicL_dic hl hd (fun x hx => h.2 x ((dict_mem l x).1 hx)) (runB (dict l) (rle l))
  have h4 := runF_runs (dict l) (by omega) [] (rle l) [] l.length (fun p hp => ⟨(dict_mem l p.1).2 (rle_small l p hp).2, rle_pos l p hp⟩) (by rw [expand_rle]; exact hl) (by rw [expand_rle]; exact Nat.le_refl _)
  rw [expand_rle, List.nil_append, List.append_nil, show ([] : List BA).length + l.length = l.length by simp] at h4
  unfold colL encL
  rw [List.append_assoc, List.append_assoc, h1]
  dsimp only
  rw [h2]
  dsimp only
  unfold runL
  by_cases he : dict l = []
  · rw [if_pos he]
    cases l with
    | nil => rfl
    | cons x l =>
      have := (dict_mem (x :: l) x).2 (List.mem_cons_self ..)
      rw [he] at this
      cases this
  · rw [if_neg he, h4]
theorem decO_col {s : List UInt8} (h : encO (colL s) = (s, 0)) : decO s = (colL s, 0) := decO_ok h
theorem decO_not_col {s : List UInt8} (h : encO (colL s) ≠ (s, 0)) : decO s = ([], 12) := decO_bad fun l e => by
  have h2 := encO_inv e
  have h3 : colL s = l := by rw [← h2.2.2]; exact colL_enc h2.1
  rw [h3] at h
  exact h e
end Go.Proofs.Ytpinmmmbmhfmiaa.Dt
