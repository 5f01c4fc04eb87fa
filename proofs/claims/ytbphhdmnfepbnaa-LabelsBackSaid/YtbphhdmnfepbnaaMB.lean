/- Layer 5: a text and its labels. -/
import Derived.Test.YtbphhdmnfepbnaaGW
set_option linter.unusedVariables false
set_option linter.unusedSimpArgs false
namespace Go.Proofs.Ytbphhdmnfepbnaa.Lab
open Go.RowKit
theorem quo_cons (c : UInt8) (v : List UInt8) : quo (c :: v) = quo1 c ++ quo v := by rw [show c :: v = [c] ++ v from rfl, quo_append, quo_one]
theorem unq_quo : ∀ (v r : List UInt8), unq (quo v ++ 34 :: r) = some (v, r)
  | [], r => by rw [quo_nil, List.nil_append]; exact unq_end r rfl
  | c :: v, r => by
    have ih := unq_quo v r
    rw [quo_cons, List.append_assoc]
    unfold quo1
    split
    · rename_i h
      have e : c = 10 := UInt8.toNat_inj.1 h
      subst e
      show unq (92 :: 110 :: (quo v ++ 34 :: r)) = _
      rw [unq_n _ rfl rfl, ih]
      rfl
    · split
      · rename_i h
        show unq (92 :: c :: (quo v ++ 34 :: r)) = _
        rw [unq_esc _ rfl h, ih]
        rfl
      · show unq (c :: (quo v ++ 34 :: r)) = _
        rw [unq_plain _ (by unfold plainB; rw [decide_eq_true_iff]; omega), ih]
        rfl
theorem quo_unq : ∀ (t v r : List UInt8), unq t = some (v, r) → t = quo v ++ 34 :: r
  | [], v, r, h => by cases h
  | [c], v, r, h => by
    rw [unq] at h
    split at h
    · rename_i hc
      cases h
      rw [show c = 34 from UInt8.toNat_inj.1 hc]
      rfl
    · cases h
  | c :: d :: t, v, r, h => by
    rw [unq] at h
    split at h
    · rename_i hc
      cases h
      rw [show c = 34 from UInt8.toNat_inj.1 hc]
      rfl
    · rename_i n34
      split at h
      · cases h
      · rename_i n10
        split at h
        · rename_i h92
          have e : c = 92 := UInt8.toNat_inj.1 h92
          subst e
          split at h
          · rename_i hd
            cases hu : unq t with
            | none => rw [hu] at h; cases h
            | some p =>
              rw [hu] at h
              cases h
              rw [quo_cons, quo1_esc (by omega) hd, quo_unq t p.1 p.2 hu]
              rfl
          · split at h
            · rename_i hd
              cases hu : unq t with
              | none => rw [hu] at h; cases h
              | some p =>
                rw [hu] at h
                cases h
                rw [quo_cons, quo_unq t p.1 p.2 hu, show d = 110 from UInt8.toNat_inj.1 hd]
                rfl
            · cases h
        · rename_i n92
          cases hu : unq (d :: t) with
          | none => rw [hu] at h; cases h
          | some p =>
            rw [hu] at h
            cases h
            rw [quo_cons, quo_unq (d :: t) p.1 p.2 hu]
            unfold quo1
            rw [if_neg n10, if_neg (by omega)]
            rfl
theorem nameB_all {s : ByteArray} (h : nameB s = true) : ∀ c ∈ s.data.toList, letterB c.toNat = true := by
  unfold nameB at h
  simp only [Bool.and_eq_true, decide_eq_true_iff] at h
  exact List.all_eq_true.1 h.1.2
theorem lead_name {s : ByteArray} (h : nameB s = true) (r : List UInt8) : lead letterB (s.data.toList ++ 61 :: r) = s.data.toList.length := by
  rw [lead_take letterB _ s.data.toList.length (by rw [List.take_left']; exact nameB_all h; rfl) (by rw [List.length_append]; omega), List.drop_left]
  rfl
theorem labP_lab {x : Lb} (h : nameB x.n = true) (r : List UInt8) : labP (lab1 x ++ r) = some (x, r) := by
  have e : lab1 x ++ r = x.n.data.toList ++ 61 :: 34 :: (quo x.v.data.toList ++ 34 :: r) := by unfold lab1; simp [List.append_assoc]
  have hl := lead_name h (34 :: (quo x.v.data.toList ++ 34 :: r))
  have hs := nameB_size h
  have hn : x.n.data.toList.length = x.n.size := Array.length_toList
  rw [e, labP_yes (r := quo x.v.data.toList ++ 34 :: r) (by rw [hl]; omega) (by rw [hl, List.drop_left]), unq_quo, hl, List.take_left, mk_self, Option.map_some, mk_self]
theorem labsP_body : ∀ (l : List Lb) (f : Nat), l ≠ [] → (∀ x ∈ l, nameB x.n = true) → l.length ≤ f → labsP f (bodyL l ++ [125]) = some l
  | [], _, h, _, _ => absurd rfl h
  | [x], f, _, h, hf => by
    match f, hf with
    | f + 1, _ =>
      have e : bodyL [x] ++ [125] = lab1 x ++ [125] := by simp [bodyL, tailL]
      rw [e]
      exact labsP_last (labP_lab (h x (by simp)) _)
  | x :: y :: r, f, _, h, hf => by
    match f, hf with
    | f + 1, hf =>
      have e : bodyL (x :: y :: r) ++ [125] = lab1 x ++ 44 :: (bodyL (y :: r) ++ [125]) := by simp [bodyL, tailL, List.append_assoc]
      rw [e, labsP_comma (labP_lab (h x (by simp)) _), labsP_body (y :: r) f (by simp) (fun z hz => h z (by simp [hz])) (by simp only [List.length_cons] at hf ⊢; omega)]
      rfl
theorem lab1_pos (x : Lb) : 3 ≤ (lab1 x).length := by rw [lab1_len]; omega
theorem bodyL_pos2 : ∀ l : List Lb, l.length ≤ (bodyL l).length
  | [] => by simp
  | [x] => by have := lab1_pos x; simp only [bodyL, tailL, List.flatMap_nil, List.append_nil, List.length_singleton]; omega
  | x :: y :: r => by
    have h := bodyL_pos2 (y :: r)
    have e : bodyL (x :: y :: r) = lab1 x ++ 44 :: bodyL (y :: r) := by simp [bodyL, tailL]
    rw [e]
    simp only [List.length_append, List.length_cons] at h ⊢
    omega
theorem txt_fmt {l : List Lb} (h : ∀ x ∈ l, nameB x.n = true) : txtP (fmtL l) = some l := by
  show txtP (123 :: (bodyL l ++ [125])) = some l
  rw [txtP, if_pos (show UInt8.toNat 123 = 123 from rfl)]
  cases l with
  | nil => rfl
  | cons x r =>
    have h1 := bodyL_pos2 (x :: r)
    rw [if_neg (fun e => by have e1 := congrArg List.length e; simp only [List.length_append, List.length_singleton, List.length_cons, List.length_nil] at e1 h1; omega)]
    exact labsP_body _ _ (by simp) h (by rw [List.length_append]; omega)
theorem chkL_names : ∀ (o : Option ByteArray) (l : List Lb), chkL o l = 0 → ∀ x ∈ l, nameB x.n = true
  | _, [], _ => by simp
  | o, y :: r, h => by
    intro x hx
    obtain ⟨h1, _, _, _, h5⟩ := chkL_cons h
    rcases List.mem_cons.1 hx with rfl | hx
    · exact h1
    · exact chkL_names _ r h5 x hx
theorem chk_names {l : List Lb} (h : chk l = 0) : ∀ x ∈ l, nameB x.n = true := by
  unfold chk at h
  split at h
  · exact absurd h (by decide)
  · exact chkL_names none l h
/-- A label set is read back. -/
theorem back_fmt {l : List Lb} (h : chk l = 0) : parseO (fmtL l) = (l, 0) := parse_ok (txt_fmt (chk_names h)) h
theorem lab_labP {t r : List UInt8} {x : Lb} (h : labP t = some (x, r)) : t = lab1 x ++ r := by
  unfold labP at h
  split at h
  · cases h
  · split at h
    · rename_i c d q he
      split at h
      · rename_i hcd
        cases hu : unq q with
        | none => rw [hu] at h; cases h
        | some p =>
          rw [hu] at h
          cases h
          have e1 := quo_unq q p.1 p.2 hu
          have e2 : t = t.take (lead letterB t) ++ t.drop (lead letterB t) := (List.take_append_drop _ _).symm
          rw [he, e1, show c = 61 from UInt8.toNat_inj.1 hcd.1, show d = 34 from UInt8.toNat_inj.1 hcd.2] at e2
          have e3 : lab1 ⟨mkS (t.take (lead letterB t)), mkS p.1⟩ ++ p.2 = t.take (lead letterB t) ++ 61 :: 34 :: (quo p.1 ++ 34 :: p.2) := by
            unfold lab1 mkS
            simp [List.append_assoc]
          rw [e3]
          exact e2
      · cases h
    · cases h
theorem body_labsP : ∀ (f : Nat) (t : List UInt8) (m : List Lb), labsP f t = some m → t = bodyL m ++ [125]
  | 0, _, _, h => by cases h
  | f + 1, t, m, h => by
    cases hl : labP t with
    | none => rw [labsP_none hl] at h; cases h
    | some p =>
      obtain ⟨x, r⟩ := p
      have e := lab_labP hl
      cases r with
      | nil => rw [labsP_end hl] at h; cases h
      | cons c r =>
        by_cases hc : c = 44
        · subst hc
          rw [labsP_comma hl] at h
          cases hf : labsP f r with
          | none => rw [hf] at h; cases h
          | some m' =>
            rw [hf] at h
            cases h
            have e2 := body_labsP f r m' hf
            have hne : m' ≠ [] := by
              intro q
              subst q
              cases f with
              | zero => cases hf
              | succ f =>
                cases hl2 : labP r with
                | none => rw [labsP_none hl2] at hf; cases hf
                | some p2 =>
                  obtain ⟨x2, r2⟩ := p2
                  cases r2 with
                  | nil => rw [labsP_end hl2] at hf; cases hf
                  | cons c2 r2 =>
                    by_cases hc2 : c2 = 44
                    · subst hc2
                      rw [labsP_comma hl2] at hf
                      cases hf3 : labsP f r2 with
                      | none => rw [hf3] at hf; cases hf
                      | some m3 => rw [hf3] at hf; cases hf
                    · by_cases hq2 : c2 = 125 ∧ r2 = []
                      · obtain ⟨rfl, rfl⟩ := hq2
                        rw [labsP_last hl2] at hf
                        cases hf
                      · rw [labsP_bad hl2 hc2 hq2] at hf; cases hf
            cases m' with
            | nil => exact absurd rfl hne
            | cons y q =>
              rw [e, e2]
              simp [bodyL, tailL, List.append_assoc]
        · by_cases hq : c = 125 ∧ r = []
          · obtain ⟨rfl, rfl⟩ := hq
            rw [labsP_last hl] at h
            cases h
            rw [e]
            simp [bodyL, tailL]
          · rw [labsP_bad hl hc hq] at h; cases h
theorem fmt_txt {t : List UInt8} {m : List Lb} (h : txtP t = some m) : fmtL m = t := by
  cases t with
  | nil => cases h
  | cons c r =>
    rw [txtP] at h
    split at h
    · rename_i hc
      rw [show c = 123 from UInt8.toNat_inj.1 hc]
      split at h
      · rename_i hr
        cases h
        rw [hr]
        rfl
      · rw [body_labsP _ r m h]
        rfl
    · cases h
/-- What is read is the text of what it yields. -/
theorem back_txt {t : List UInt8} {m : List Lb} (h : parseO t = (m, 0)) : fmtL m = t ∧ chk m = 0 := by
  unfold parseO at h
  split at h
  · injection h with h1 h2
    exact absurd h2 (by decide)
  · rename_i m' hm
    split at h
    · rename_i hc
      cases h
      exact ⟨fmt_txt hm, hc⟩
    · rename_i hc
      injection h with h1 h2
      exact absurd h2 hc
end Go.Proofs.Ytbphhdmnfepbnaa.Lab
