/- Layer 11, ahead: the promises, of what the functions return. -/
import Derived.Test.YtobipbedkkmlcaaSrN
set_option linter.unusedVariables false
set_option linter.unusedSimpArgs false
namespace Go.Proofs.Ytobipbedkkmlcaa.Sr
theorem chk_asc {l : List S} (h : chk 1 l = 0) : Asc l := (chk_one.1 h).2.2
theorem chk_len {l : List S} (h : chk 1 l = 0) : l.length ≤ 2000 := (chk_one.1 h).1
theorem chk_both {a b r : List S} (ha : chk 1 a = 0) (hb : chk 1 b = 0) (h : mrg a b = some r) (hn : r.length ≤ 2000) : chk 1 r = 0 := by
  have k := mrg_some (chk_asc ha) (chk_asc hb) h
  refine chk_one.2 ⟨hn, fun z hz => ?_, k.1⟩
  rcases (k.2.1 z).1 hz with q | q
  · exact (chk_one.1 ha).2.1 z q
  · exact (chk_one.1 hb).2.1 z q
theorem chk_slc {l : List S} {f t : Int} (h : chk 1 l = 0) : chk 1 (slcL l f t) = 0 := chk_one.2 ⟨Nat.le_trans (slc_len ..) (chk_len h), slc_good (chk_one.1 h).2⟩
theorem mrgO_ok {a b r : List S} (ha : chk 1 a = 0) (hb : chk 1 b = 0) (h : mrg a b = some r) (hn : r.length ≤ 2000) : mrgO a b = (r, 0) := by
  unfold mrgO
  rw [if_neg (by omega), h]
  simp only
  rw [if_neg (by omega)]
theorem mrgO_clash {a b : List S} (ha : chk 1 a = 0) (hb : chk 1 b = 0) (h : mrg a b = none) : mrgO a b = ([], 16) := by
  unfold mrgO
  rw [if_neg (by omega), h]
/-- Two valid lists that are small: merged, or a conflict. -/
theorem mrgO_cases {a b : List S} (ha : chk 1 a = 0) (hb : chk 1 b = 0) (hn : a.length + b.length ≤ 2000) : (mrgO a b = ([], 16) ∧ mrg a b = none) ∨ ∃ r, mrgO a b = (r, 0) ∧ mrg a b = some r ∧ chk 1 r = 0 ∧ r.length ≤ a.length + b.length := by
  cases h : mrg a b with
  | none => exact .inl ⟨mrgO_clash ha hb h, rfl⟩
  | some r =>
    have k := mrg_some (chk_asc ha) (chk_asc hb) h
    exact .inr ⟨r, mrgO_ok ha hb h (by omega), rfl, chk_both ha hb h (by omega), k.2.2⟩
theorem mrgO_comm (a b : List S) : mrgO a b = mrgO b a := by
  unfold mrgO
  by_cases h : chk 1 a ≠ 0 ∨ chk 1 b ≠ 0
  · rw [if_pos h, if_pos h.symm]
  · rw [if_neg h, if_neg fun q => h q.symm, mrg_comm (chk_asc (by omega)) (chk_asc (by omega))]
theorem mrgO_self {a : List S} (h : chk 1 a = 0) : mrgO a a = (a, 0) := mrgO_ok h h (mrg_self (chk_asc h)) (chk_len h)
theorem mrgO_assoc {a b c ab bc : List S} (ha : chk 1 a = 0) (hb : chk 1 b = 0) (hc : chk 1 c = 0) (h1 : mrgO a b = (ab, 0)) (h2 : mrgO b c = (bc, 0)) (hn : a.length + b.length + c.length ≤ 2000) : mrgO ab c = mrgO a bc := by
  rcases mrgO_cases ha hb (by omega) with ⟨k, _⟩ | ⟨r, k, k1, k2, k3⟩
  · rw [h1] at k; cases k
  rcases mrgO_cases hb hc (by omega) with ⟨q, _⟩ | ⟨s, q, q1, q2, q3⟩
  · rw [h2] at q; cases q
  rw [h1] at k
  rw [h2] at q
  cases k
  cases q
  unfold mrgO
  rw [if_neg (by omega), if_neg (by omega), mrg_assoc (chk_asc ha) (chk_asc hb) (chk_asc hc) k1 q1]
theorem mrgO_slc {a b ab : List S} {f t : Int} (ha : chk 1 a = 0) (hb : chk 1 b = 0) (h : mrgO a b = (ab, 0)) (hn : a.length + b.length ≤ 2000) : mrgO (slcL a f t) (slcL b f t) = (slcL ab f t, 0) := by
  rcases mrgO_cases ha hb hn with ⟨k, _⟩ | ⟨r, k, k1, k2, k3⟩
  · rw [h] at k; cases k
  rw [h] at k
  cases k
  have := slc_len ab f t
  exact mrgO_ok (chk_slc ha) (chk_slc hb) (slc_mrg (chk_asc ha) (chk_asc hb) k1) (by omega)
/-- What has come about when some samples were inserted one by one. -/
structure Adds (a d all : List S) : Prop where
  ok : chk 1 all = 0
  mem : ∀ z, z ∈ all ↔ z ∈ a ∨ z ∈ d
  len : all.length ≤ a.length + d.length
theorem Adds.start {a : List S} (h : chk 1 a = 0) : Adds a [] a := ⟨h, fun z => by simp, by simp⟩
theorem Adds.round {a b d all : List S} {x : S} (h : Adds a d all) (ha : chk 1 a = 0) (hb : chk 1 b = 0) (hab : mrg a b ≠ none) (hd : ∀ z ∈ d, z ∈ b) (hx : x ∈ b) (hn : a.length + d.length < 2000) : (insO all x = ([], 6) ∧ Adds a (x :: d) all) ∨ (insO all x = (insL all x, 0) ∧ Adds a (x :: d) (insL all x)) := by
  have hok := ((chk_one.1 hb).2.1 x hx).1
  have hlen := h.len
  cases hh : hit all x.1 with
  | none =>
    refine .inr ⟨insO_ok h.ok hok hh (by omega), chk_ins h.ok hok hh (by omega), fun z => ?_, ?_⟩
    · rw [ins_mem, h.mem z, List.mem_cons]
      exact or_left_comm
    · rw [ins_len, List.length_cons]
      omega
  | some v =>
    have hm := (hit_some (chk_asc h.ok)).1 hh
    have hv : v = x.2 := by
      rcases (h.mem _).1 hm with q | q
      · cases Decidable.em (v = x.2) with
        | inl e => exact e
        | inr e => exact (hab ((mrg_none (chk_asc ha) (chk_asc hb)).2 ⟨_, q, x, hx, rfl, fun r => e (congrArg Prod.snd r)⟩)).elim
      · exact congrArg Prod.snd (asc_one (chk_asc hb) (hd _ q) hx rfl)
    have hx2 : x ∈ all := by
      rw [hv] at hm
      exact hm
    refine .inl ⟨insO_exists h.ok hok (by rw [hh, hv]), h.ok, fun z => ?_, ?_⟩
    · rw [List.mem_cons]
      refine ⟨fun q => ?_, fun q => ?_⟩
      · rcases (h.mem z).1 q with r | r
        · exact .inl r
        · exact .inr (.inr r)
      · rcases q with r | r | r
        · exact (h.mem z).2 (.inl r)
        · rw [r]; exact hx2
        · exact (h.mem z).2 (.inr r)
    · rw [List.length_cons]
      omega
theorem Adds.all {a b d all ab : List S} (h : Adds a d all) (hd : ∀ z, z ∈ d ↔ z ∈ b) (ha : chk 1 a = 0) (hb : chk 1 b = 0) (hab : mrg a b = some ab) : all = ab := by
  have k := mrg_some (chk_asc ha) (chk_asc hb) hab
  refine asc_ext (chk_asc h.ok) k.1 fun z => ?_
  rw [h.mem z, k.2.1 z, hd z]
/-- P11.5 for a list that is valid for a counter. -/
theorem incO_split {l : List S} {k : Nat} (h : chk 2 l = 0) (hk : k < l.length) : incO l = incO (l.take (k + 1)) + incO (l.drop k) ∧ rstO l = rstO (l.take (k + 1)) + rstO (l.drop k) := by
  have h1 := incO_sub h (List.Sublist.refl l)
  have h2 := incO_sub h (List.take_sublist (k + 1) l)
  have h3 := incO_sub h (List.drop_sublist k l)
  rw [h1.1, h1.2, h2.1, h2.2, h3.1, h3.2]
  exact inc_split hk
theorem incO_low {x e : S} {r : List S} (h : chk 2 (x :: r) = 0) (he : (x :: r).getLast? = some e) : 0 ≤ incO (x :: r) ∧ e.2 - x.2 ≤ incO (x :: r) ∧ (rstO (x :: r) = 0 → incO (x :: r) = e.2 - x.2) ∧ rstO (x :: r) < (x :: r).length := by
  have h1 := incO_sub h (List.Sublist.refl _)
  have h2 := inc_low (fun z hz => ((chk_two.1 h).2.1 z hz).2 rfl) he
  rw [h1.1, h1.2, List.length_cons]
  exact ⟨h2.1, by omega, fun q => by have := h2.2.2.1 q; omega, by omega⟩
theorem incO_between {a b : List S} {x y z : S} (h : chk 2 (a ++ x :: y :: z :: b) = 0) (h1 : x.2 ≤ y.2) (h2 : y.2 ≤ z.2) : incO (a ++ x :: z :: b) = incO (a ++ x :: y :: z :: b) ∧ rstO (a ++ x :: z :: b) = rstO (a ++ x :: y :: z :: b) := by
  have k1 := incO_sub h (List.Sublist.refl _)
  have k2 := incO_sub h (m := a ++ x :: z :: b) (List.Sublist.append (List.Sublist.refl _) (List.Sublist.cons_cons _ (List.sublist_cons_self ..)))
  have k3 := inc_between (a := a) (b := b) h1 h2
  rw [k1.1, k1.2, k2.1, k2.2]
  exact ⟨k3.1.symm, k3.2.symm⟩
theorem incO_far {l : List S} (h : l.length ≤ 2000) : 0 ≤ incO l ∧ incO l ≤ 2199023255552000 := by
  unfold incO
  by_cases h1 : chk 2 l ≠ 0
  · rw [if_pos h1]; omega
  · rw [if_neg h1]
    have h2 := (chk_two.1 (by omega : chk 2 l = 0)).2.1
    have h3 := inc_high (l := l) fun z hz => ⟨(h2 z hz).2 rfl, (okS_iff.1 (h2 z hz).1).2.2.2⟩
    omega
end Go.Proofs.Ytobipbedkkmlcaa.Sr
