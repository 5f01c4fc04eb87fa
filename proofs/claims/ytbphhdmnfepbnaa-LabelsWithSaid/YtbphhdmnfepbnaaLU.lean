/- Layer 5: Parse of the program. -/
import Derived.Test.YtbphhdmnfepbnaaLS
set_option linter.unusedVariables false
set_option linter.unusedSimpArgs false
namespace Go.Proofs.Ytbphhdmnfepbnaa.Lab
open Go.RowKit
theorem all_any (a : ByteArray) (w : World) : Calls Try.prog 46 #[.string a] w fun e w' => e = .returned (.int .i64 a.size) ∧ w = w' := by
  go_enter Try.func46, Try.ntmps46
  go_wp2
  go_ret
  exact ⟨rfl, rfl⟩
theorem nextAll (bt ba : Nat) (s : ByteArray) (hs : s.size ≤ 1000000) (k : Nat) (w : World) (H : RS bt ba s k w) :
    Calls Try.prog 64 #[.func (.func 46) #[] #[], .pointer (some ⟨ba, 0, none⟩), .pointer (some ⟨bt, 0, none⟩)] w (NextPost bt ba s k (s.size - k) w) := by
  have hle := H.le
  refine next_all bt ba 0 s hs k _ (by omega) w H ?_
  have h3 := all_any (s.extract k s.size) w.drew
  rw [ext_size] at h3
  exact h3
theorem readerOf_any (s : ByteArray) (w : World) : Calls Try.prog 44 #[.string s] w fun e w' => e = .returned (.func (.func 64) #[] #[.pointer (some ⟨w.heap.size + 1, 0, none⟩), .pointer (some ⟨w.heap.size, 0, none⟩)]) ∧ (w.alloc (.cells #[.string s] 9)).alloc (.cells #[.int .i64 0] 3) = w' := by
  go_enter Try.func44, Try.ntmps44
  go_wp2
  go_ret
  exact ⟨rfl, rfl⟩
/-- What Parse hands back. -/
def ParsePost (l : List UInt8) (w : World) (e : Ending) (w' : World) : Prop :=
  ∃ v m er, e = .returned (.tuple #[v, .int .i64 er]) ∧ Own5 w' w.heap.size v m ∧ Below w.heap.size w w' ∧ parseO l = (m, er)
theorem parse_none {l : List UInt8} (h : txtP l = none) : parseO l = ([], 3) := by unfold parseO; rw [h]
theorem parse_ok {l : List UInt8} {m : List Lb} (h : txtP l = some m) (h2 : chk m = 0) : parseO l = (m, 0) := by unfold parseO; rw [h]; simp only; rw [if_pos h2]
theorem parse_err {l : List UInt8} {m : List Lb} (h : txtP l = some m) (h2 : ¬ chk m = 0) : parseO l = ([], chk m) := by unfold parseO; rw [h]; simp only; rw [if_neg h2]
theorem mkS_size (a : List UInt8) : (mkS a).size = a.length := by
  have h1 : (mkS a).data.toList.length = (mkS a).size := Array.length_toList
  unfold mkS at h1
  rw [ba_mk] at h1
  exact h1.symm
theorem labP_size {l r : List UInt8} {x : Lb} (h : labP l = some (x, r)) : x.n.size ≤ l.length ∧ x.v.size ≤ l.length := by
  unfold labP at h
  split at h
  · cases h
  · split at h
    · rename_i c d r' he
      split at h
      · cases hu : unq r' with
        | none => rw [hu] at h; cases h
        | some p =>
          rw [hu] at h
          cases h
          have h1 := unq_len r' p.1 p.2 hu
          have h2 := congrArg List.length he
          rw [List.length_drop, List.length_cons, List.length_cons] at h2
          simp only [mkS_size, List.length_take]
          omega
      · cases h
    · cases h
theorem labsP_size : ∀ (f : Nat) (l : List UInt8) (m : List Lb), labsP f l = some m → ∀ x ∈ m, x.n.size ≤ l.length ∧ x.v.size ≤ l.length
  | 0, l, m, h => by cases h
  | f + 1, l, m, h => by
    intro x hx
    cases hl : labP l with
    | none => rw [labsP_none hl] at h; cases h
    | some p =>
      obtain ⟨y, r⟩ := p
      have h1 := labP_len hl
      have h2 := labP_size hl
      cases r with
      | nil => rw [labsP_end hl] at h; cases h
      | cons c r =>
        by_cases hc : c = 44
        · subst hc
          rw [labsP_comma hl] at h
          cases hf : labsP f r with
          | none => rw [hf] at h; cases h
          | some m' =>
            rw [hf] at h
            cases h
            rcases List.mem_cons.1 hx with rfl | hx
            · exact h2
            · have := labsP_size f r m' hf x hx
              rw [List.length_cons] at h1
              omega
        · by_cases hq : c = 125 ∧ r = []
          · obtain ⟨rfl, rfl⟩ := hq
            rw [labsP_last hl] at h
            cases h
            rcases List.mem_cons.1 hx with rfl | hx
            · exact h2
            · cases hx
          · rw [labsP_bad hl hc hq] at h; cases h
theorem txtP_size {l : List UInt8} {m : List Lb} (h : txtP l = some m) : ∀ x ∈ m, x.n.size ≤ l.length ∧ x.v.size ≤ l.length := by
  intro x hx
  cases l with
  | nil => cases h
  | cons c r =>
    rw [txtP] at h
    split at h
    · split at h
      · cases h; cases hx
      · have := labsP_size _ r m h x hx
        rw [List.length_cons]
        omega
    · cases h
theorem txtP_max {s : ByteArray} {m : List Lb} (hs : s.size ≤ 100000) (hu : txtP s.data.toList = some m) : ∀ x ∈ m, x.n.size ≤ maxLen ∧ x.v.size ≤ maxLen := fun x hx => by
  have h1 := txtP_size hu x hx
  rw [Array.length_toList] at h1
  have h2 : s.data.size = s.size := rfl
  unfold maxLen
  omega
set_option maxRecDepth 100000 in
set_option maxHeartbeats 4000000 in
theorem parse_any (s : ByteArray) (hs : s.size ≤ 100000) (w : World) : Calls Try.prog 23 #[.string s] w (ParsePost s.data.toList w) := by
  have hs1 : s.size ≤ 1000000 := by omega
  obtain ⟨W1, hW1⟩ : ∃ W1, W1 = (w.alloc (.cells #[.string s] 9)).alloc (.cells #[.int .i64 0] 3) := ⟨_, rfl⟩
  have hB1 : Below w.heap.size w W1 := by rw [hW1]; exact ((Below.refl _ w).alloc (Nat.le_refl _) _).alloc (by simp) _
  have hR1 : RS w.heap.size (w.heap.size + 1) s 0 W1 := by
    rw [hW1]
    refine ⟨?_, ?_, Nat.zero_le _⟩
    · rw [Below.heap_alloc _ _ _ (by simp)]
      exact World.alloc_heap_new _ _
    · have := World.alloc_heap_new (w.alloc (.cells #[.string s] 9)) (.cells #[.int .i64 0] 3)
      simpa using this
  have B1 := Lib.hid hB1
  have R1 := Lib.hid hR1
  have HW := Lib.hid hW1
  clear hB1 hR1 hW1
  go_enter Try.func23, Try.ntmps23
  go_wp2_with fail
  refine (readerOf_any s w).mono ?_
  rintro e w' ⟨rfl, hw⟩
  rw [← HW.out] at hw
  subst hw
  go_wp2_with fail
  refine (list_any w.heap.size (w.heap.size + 1) s hs1 W1 R1.out).mono ?_
  rintro e w2 ⟨v, b, k', m, rfl, hO, hR, hG, hL, hml⟩
  have O2 := Lib.hid (hO.more B1.out.size)
  have R2 := Lib.hid hR
  have B2 : Hid (Below w.heap.size w w2) := B1.out.grown hG B1.out.size (fun g e => by injection e with e; omega)
  clear hO hR hG
  cases b with
  | false =>
    have HP := Lib.hid (parse_none (hL.no rfl))
    clear hL
    go_wp2
    go_ret2
    exact ⟨_, [], 3, rfl, World.ownsRow_nil _ _ _ _, B2.out, HP.out⟩
  | true =>
    go_wp2_with fail
    refine (nextAll w.heap.size (w.heap.size + 1) s hs1 k' w2 R2.out).mono ?_
    rintro e w3 ⟨rfl, hR, hG⟩
    have hle := R2.out.le
    have hlen := ext_len s hR.le
    have O3 := Lib.hid (O2.out.grown hG (O2.out.ne R2.out.hk (by decide)))
    have B3 : Hid (Below w.heap.size w w3) := B2.out.grown hG B2.out.size (fun g e => by injection e with e; omega)
    obtain ⟨t, ht⟩ : ∃ t, t = s.extract k' (k' + (s.size - k')) := ⟨_, rfl⟩
    rw [← ht] at hlen ⊢
    clear hR hG ht
    have hdl : (s.data.toList.drop k').length = s.size - k' := by rw [List.length_drop, Array.length_toList]; rfl
    by_cases h0 : s.size - k' = 0
    · have he := emp_true (s := t) (by omega)
      have hu := hL.yes rfl (List.eq_nil_of_length_eq_zero (by omega))
      have HZ := Lib.hid (txtP_max hs hu)
      obtain ⟨A, c, rfl, hLS⟩ := O3.out.form
      have CK := Lib.hid (check_any m (by unfold maxLen; omega) HZ.out A c w3 hLS)
      by_cases hc : chk m = 0
      · have HP := Lib.hid (parse_ok hu hc)
        rw [hc] at CK
        clear h0 hlen hdl hu hL hc hLS
        go_wp2_with (go_at_call 17; (with_reducible refine CK.out.mono ?_); rintro e w4 ⟨rfl, hb⟩; have HB := Lib.hid hb; clear hb)
        go_ret2
        exact ⟨_, m, 0, rfl, O3.out.below HB.out, B3.out.trans (HB.out.mono B3.out.size), HP.out⟩
      · have HP := Lib.hid (parse_err hu hc)
        have hcb : (chk m != 0) = true := by simp [hc]
        clear h0 hlen hdl hu hL hc hLS
        generalize chk m = q at *
        go_wp2_with (go_at_call 17; (with_reducible refine CK.out.mono ?_); rintro e w4 ⟨rfl, hb⟩; have HB := Lib.hid hb; clear hb)
        go_ret2
        exact ⟨_, [], q, rfl, World.ownsRow_nil _ _ _ _, B3.out.trans (HB.out.mono B3.out.size), HP.out⟩
    · have he := emp_false (s := t) (by omega)
      have HP := Lib.hid (parse_none (hL.more (fun e => by rw [e] at hdl; simp at hdl; omega)))
      clear h0 hlen hdl hL
      go_wp2
      go_ret2
      exact ⟨_, [], 3, rfl, World.ownsRow_nil _ _ _ _, B3.out, HP.out⟩
end Go.Proofs.Ytbphhdmnfepbnaa.Lab
