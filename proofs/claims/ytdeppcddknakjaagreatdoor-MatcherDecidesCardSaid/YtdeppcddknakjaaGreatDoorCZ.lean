/- Layer 7: deciding without regular expressions. Layer 7: Clone, Reverse at matchers. -/
import Derived.Test.YtdeppcddknakjaaGreatDoorCVa
import Derived.Test.YtdeppcddknakjaaGreatDoorCLb
import Derived.Test.YtdeppcddknakjaaGreatDoorCY
import Derived.Test.YtdeppcddknakjaaGreatDoorShelg
set_option maxRecDepth 100000
set_option linter.unusedVariables false
set_option linter.unusedSimpArgs false
namespace Go.Proofs.YtdeppcddknakjaaGreatDoor.Mx
open Go.Proofs.YtdeppcddknakjaaGreatDoor.Lab (nameB getL Lb withL with_get with_other eqS eqS_iff)
def Plain (l : List Mt) : Prop := ∀ m ∈ l, m.k ≤ 2
theorem Plain.lit {l : List Mt} (h : Plain l) : l.map lit = l := map_lit_fix fun m hm => lit_low (h m hm)
theorem neg_plain {m : Mt} (h1 : 1 ≤ m.k) (h2 : m.k ≤ 2) : (neg m).k ≤ 2 := by
  have h : m.k = 1 ∨ m.k = 2 := by omega
  rcases h with h | h
  · rw [neg1 h]; exact Int.le_refl _
  · rw [neg2 h]; show (1 : Int) ≤ 2; omega
theorem plain_tells {l : List Mt} (hp : Plain l) {x m : Mt} (hx : x ∈ l) (h : tells x m = true) : x.k = 1 := by
  rcases tells_k h with k | k
  · exact k
  · have := hp x hx; omega
theorem fits_contra {l : List Mt} {x m : Mt} (hk : 1 ≤ m.k ∧ m.k ≤ 4) (hx : x ∈ l) (hk1 : x.k = 1) (hn : x.n = m.n) (hc : contra l m = false) : fits m x.v = true := by
  cases hf : fits m x.v with
  | true => rfl
  | false =>
    unfold contra at hc
    rw [ens_iff.2 (.inr ⟨x, hx, by rw [neg_n hk.1 hk.2]; exact hn, by rw [tells1 hk1, fits_neg hk.1 hk.2, hf]; rfl⟩)] at hc
    cases hc
/-- What a witness has for a name. -/
structure Wit (l : List Mt) (g : ByteArray → ByteArray) : Prop where
  eq : ∀ m ∈ l, m.k = 1 → ∃ x ∈ l, x.k = 1 ∧ x.n = m.n ∧ g m.n = x.v
  new : ∀ m ∈ l, (∀ x ∈ l, x.k = 1 → x.n ≠ m.n) → ∀ x ∈ l, x.n = m.n → x.v ≠ g m.n
theorem Wit.sat {l : List Mt} {g : ByteArray → ByteArray} (h : Wit l g) (hk : ∀ m ∈ l, 1 ≤ m.k ∧ m.k ≤ 4) (hp : Plain l) (hc : ∀ m ∈ l, contra l m = false) : satG l g = true := by
  refine satG_iff.2 fun m hm => ?_
  by_cases he : ∃ x ∈ l, x.k = 1 ∧ x.n = m.n
  · obtain ⟨x, hx, hxk, hxn⟩ := he
    obtain ⟨y, hy, hyk, hyn, hyv⟩ := h.eq x hx hxk
    rw [hxn] at hyn hyv
    rw [hyv]
    exact fits_contra (hk m hm) hy hyk hyn (hc m hm)
  · have h2 : m.k = 2 := by
      have h3 := hk m hm
      have h4 := hp m hm
      rcases (show m.k = 1 ∨ m.k = 2 by omega) with e | e
      · exact absurd ⟨m, hm, e, rfl⟩ he
      · exact e
    rw [fits2 h2, decide_eq_true_iff]
    exact fun e => h.new m hm (fun x hx hxk hxn => he ⟨x, hx, hxk, hxn⟩) m hm rfl e.symm
theorem none_contra {l s : List Mt} (hp : Plain l) (hs : simA l = some s) : ∀ m ∈ l, contra l m = false := by
  have h := (simA_some hs).1
  rwa [hp.lit] at h
/-- As many as wanted. -/
def xs (j : Nat) : ByteArray := ⟨Array.replicate (j + 1) 120⟩
theorem xs_size (j : Nat) : (xs j).size = j + 1 := Array.size_replicate
theorem xs_succ (j : Nat) : xs j ++ ⟨#[120]⟩ = xs (j + 1) := by
  refine ba_eq ?_
  have h1 : (xs j ++ ⟨#[120]⟩).data.toList = (xs j).data.toList ++ [120] := by simp
  rw [h1]
  unfold xs
  rw [Array.toList_replicate, Array.toList_replicate, List.replicate_succ' (n := j + 1)]
theorem xs_zero : xs 0 = ⟨#[120]⟩ := rfl
open Classical in
theorem wit_ex {l : List Mt} (hv : Val l) : ∃ g, Wit l g := by
  refine ⟨fun n => if h : ∃ x ∈ l, x.k = 1 ∧ x.n = n then (Classical.choose h).v else xs 200, ?_, ?_⟩
  · intro m hm hk
    have h : ∃ x ∈ l, x.k = 1 ∧ x.n = m.n := ⟨m, hm, hk, rfl⟩
    have h2 := Classical.choose_spec h
    refine ⟨Classical.choose h, h2.1, h2.2.1, h2.2.2, ?_⟩
    rw [dif_pos h]
  · intro m hm hno x hx hn e
    rw [dif_neg (fun h => by obtain ⟨y, h1, h2, h3⟩ := h; exact hno y h1 h2 h3)] at e
    have h1 := chk1_len (hv x hx)
    rw [e, xs_size] at h1
    omega
theorem sat_ex {l s : List Mt} (hv : Val l) (hp : Plain l) (hs : simA l = some s) : ∃ g, satG l g = true := by
  obtain ⟨g, hg⟩ := wit_ex hv
  exact ⟨g, hg.sat hv.kinds hp (none_contra hp hs)⟩
theorem sat_snoc {a : List Mt} {m : Mt} {g : ByteArray → ByteArray} : satG (a ++ [m]) g = true ↔ satG a g = true ∧ fits m (g m.n) = true := by
  rw [satG_iff, satG_iff]
  constructor
  · intro h
    exact ⟨fun x hx => h x (List.mem_append_left _ hx), h m (List.mem_append_right _ (List.mem_singleton.2 rfl))⟩
  · rintro ⟨h1, h2⟩ x hx
    rcases List.mem_append.1 hx with hx | hx
    · exact h1 x hx
    · rw [List.mem_singleton.1 hx]; exact h2
theorem Val.snoc {a : List Mt} (ha : Val a) {m : Mt} (hm : chk1 m = 0) : Val (a ++ [neg m]) := fun x hx => by
  rcases List.mem_append.1 hx with hx | hx
  · exact ha x hx
  · rw [List.mem_singleton.1 hx]; exact neg_chk hm
theorem Plain.snoc {a : List Mt} (ha : Plain a) {m : Mt} (hm : chk1 m = 0) (h2 : m.k ≤ 2) : Plain (a ++ [neg m]) := fun x hx => by
  rcases List.mem_append.1 hx with hx | hx
  · exact ha x hx
  · rw [List.mem_singleton.1 hx]; exact neg_plain (chk1_kind hm).1 h2
theorem neg_fits_self {m : Mt} (h : m.k = 1) : fits m m.v = true := by rw [fits1 h]; exact decide_eq_true rfl
/-- Without regular expressions nothing is overlooked. -/
theorem plain_full {a x : List Mt} (ha : Val a) (hp : Plain a) (hx : simA a = some x) {m : Mt} (hm : chk1 m = 0) (h2 : m.k ≤ 2) (hn : simA (a ++ [neg m]) = none) : impl x m = true := by
  obtain ⟨a1, a2, _, _⟩ := simA_some hx
  rw [hp.lit] at a1 a2
  have hkm := chk1_kind hm
  have hps := hp.snoc hm h2
  have hvs := ha.snoc hm
  obtain ⟨p, hpm, hc⟩ := simA_none.1 hn
  rw [hps.lit] at hpm hc
  have hkp := chk1_kind (hvs p hpm)
  have hkn : ∀ q ∈ a, q.k = 1 → q ∈ x := fun q hq hk => (a2 q).2 ⟨hq, by unfold repl; rw [decide_eq_false (by simp [hk]), Bool.false_and]⟩
  have hens : ∀ q ∈ a, q.k = 1 → q.n = m.n → fits m q.v = true → impl x m = true := fun q hq hk hqn hf =>
    impl_iff.2 (.inr (.inl (ens_iff.2 (.inr ⟨q, hkn q hq hk, hqn, by rw [tells1 hk]; exact hf⟩))))
  unfold contra at hc
  rcases ens_iff.1 hc with ⟨h3, _⟩ | ⟨q, hq, hqn, ht⟩
  · have := neg_plain hkp.1 (hps p hpm); omega
  · have hqk := plain_tells hps hq ht
    rw [neg_n hkp.1 hkp.2] at hqn
    rw [tells1 hqk, fits_neg hkp.1 hkp.2] at ht
    have hf : fits p q.v = false := by simpa using ht
    rcases List.mem_append.1 hpm with hpa | hpa
    · rcases List.mem_append.1 hq with hqa | hqa
      · have := fits_contra hkp hqa hqk hqn (a1 p hpa)
        rw [hf] at this
        cases this
      · have e := List.mem_singleton.1 hqa
        have hm2 : m.k = 2 := by
          rcases (show m.k = 1 ∨ m.k = 2 by omega) with k | k
          · rw [e, neg1 k] at hqk; exact absurd hqk (show ¬ (2 : Int) = 1 by omega)
          · exact k
        have hqv : q.v = m.v := by rw [e]; exact neg_v hkm.1 hkm.2
        have hqn' : q.n = m.n := by rw [e]; exact neg_n hkm.1 hkm.2
        rw [hqv] at hf
        have hpn : p.n = m.n := by rw [← hqn, hqn']
        rcases (show p.k = 1 ∨ p.k = 2 by have := hp p hpa; omega) with k | k
        · rw [fits1 k, decide_eq_false_iff_not] at hf
          exact hens p hpa k hpn (by rw [fits2 hm2]; exact decide_eq_true fun e2 => hf e2.symm)
        · rw [fits2 k] at hf
          have hv : m.v = p.v := by simpa using hf
          have hpm' : p = m := Mt.ext' (k.trans hm2.symm) hpn hv.symm
          rw [hpm'] at hpa
          cases hr : repl a m with
          | false => exact impl_iff.2 (.inl ((a2 m).2 ⟨hpa, hr⟩))
          | true =>
            rcases ens_iff.1 (repl_iff.1 hr).2 with ⟨h3, _⟩ | ⟨z, hz, hzn, hzt⟩
            · omega
            · have hzk := plain_tells hp hz hzt
              rw [tells1 hzk] at hzt
              exact hens z hz hzk hzn hzt
    · have e := List.mem_singleton.1 hpa
      have hpn : p.n = m.n := by rw [e]; exact neg_n hkm.1 hkm.2
      have hf2 : fits m q.v = true := by
        rw [e, fits_neg hkm.1 hkm.2] at hf
        simpa using hf
      rcases List.mem_append.1 hq with hqa | hqa
      · exact hens q hqa hqk (hqn.trans hpn) hf2
      · have e2 := List.mem_singleton.1 hqa
        have : p = q := e.trans e2.symm
        rw [this, fits1 hqk] at hf
        exact absurd rfl (of_decide_eq_false hf)
theorem dec_eq {a b : List Mt} (ha : Val a) (hb : Val b) (pa : Plain a) (pb : Plain b) : impA a b = b.all fun m => (simA (a ++ [neg m])).isNone := by
  rw [Bool.eq_iff_iff, List.all_eq_true]
  constructor
  · intro h m hm
    cases hs : simA (a ++ [neg m]) with
    | none => rfl
    | some s =>
      obtain ⟨g, hg⟩ := sat_ex (ha.snoc (hb m hm)) (pa.snoc (hb m hm) (pb m hm)) hs
      obtain ⟨h1, h2⟩ := sat_snoc.1 hg
      have hk := chk1_kind (hb m hm)
      have h3 := satG_iff.1 (impA_sound ha hb h h1) m hm
      rw [fits_neg hk.1 hk.2, neg_n hk.1 hk.2, h3] at h2
      cases h2
  · intro h
    unfold impA
    cases h1 : simA a with
    | none => rfl
    | some x =>
      cases h2 : simA b with
      | none =>
        obtain ⟨g, hg⟩ := sat_ex ha pa h1
        have h3 := simA_bad hb h2 g
        have h4 : ∃ m ∈ b, fits m (g m.n) = false := by
          unfold satG at h3
          obtain ⟨m, hm, h5⟩ := List.all_eq_false.1 h3
          exact ⟨m, hm, by simpa using h5⟩
        obtain ⟨m, hm, h5⟩ := h4
        have hk := chk1_kind (hb m hm)
        have h6 := h m hm
        rw [Option.isNone_iff_eq_none] at h6
        have h7 := simA_bad (ha.snoc (hb m hm)) h6 g
        rw [sat_snoc.2 ⟨hg, by rw [neg_n hk.1 hk.2, fits_neg hk.1 hk.2, h5]; rfl⟩] at h7
        cases h7
      | some y =>
        refine List.all_eq_true.2 fun m hm => ?_
        have hmb := (((simA_some h2).2.1 m).1 hm).1
        rw [pb.lit] at hmb
        have h6 := h m hmb
        rw [Option.isNone_iff_eq_none] at h6
        exact plain_full ha pa h1 (hb m hmb) (pb m hmb) h6
/-! The witness, step by step. -/
structure Wa (l : List Mt) (k : Nat) (out : List Lb) : Prop where
  eq : ∀ m ∈ l.take k, m.k = 1 → ∃ x ∈ l, x.k = 1 ∧ x.n = m.n ∧ getL out m.n = x.v
theorem Wa.zero (l : List Mt) : Wa l 0 [] := ⟨fun m hm => by simp at hm⟩
theorem eqS_self (s : ByteArray) : eqS s s = true := eqS_iff.2 rfl
theorem eqS_no {a b : ByteArray} (h : a ≠ b) : eqS a b = false := by
  cases e : eqS a b with
  | false => rfl
  | true => exact absurd (eqS_iff.1 e) h
theorem Wa.equal {l : List Mt} {k : Nat} {out : List Lb} (h : Wa l k out) (hk : k < l.length) (h1 : l[k].k = 1) : Wa l (k + 1) (withL out l[k].n l[k].v) := ⟨fun m hm hmk => by
  by_cases hn : l[k].n = m.n
  · exact ⟨l[k], List.getElem_mem hk, h1, hn, by rw [← hn, with_get]⟩
  · rw [with_other _ _ _ _ (eqS_no hn)]
    rw [List.take_succ_eq_append_getElem hk, List.mem_append, List.mem_singleton] at hm
    rcases hm with hm | hm
    · exact h.eq m hm hmk
    · exact absurd (by rw [hm]) hn⟩
theorem Wa.other {l : List Mt} {k : Nat} {out : List Lb} (h : Wa l k out) (hk : k < l.length) (h1 : l[k].k ≠ 1) : Wa l (k + 1) out := ⟨fun m hm hmk => by
  rw [List.take_succ_eq_append_getElem hk, List.mem_append, List.mem_singleton] at hm
  rcases hm with hm | hm
  · exact h.eq m hm hmk
  · exact absurd (by rw [← hm]; exact hmk) h1⟩
structure Wb (l : List Mt) (k : Nat) (out : List Lb) : Prop where
  eq : ∀ m ∈ l, m.k = 1 → ∃ x ∈ l, x.k = 1 ∧ x.n = m.n ∧ getL out m.n = x.v
  new : ∀ m ∈ l.take k, (∀ x ∈ l, x.k = 1 → x.n ≠ m.n) → ∀ x ∈ l, x.n = m.n → x.v ≠ getL out m.n
theorem Wb.zero {l : List Mt} {out : List Lb} (h : Wa l l.length out) : Wb l 0 out := ⟨fun m hm => h.eq m (by rw [List.take_length]; exact hm), fun m hm => by simp at hm⟩
def hasE (l : List Mt) (n : ByteArray) : Bool := l.any fun x => decide (x.k = 1 ∧ x.n = n)
theorem hasE_iff {l : List Mt} {n : ByteArray} : hasE l n = true ↔ ∃ x ∈ l, x.k = 1 ∧ x.n = n := by
  unfold hasE
  rw [List.any_eq_true]
  constructor
  · rintro ⟨x, hx, h⟩; exact ⟨x, hx, of_decide_eq_true h⟩
  · rintro ⟨x, hx, h⟩; exact ⟨x, hx, decide_eq_true h⟩
def usedV (l : List Mt) (n v : ByteArray) : Bool := l.any fun x => decide (x.n = n ∧ x.v = v)
theorem usedV_no {l : List Mt} {n v : ByteArray} (h : usedV l n v = false) : ∀ x ∈ l, x.n = n → x.v ≠ v := fun x hx hn hv => by
  have := List.any_eq_false.1 h x hx
  exact this (decide_eq_true ⟨hn, hv⟩)
theorem usedV_len {l : List Mt} (hv : Val l) {n : ByteArray} {j : Nat} (h : usedV l n (xs j) = true) : j < 200 := by
  obtain ⟨x, hx, h⟩ := List.any_eq_true.1 h
  have h1 := of_decide_eq_true h
  have h2 := chk1_len (hv x hx)
  rw [h1.2, xs_size] at h2
  omega
theorem Wb.skip {l : List Mt} {k : Nat} {out : List Lb} (h : Wb l k out) (hk : k < l.length) (h1 : hasE l l[k].n = true) : Wb l (k + 1) out := ⟨h.eq, fun m hm hno => by
  rw [List.take_succ_eq_append_getElem hk, List.mem_append, List.mem_singleton] at hm
  rcases hm with hm | hm
  · exact h.new m hm hno
  · obtain ⟨x, hx, h2, h3⟩ := hasE_iff.1 h1
    exact absurd (by rw [h3, hm]) (hno x hx h2)⟩
theorem Wb.put {l : List Mt} {k : Nat} {out : List Lb} (h : Wb l k out) (hk : k < l.length) (h1 : hasE l l[k].n = false) {v : ByteArray} (h2 : usedV l l[k].n v = false) : Wb l (k + 1) (withL out l[k].n v) := by
  have h3 : ∀ x ∈ l, x.k = 1 → x.n ≠ l[k].n := fun x hx hxk hn => by rw [hasE_iff.2 ⟨x, hx, hxk, hn⟩] at h1; cases h1
  refine ⟨fun m hm hmk => ?_, fun m hm hno x hx hn => ?_⟩
  · rw [with_other _ _ _ _ (eqS_no (h3 m hm hmk).symm)]
    exact h.eq m hm hmk
  · by_cases e : l[k].n = m.n
    · rw [← e, with_get]
      exact usedV_no h2 x hx (hn.trans e.symm)
    · rw [with_other _ _ _ _ (eqS_no e)]
      rw [List.take_succ_eq_append_getElem hk, List.mem_append, List.mem_singleton] at hm
      rcases hm with hm | hm
      · exact h.new m hm hno x hx hn
      · exact absurd (by rw [hm]) e
theorem Wb.wit {l : List Mt} {out : List Lb} (h : Wb l l.length out) : Wit l (getL out) := ⟨h.eq, fun m hm => h.new m (by rw [List.take_length]; exact hm)⟩
end Go.Proofs.YtdeppcddknakjaaGreatDoor.Mx
namespace Go.Proofs.YtdeppcddknakjaaGreatDoor.Mx
open Go.RowKit
open Go.Proofs.YtdeppcddknakjaaGreatDoor.Rx (EmpP SameP pfxS ChkP check)
theorem clone_any (l : List Mt) (hl : l.length ≤ 1000000) (A : Option Addr) (c : Nat) (w : World) (hA : MS w w.heap.size A l) : Calls Tryz.prog 30 #[.slice A l.length c] w (OwnP l w) := by
  by_cases h0 : l = []
  · subst h0
    have q22 : ∀ (w : World) (a : Option Addr) (n c n' c' : Nat), (binOp .eql 22 (.slice a n c) (.slice none n' c')).run Tryz.prog w = .ok (.bool a.isNone) w := fun w a n c n' c' => Lib.run_eql_slice_nil w _ _ a n c n' c' Tryz.underlying22
    cases A with
    | none =>
      refine (AnyE.slices_Clone_nil Tryz.cloneM 0 c w).mono fun e w' ⟨he, hw⟩ => ?_
      subst hw
      exact ⟨_, he, OwnT.nil _ _, Below.refl _ _⟩
    | some a =>
      obtain ⟨i0, hi, hz0, hz1, hz2⟩ := info_parts row25
      have B1 : Hid (Below w.heap.size w (w.alloc (.cells #[] 25))) := (Below.refl _ _).alloc (Nat.le_refl _) _
      have O1 : Hid ((w.alloc (.cells #[] 25)).ownsRow w.heap.size 25 3 (.slice (some ⟨w.heap.size, 0, none⟩) 0 0) 0 []) := World.ownsRow_made w #[] 0 (Nat.le_refl _) (by unfold maxLen; omega) (by simp)
      have hq := fun w => q22 w (some a) 0 c 0 0
      clear q22
      go_enter Tryz.func30, Tryz.ntmps30
      go_wp2_with (at_builtin; refine wpList_append_own _ rfl (.tmp 5) (.tmp 6) 22 rfl w.heap.size 25 i0 _ 3 40 Tryz.underlying22 hi hz0 hz1 hz2 rfl (by decide) _ _ _ rfl O1.out a 0 c [] rfl rfl (fun j u hu => by simp at hu) (by simp) (by simp only [maxLen]; omega) (by omega) (by simp) ?_; intro v5 w5 ho hg _; have HO' := Lib.hid ho; have HG := Lib.hid hg; clear ho hg)
      go_ret
      exact ⟨_, rfl, HO'.out, B1.out.grown HG.out (by simp) (fun g e => (World.ownsRow.lt O1.out g e).1)⟩
  · obtain ⟨b, off, rfl, hb, hc⟩ := hA h0
    refine (AnyE.slices_Clone Tryz.cloneM _ _ 3 40 (info_parts row25).choose_spec.1 (info_parts row25).choose_spec.2.1 (info_parts row25).choose_spec.2.2.1 (info_parts row25).choose_spec.2.2.2 rfl (by omega) Tryz.sizeOf25 b off l.length c (cel l) w (cel_length l) (by unfold maxLen; omega) (by omega) ?_ (cel_ones l)).mono fun e w' ⟨v', he, ho, _, hbl⟩ => ?_
    · intro j u hu
      have hj : j < l.length * 3 := by
        have := (List.getElem?_eq_some_iff.1 hu).1
        rwa [cel_length] at this
      have hj3 : j / 3 < l.length := by omega
      obtain ⟨a1, a2, a3⟩ := cel_at l (j / 3) hj3
      obtain ⟨b1, b2, b3⟩ := hc (j / 3) hj3
      have hr : j % 3 = 0 ∨ j % 3 = 1 ∨ j % 3 = 2 := by omega
      rcases hr with h | h | h
      · rw [show j = j / 3 * 3 by omega] at hu ⊢
        rw [a1] at hu
        cases hu
        rw [show off + j / 3 * 3 = off + j / 3 * 3 from rfl]
        have e : j / 3 * 3 / 3 = j / 3 := by omega
        simpa using b1
      · rw [show j = j / 3 * 3 + 1 by omega] at hu ⊢
        rw [a2] at hu
        cases hu
        rw [← Nat.add_assoc]
        exact b2
      · rw [show j = j / 3 * 3 + 2 by omega] at hu ⊢
        rw [a3] at hu
        cases hu
        rw [← Nat.add_assoc]
        exact b3
    · exact ⟨v', he, ho, hbl⟩
theorem reverse_own (l : List Mt) (hl : l.length ≤ 1000000) (v : Value) (B : Nat) (w : World) (hO : OwnT w B v l) : Calls Tryz.prog 31 #[v] w (SrtP v B l.reverse w) := by
  rcases hO.cases with ⟨rfl, rfl⟩ | ⟨g, cap, rfl, hB, hR⟩
  · refine (AnyQ.slices_Reverse_empty Tryz.revM none 0 w).mono fun e w' ⟨he, hw⟩ => ?_
    subst hw
    exact ⟨he, OwnT.nil _ _, grown_same _ _⟩
  · have h := AnyQ.slices_Reverse Tryz.revM 3 Tryz.isAgg25 Tryz.sizeOf25 encM (fun _ => rfl) (fun m v hv => by simp [encM] at hv; rcases hv with rfl | rfl | rfl <;> rfl) g 0 cap l.toArray w hR.holds (by simp; omega)
    refine h.mono fun e w' ⟨he, n, hw⟩ => ?_
    have e2 : Go.Sort.putRowK encM 3 (Go.Sort.ahead w n) g 0 l.toArray.reverse = sortWorldK encM 3 w g 0 n l.reverse.toArray #[] := by
      rw [List.reverse_toArray]
      unfold sortWorldK Go.Sort.grow
      simp
    obtain ⟨h1, h2⟩ := hR.sorted (L' := l.reverse) (List.length_reverse) n #[]
    have hw' : w' = sortWorldK encM 3 w g 0 n l.reverse.toArray #[] := hw.trans e2
    subst hw'
    refine ⟨he, ?_, h2⟩
    have h3 := h1.own hB
    rw [List.length_reverse] at h3
    exact h3
end Go.Proofs.YtdeppcddknakjaaGreatDoor.Mx
