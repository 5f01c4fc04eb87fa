/- Layer 9: the reader's runs. -/
import Derived.Test.YtmeekciclfgkkaaDcG
set_option linter.unusedVariables false
set_option linter.unusedSimpArgs false
namespace Go.Proofs.Ytmeekciclfgkkaa.Dc
open Go.RowKit
def slN : Value → Nat
  | .slice _ n _ => n
  | _ => 0
/-- What is still to come: the runs r, behind l. -/
structure RunsAt (W : World) (B rb n : Nat) (ds : List Int) (rest : List UInt8) (v : Value) (l : List Int) (r : List (Int × Nat)) : Prop where
  own : W.ownsRow B 3 1 v l.length (ic l)
  rd : Rest W rb (runB r ++ rest)
  eq : l ++ expand r = ds
  ok : ∀ p ∈ r, (-1152921504606846976 ≤ p.1 ∧ p.1 ≤ 1152921504606846976) ∧ 1 ≤ p.2 ∧ p.2 ≤ 1000000
  len : (runB r ++ rest).length ≤ 4294967000
theorem expand_len_cons (x : Int) (k : Nat) (r : List (Int × Nat)) : (expand ((x, k) :: r)).length = k + (expand r).length := by rw [expand_cons, List.length_append, List.length_replicate]
def CutOut (w : World) (rb : Nat) (l : List Int) (rest : List UInt8) (e : Ending) (w' : World) : Prop :=
  ∃ v, e = .returned (.tuple #[v, .int .i64 0]) ∧ Ints w'.heap.size w' v l ∧ Rest w' rb rest ∧ w.grownBy w' (some rb)
theorem own_ne {w : World} {B rb n : Nat} {v : Value} {xs : List Value} (h : w.ownsRow B 3 1 v n xs) (hr : rb < B) : some rb ≠ v.ownBlock := fun e => by
  have := (h.lt rb e.symm).1
  omega
theorem own_next {w w' : World} {B rb n : Nat} {v : Value} {xs : List Value} (h : w.ownsRow B 3 1 v n xs) (hr : rb < B) (hg : w.grownBy w' (some rb)) : w'.ownsRow B 3 1 v n xs :=
  h.kept hg (.inr fun e => own_ne h hr e.symm)
theorem grown_far {w w1 w2 : World} {rb B n : Nat} {v : Value} {xs : List Value} (h : w.grownBy w1 (some rb)) (ho : w1.ownsRow B 3 1 v n xs) (hB : w.heap.size ≤ B) (hg : w1.grownBy w2 v.ownBlock) : w.grownBy w2 (some rb) :=
  h.andThen hg fun j e => .inl (by have := (ho.lt j e).1; omega)
theorem own_bound {w : World} {B n : Nat} {v : Value} {l : List Int} (h : w.ownsRow B 3 1 v l.length (ic l)) : l.length ≤ maxLen := by
  rcases h.2 with ⟨_, h0⟩ | ⟨g, cap, cur, _, _, _, h1, h2, _⟩
  · omega
  · omega
set_option maxHeartbeats 4000000 in
set_option maxRecDepth 100000 in
theorem runs_any (ds : List Int) (hd : ds.length ≤ 1000000) (hz : within 1152921504606846976 ds) (rest : List UInt8) (rb : Nat) (w : World) (hlt : rb < w.heap.size) (hl : (rleB ds ++ rest).length ≤ 4294967000) (hR : Rest w rb (rleB ds ++ rest)) :
    Calls Try.prog 35 #[.pointer (some ⟨rb, 0, none⟩), .int .i64 ds.length] w (CutOut w rb ds rest) := by
  obtain ⟨i0, hi, hz0, hz1, hz2⟩ := info_parts infoI
  have HS0 : Hid (RunsAt w w.heap.size rb ds.length ds rest (.slice none 0 0) [] (rle ds)) := ⟨World.ownsRow_nil _ _ _ _, hR, by rw [List.nil_append, expand_rle], fun p hp => by
    have h1 := rle_small ds p hp
    have h2 := rle_pos ds p hp
    have h3 := hz p.1 h1.2
    exact ⟨h3, h2, by omega⟩, hl⟩
  have HLT := Lib.hid hlt
  clear hR hz hl hlt
  generalize hn : ds.length = n at *
  have HN := Lib.hid hn
  clear hn
  go_enter Try.func35, Try.ntmps35
  go_wp2
  go_loopw [6] (fun vl wr => ∃ (l : List Int) (r : List (Int × Nat)) (A : Option Addr) (c : Nat), vl = .slice A l.length c ∧ Hid (RunsAt wr w.heap.size rb n ds rest vl l r) ∧ Hid (w.grownBy wr (some rb)))
    (fun vl _ => n - slN vl)
  case atStart => exact ⟨[], rle ds, none, 0, rfl, HS0, Lib.hid (World.grownBy.refl _ _)⟩
  case round =>
    clear HS0
    obtain ⟨l, r, A, c, rfl, HS, HG⟩ := hrel
    cases r with
    | nil =>
      have HE : Hid (l = ds) := by
        have := HS.out.eq
        rwa [expand_nil, List.append_nil] at this
      have hll : l.length = n := by rw [HE.out]; exact HN.out
      rw [hll] at HS ⊢
      have hq : ¬ ((n : Int) < n) := by omega
      have HLL := Lib.hid hll
      clear hll
      go_wp2
      go_ret2
      refine ⟨_, rfl, ?_, ?_, HG.out⟩
      · have h := HS.out.own
        rw [HE.out, HN.out] at h
        exact Ints.of_own (by rw [HN.out]; exact h) (Nat.le_refl _)
      · have h := HS.out.rd
        simpa [runB] using h
    | cons p r =>
      obtain ⟨x, k⟩ := p
      have hp := HS.out.ok (x, k) (List.mem_cons_self ..)
      dsimp only at hp
      obtain ⟨⟨hx1, hx2⟩, hk1, hk2⟩ := hp
      have heq := HS.out.eq
      have hlen : l.length + (k + (expand r).length) = n := by
        have h := congrArg List.length heq
        rw [List.length_append, expand_len_cons, HN.out] at h
        exact h
      have hR := HS.out.rd
      have hlb := HS.out.len
      rw [runB_cons, List.append_assoc, List.append_assoc] at hR hlb
      have HNS := Lib.hid (next_signed x (Lib.uvarint k ++ (runB r ++ rest)) rb wr hx1 hx2 hlb hR)
      have hlb2 : (Lib.uvarint k ++ (runB r ++ rest)).length ≤ 4294967000 := by rw [List.length_append] at hlb; omega
      have HNP : Hid (∀ v, Rest v rb (Lib.uvarint k ++ (runB r ++ rest)) → Calls Try.prog 32 #[.pointer (some ⟨rb, 0, none⟩), .func (.func 33) #[] #[]] v fun e w' => e = .returned (.tuple #[.int .i64 k, .int .i64 0]) ∧ Rest w' rb (runB r ++ rest) ∧ v.grownBy w' (some rb)) := Lib.hid fun v hv => next_plain k (runB r ++ rest) rb v (by omega) hlb2 hv
      have HO0 := Lib.hid HS.out.own
      have HEQ := Lib.hid heq
      have HOK := Lib.hid (fun p hp => HS.out.ok p (List.mem_cons_of_mem _ hp))
      have HLB : Hid ((runB r ++ rest).length ≤ 4294967000) := Lib.hid (by rw [List.length_append] at hlb2; omega)
      have hq1 : (l.length : Int) < n := by omega
      have hq2 : ((k : Int) == 0) = false := by rw [beq_eq_false_iff_ne]; omega
      have hw : wrap64 ((n : Int) - l.length) = ((n - l.length : Nat) : Int) := by unfold wrap64; omega
      have hq3 : ¬ (((n - l.length : Nat) : Int) < (k : Int)) := by omega
      have hq4 : ¬ ((n : Int) - l.length < (k : Int)) := by omega
      have HLN := Lib.hid hlen
      have hnb : n ≤ 1000000 := by omega
      clear HS heq hR hlb hlb2 hlen hx1 hx2
      go_wp2_with fail
      refine HNS.out.mono ?_
      rintro e w1 ⟨rfl, hr1, hg1⟩
      have R1 := Lib.hid hr1
      have G1 := Lib.hid (HG.out.trans hg1)
      have O1 := Lib.hid (own_next HO0.out HLT.out hg1)
      clear hr1 hg1 HNS HO0 HG
      go_wp2_with fail
      refine (HNP.out _ R1.out).mono ?_
      rintro e w2 ⟨rfl, hr2, hg2⟩
      have R2 := Lib.hid hr2
      have G2 := Lib.hid (G1.out.trans hg2)
      have O2 := Lib.hid (own_next O1.out HLT.out hg2)
      clear hr2 hg2 HNP R1 G1 O1
      go_wp2
      go_loopw [6, 41] (fun vl vj wr => ∃ (j : Nat) (A : Option Addr) (c : Nat), j ≤ k ∧ vl = .slice A (l.length + j) c ∧ vj = .int .i64 j ∧ Hid (wr.ownsRow w.heap.size 3 1 vl (l.length + j) (ic (l ++ List.replicate j x))) ∧ Hid (Rest wr rb (runB r ++ rest)) ∧ Hid (w.grownBy wr (some rb)))
        (fun _ vj _ => k - (intOf vj).toNat)
      case atStart => exact ⟨0, A, c, Nat.zero_le _, rfl, rfl, Lib.hid (by have h := O2.out; simpa using h), R2, G2⟩
      case round =>
        clear O2 R2 G2
        obtain ⟨j, A, c, hj, rfl, rfl, HO, HR, HG⟩ := hrel
        by_cases hjk : j < k
        · have hi' : (j : Int) < k := by omega
          have hsz : w.heap.size ≤ wr.heap.size := HG.out.size
          have HT : Hid (ic (l ++ List.replicate (j + 1) x) = ic (l ++ List.replicate j x) ++ [.int .i64 x]) := Lib.hid (by rw [List.replicate_succ', ← List.append_assoc, ← ic_app]; rfl)
          have hlj : l.length + j + 1 ≤ 1000000 := by have := HLN.out; omega
          clear HEQ HOK HLB
          go_wp2_with (at_builtin; refine wpList_append_own _ rfl _ _ 22 rfl w.heap.size 3 i0 (.int .i64 0) 1 8 Try.underlying22 hi hz0 hz1 hz2 rfl (by decide) _ (l.length + j) _ rfl (HO.out.alloc _) ⟨wr.heap.size, 0, none⟩ 1 1 [.int .i64 x] rfl rfl (cell_one_new _ _ _) (by simp [Value.oneCell']) (by unfold maxLen; omega) (by omega) (by simp; omega) ?_; intro v4 w4 hown4 hgrow4 _; have G4 := Lib.hid (grown_far (HG.out.trans (World.grownBy_alloc _ _ _)) (HO.out.alloc _) (Nat.le_refl _) hgrow4); have R4 := Lib.hid (Rest.kept (HR.out.kept (World.grownBy_alloc _ _ none) (by simp)) hgrow4 (own_ne HO.out HLT.out)); have O4 := Lib.hid hown4; clear hown4 hgrow4)
          obtain ⟨A4, c4, rfl⟩ := own_form O4.out
          go_roundw
          case rel => exact ⟨j + 1, A4, c4, by omega, by rw [Nat.add_assoc], by go_num, Lib.hid (by rw [HT.out]; exact O4.out), R4, G4⟩
          case measure => simp [intOf]; omega
        · obtain rfl : j = k := by omega
          have hln := HLN.out
          have HX : Hid ((l ++ List.replicate j x).length = l.length + j) := Lib.hid (by simp)
          have HEX : Hid ((l ++ List.replicate j x) ++ expand r = ds) := Lib.hid (by rw [← HEQ.out, expand_cons, List.append_assoc])
          clear hln
          go_wp2
          go_roundw
          case rel => exact ⟨l ++ List.replicate j x, r, A, c, by rw [HX.out], Lib.hid ⟨by rw [HX.out]; exact HO.out, HR.out, HEX.out, HOK.out, HLB.out⟩, HG⟩
          case measure => simp [slN]; have := HLN.out; omega
end Go.Proofs.Ytmeekciclfgkkaa.Dc
