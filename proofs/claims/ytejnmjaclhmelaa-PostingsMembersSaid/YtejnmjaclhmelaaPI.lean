/- Layer 8: the reference's Decode. -/
import Derived.Test.YtejnmjaclhmelaaPH
set_option linter.unusedVariables false
set_option linter.unusedSimpArgs false
namespace Go.Proofs.Ytejnmjaclhmelaa.Po
open Go.RowKit
/-- What is left to be read, behind acc; b: the least that may come. -/
def goR (cnt : Nat) (acc : List Int) (b : Int) (t : List UInt8) : Option (List Int) := match decG (cnt - acc.length) b t with
  | some (r, []) => some (acc ++ r)
  | _ => none
theorem dec_start {l : List UInt8} (h : (rd 1152921504606846976 0 0 l).2.2 = 0) : decP l = goR (rd 1152921504606846976 0 0 l).1 [] 0 (l.drop (rd 1152921504606846976 0 0 l).2.1) := by
  show decP l = goR (rd topN 0 0 l).1 [] 0 (l.drop (rd topN 0 0 l).2.1)
  have h' : (rd topN 0 0 l).2.2 = 0 := h
  unfold decP goR
  rw [if_neg (by simp [h'])]
  simp only [List.length_nil, Nat.sub_zero, List.nil_append]
  cases decG (rd topN 0 0 l).1 0 (l.drop (rd topN 0 0 l).2.1) with
  | none => rfl
  | some p =>
    obtain ⟨r, u⟩ := p
    cases u <;> rfl
theorem dec_no {l : List UInt8} (h : (rd 1152921504606846976 0 0 l).2.2 ≠ 0) : decP l = none := by
  have h' : (rd topN 0 0 l).2.2 ≠ 0 := h
  unfold decP
  rw [if_pos h']
theorem goR_err {cnt : Nat} {acc : List Int} {b : Int} {t : List UInt8} (hk : acc.length < cnt) (h : (rd 1152921504606846976 0 0 t).2.2 ≠ 0) : goR cnt acc b t = none := by
  have h' : (rd topN 0 0 t).2.2 ≠ 0 := h
  obtain ⟨m, hm⟩ : ∃ m, cnt - acc.length = m + 1 := ⟨cnt - acc.length - 1, by omega⟩
  unfold goR
  rw [hm, decG_bad h']
theorem goR_far {cnt : Nat} {acc : List Int} {b : Int} {t : List UInt8} (hk : acc.length < cnt) (h : (rd 1152921504606846976 0 0 t).2.2 = 0) (h2 : top < b + (rd 1152921504606846976 0 0 t).1) : goR cnt acc b t = none := by
  have h' : (rd topN 0 0 t).2.2 = 0 := h
  obtain ⟨m, hm⟩ : ∃ m, cnt - acc.length = m + 1 := ⟨cnt - acc.length - 1, by omega⟩
  unfold goR
  rw [hm, decG_far h' h2]
theorem goR_ok {cnt : Nat} {acc : List Int} {b : Int} {t : List UInt8} (hk : acc.length < cnt) (h : (rd 1152921504606846976 0 0 t).2.2 = 0) (h2 : ¬ top < b + (rd 1152921504606846976 0 0 t).1) :
    goR cnt acc b t = goR cnt (acc ++ [b + (rd 1152921504606846976 0 0 t).1]) (b + (rd 1152921504606846976 0 0 t).1 + 1) (t.drop (rd 1152921504606846976 0 0 t).2.1) := by
  show goR cnt acc b t = goR cnt (acc ++ [b + (rd topN 0 0 t).1]) (b + (rd topN 0 0 t).1 + 1) (t.drop (rd topN 0 0 t).2.1)
  have h' : (rd topN 0 0 t).2.2 = 0 := h
  have h2' : ¬ top < b + (rd topN 0 0 t).1 := h2
  obtain ⟨m, hm⟩ : ∃ m, cnt - acc.length = m + 1 := ⟨cnt - acc.length - 1, by omega⟩
  have hm2 : cnt - (acc ++ [b + ((rd topN 0 0 t).1 : Int)]).length = m := by rw [List.length_append, List.length_singleton]; omega
  unfold goR
  rw [hm, hm2, decG_go h' h2']
  cases hd : decG m (b + (rd topN 0 0 t).1 + 1) (t.drop (rd topN 0 0 t).2.1) with
  | none => rfl
  | some p =>
    obtain ⟨r, u⟩ := p
    cases u with
    | nil => simp
    | cons c u => rfl
theorem goR_end {cnt : Nat} {acc : List Int} {b : Int} {t : List UInt8} (hk : ¬ acc.length < cnt) (h : t = []) : goR cnt acc b t = some acc := by
  unfold goR
  rw [show cnt - acc.length = 0 by omega, h]
  show some (acc ++ []) = _
  rw [List.append_nil]
theorem goR_more {cnt : Nat} {acc : List Int} {b : Int} {t : List UInt8} (hk : ¬ acc.length < cnt) (h : t ≠ []) : goR cnt acc b t = none := by
  unfold goR
  rw [show cnt - acc.length = 0 by omega]
  cases t with
  | nil => exact absurd rfl h
  | cons c t => rfl
theorem decO_some {s : List UInt8} {l : List Int} (h : decP s = some l) : decO s = (l, 0) := by unfold decO; rw [h]
theorem decO_none {s : List UInt8} (h : decP s = none) : decO s = ([], 12) := by unfold decO; rw [h]
def slLen : Value → Nat
  | .slice _ n _ => n
  | _ => 0
theorem own_form {W : World} {B e size n : Nat} {v : Value} {xs : List Value} (h : W.ownsRow B e size v n xs) : ∃ A c, v = .slice A n c := by
  rcases h.2 with ⟨rfl, h0⟩ | ⟨g, cap, cur, rfl, _⟩
  · exact ⟨none, 0, by rw [h0]⟩
  · exact ⟨_, _, rfl⟩
def DecOut (w : World) (r : List Int × Int) (e : Ending) (w' : World) : Prop := ∃ v, e = .returned (.tuple #[v, .int .i64 r.2]) ∧ Ints w'.heap.size w' v r.1 ∧ Below w.heap.size w w'
theorem rd_sz {most : Nat} {l : List UInt8} : (rd most 0 0 l).2.1 ≤ l.length := by
  by_cases h : (rd most 0 0 l).2.2 = 0
  · obtain ⟨m, k, _, _, h3, _, h5, _⟩ := rd_ok most l 0 0 h
    rw [h3]; omega
  · rw [(rd_err most l 0 0 h).2]; omega
theorem rd_one {most : Nat} {l : List UInt8} (h : (rd most 0 0 l).2.2 = 0) : 1 ≤ (rd most 0 0 l).2.1 := by
  obtain ⟨m, k, _, _, h3, h4, _⟩ := rd_ok most l 0 0 h
  rw [h3]; omega
theorem ex_size (t : ByteArray) (k : Nat) : (t.extract k t.size).size = t.size - k := by simp
theorem size_nil {t : ByteArray} (h : ¬ 0 < t.size) : t.data.toList = [] := by
  have h2 : t.data.toList.length = t.size := Array.length_toList
  exact List.length_eq_zero_iff.1 (by rw [h2]; omega)
theorem size_cons {t : ByteArray} (h : 0 < t.size) : t.data.toList ≠ [] := by
  intro e
  have h1 := congrArg List.length e
  have h2 : t.data.toList.length = t.size := Array.length_toList
  rw [h2] at h1
  simp only [List.length_nil] at h1
  omega
theorem bemp_true {s : ByteArray} (h : ¬ 0 < s.size) : s.toList.isEmpty = true := by
  rw [ByteArray.toList_eq, List.isEmpty_iff]
  exact size_nil h
theorem bemp_false {s : ByteArray} (h : 0 < s.size) : s.toList.isEmpty = false := by
  rw [ByteArray.toList_eq, List.isEmpty_eq_false_iff]
  exact size_cons h

set_option maxHeartbeats 4000000 in
set_option maxRecDepth 100000 in
theorem pDecode_any (s : ByteArray) (hs : s.size ≤ 1000000) (w : World) : Calls Try.prog 30 #[.string s] w (DecOut w (decO s.data.toList)) := by
  obtain ⟨i0, hi, hz0, hz1, hz2⟩ := info_parts infoI
  have hg := refRead_any s w
  have h1 := @dec_no s.data.toList
  have h2 := @dec_start s.data.toList
  have h4 := @rd_sz 1152921504606846976 s.data.toList
  have h5 := rd_le 1152921504606846976 s.data.toList
  have hsl : s.data.toList.length = s.size := Array.length_toList
  have hx0 := Lib.extract_to_end s (rd 1152921504606846976 0 0 s.data.toList).2.1
  have CR : Hid (∀ (t : ByteArray) (v : World), Calls Try.prog 49 #[.string t] v fun e w' => e = .returned (.tuple #[.int .i64 ((rd 1152921504606846976 0 0 t.data.toList).1 : Nat), .int .i64 ((rd 1152921504606846976 0 0 t.data.toList).2.1 : Nat), .int .i64 ((rd 1152921504606846976 0 0 t.data.toList).2.2 : Nat)]) ∧ v = w') := Lib.hid fun t v => refRead_any t v
  generalize rd 1152921504606846976 0 0 s.data.toList = r at *
  obtain ⟨cnt, at0, er0⟩ := r
  dsimp only at *
  have HG := Lib.hid hg
  have hat : at0 ≤ s.size := by omega
  have HT : Hid ((s.extract at0 s.size).size ≤ s.size ∧ (er0 = 0 → decP s.data.toList = goR cnt [] (-1 + 1) (s.extract at0 s.size).data.toList) ∧ (er0 ≠ 0 → decP s.data.toList = none)) := Lib.hid ⟨by rw [ex_size]; omega, fun h => by rw [hx0]; exact h2 h, h1⟩
  generalize hL : s.data.toList = L at *
  clear hg h1 h2 h4 hx0
  go_enter Try.func30, Try.ntmps30
  go_wp2_with (go_at_call 49; (with_reducible refine HG.out.mono ?_); rintro e w1 ⟨rfl, rfl⟩)
  have O0 : Hid ((w.alloc (.cells #[] 3)).ownsRow w.heap.size 3 1 (.slice (some ⟨w.heap.size, 0, none⟩) 0 0) 0 []) := Lib.hid (World.ownsRow_made w #[] 0 (Nat.le_refl _) (by unfold maxLen; omega) (by simp))
  have B0 : Hid (Below w.heap.size w (w.alloc (.cells #[] 3))) := (Below.refl _ _).alloc (Nat.le_refl _) _
  generalize s.extract at0 s.size = t0 at *
  clear HG
  go_loopw [0, 6, 7, 8] (fun vs ve vo vl wr => ∃ (t : ByteArray) (er : Nat) (acc : List Int) (last : Int), vs = .string t ∧ ve = .int .i64 er ∧ vl = .int .i64 last ∧ t.size ≤ s.size ∧ acc.length ≤ s.size + 1 ∧ -1 ≤ last ∧ last ≤ 3000000000000000000 ∧ slLen vo = acc.length ∧
      Hid (er = 0 → acc.length + t.size ≤ s.size ∧ last ≤ 1152921504606846976 ∧ decP L = goR cnt acc (last + 1) t.data.toList) ∧ Hid (er ≠ 0 → decP L = none) ∧ Hid (wr.ownsRow w.heap.size 3 1 vo acc.length (ic acc)) ∧ Hid (Below w.heap.size w wr))
    (fun _ _ vo _ _ => cnt - slLen vo)
  case atStart => exact ⟨t0, er0, [], -1, rfl, rfl, rfl, HT.out.1, by simp, by omega, by omega, rfl, Lib.hid fun h => ⟨by have := HT.out.1; simpa using this, by omega, HT.out.2.1 h⟩, Lib.hid HT.out.2.2, O0, B0⟩
  case round =>
    clear HT O0 B0
    obtain ⟨t, er, acc, last, rfl, rfl, rfl, ht, hal, hl1, hl2, hsl2, HZ, HN, HO, HB⟩ := hrel
    obtain ⟨A, c, rfl⟩ := own_form HO.out
    clear hsl2
    by_cases he : er = 0
    · subst he
      obtain ⟨hat2, hl3, hgo⟩ := HZ.out rfl
      have HD := Lib.hid hgo
      clear HZ HN hgo
      by_cases hlt : acc.length < cnt
      · have HR := CR.out t wr
        have n1 := @goR_err cnt acc (last + 1) t.data.toList hlt
        have n2 := @goR_far cnt acc (last + 1) t.data.toList hlt
        have n3 := @goR_ok cnt acc (last + 1) t.data.toList hlt
        have n4 := @rd_sz 1152921504606846976 t.data.toList
        have n5 := rd_le 1152921504606846976 t.data.toList
        have n6 := @rd_one 1152921504606846976 t.data.toList
        have htl : t.data.toList.length = t.size := Array.length_toList
        have hx1 := Lib.extract_to_end t (rd 1152921504606846976 0 0 t.data.toList).2.1
        rw [htl] at n4
        generalize rd 1152921504606846976 0 0 t.data.toList = r at *
        obtain ⟨x, kk, e⟩ := r
        dsimp only at *
        have hes := ex_size t kk
        have HRR := Lib.hid HR
        have N1 := Lib.hid n1
        have N2 := Lib.hid n2
        have N3 := Lib.hid n3
        have N6 := Lib.hid n6
        have HX1 := Lib.hid hx1
        have hi' : (acc.length : Int) < cnt := by omega
        clear HR n1 n2 n3 n6 hx1 htl
        have hw1 : IntKind.i64.wrap (1152921504606846976 - last) = 1152921504606846976 - last := IntWalk.i64_in _ (by omega)
        have hw2 : IntKind.i64.wrap (1152921504606846976 - last - 1) = 1152921504606846976 - last - 1 := IntWalk.i64_in _ (by omega)
        have hw3 : IntKind.i64.wrap (last + 1) = last + 1 := IntWalk.i64_in _ (by omega)
        have hw4 : IntKind.i64.wrap (last + 1 + x) = last + 1 + x := IntWalk.i64_in _ (by omega)
        have key : ∀ (er' : Nat) (W : World) (v' : Value), (er' = 0 → acc.length + 1 + (t.size - kk) ≤ s.size ∧ last + 1 + x ≤ 1152921504606846976 ∧ decP L = goR cnt (acc ++ [last + 1 + (x : Int)]) (last + 1 + x + 1) (t.extract kk t.size).data.toList) → (er' ≠ 0 → decP L = none) → W.ownsRow w.heap.size 3 1 v' (acc.length + 1) (ic acc ++ [.int .i64 (last + 1 + x)]) → Below w.heap.size w W →
            ∃ (t' : ByteArray) (er : Nat) (acc' : List Int) (last' : Int), Value.string (t.extract kk t.size) = .string t' ∧ Value.int .i64 (er' : Int) = .int .i64 er ∧ Value.int .i64 (last + 1 + x) = .int .i64 last' ∧ t'.size ≤ s.size ∧ acc'.length ≤ s.size + 1 ∧ -1 ≤ last' ∧ last' ≤ 3000000000000000000 ∧ slLen v' = acc'.length ∧
              Hid (er = 0 → acc'.length + t'.size ≤ s.size ∧ last' ≤ 1152921504606846976 ∧ decP L = goR cnt acc' (last' + 1) t'.data.toList) ∧ Hid (er ≠ 0 → decP L = none) ∧ Hid (W.ownsRow w.heap.size 3 1 v' acc'.length (ic acc')) ∧ Hid (Below w.heap.size w W) := fun er' W v' k1 k2 k3 k4 => by
          refine ⟨_, er', acc ++ [last + 1 + (x : Int)], _, rfl, rfl, rfl, by rw [hes]; omega, by rw [List.length_append, List.length_singleton]; omega, by omega, by omega, ?_, Lib.hid fun h => ?_, Lib.hid k2, Lib.hid ?_, Lib.hid k4⟩
          · obtain ⟨A', c', e'⟩ := own_form k3
            rw [e', List.length_append, List.length_singleton]
            rfl
          · obtain ⟨a1, a2, a3⟩ := k1 h
            refine ⟨by rw [List.length_append, List.length_singleton, hes]; exact a1, a2, a3⟩
          · rw [List.length_append, List.length_singleton]
            unfold ic at k3 ⊢
            rw [List.map_append]
            exact k3
        have KEY := Lib.hid key
        clear key
        by_cases he : e = 0
        · subst he
          by_cases hfar : 1152921504606846976 - last - 1 < x
          · have HE := Lib.hid (HD.out.trans (N2.out rfl (by unfold top; omega)))
            clear N1 N2 N3 N6 HD
            go_wp2_with (first
              | (go_at_call 49; (with_reducible refine HRR.out.mono ?_); rintro e w1 ⟨rfl, rfl⟩)
              | (at_builtin; refine wpList_append_own _ rfl _ _ 22 rfl w.heap.size 3 i0 (.int .i64 0) 1 8 Try.underlying22 hi hz0 hz1 hz2 rfl (by decide) _ _ _ rfl (HO.out.alloc _) ⟨wr.heap.size, 0, none⟩ 1 1 [Value.int .i64 (last + 1 + x)] rfl rfl (fun j u hj => by (match j, hj with | 0, hj => (simp at hj; subst hj; simp [Addr.add]))) (fun u hu => by (simp at hu; subst hu; rfl)) (by unfold maxLen; omega) (by omega) (by have := HB.out.size; simp; omega) ?_; intro v4 w4 hown4 hgrow4 _; have B4 := Lib.hid ((HB.out.alloc (by have := HB.out.size; omega) _).grown hgrow4 (by have := HB.out.size; simp; omega) (fun k hk => (HO.out.lt k hk).1)); have O4 := Lib.hid hown4; clear hown4 hgrow4))
            go_roundw
            case rel => exact KEY.out 12 _ _ (fun h => absurd h (by decide)) (fun _ => HE.out) O4.out B4.out
            case measure => obtain ⟨A', c', e'⟩ := own_form O4.out; simp [e', slLen]; omega
          · have HE := Lib.hid (HD.out.trans (N3.out rfl (by unfold top; omega)))
            have h6 := N6.out rfl
            have hnf : ¬ (1152921504606846976 - last - 1 < (x : Int)) := hfar
            clear N1 N2 N3 N6 HD
            go_wp2_with (first
              | (go_at_call 49; (with_reducible refine HRR.out.mono ?_); rintro e w1 ⟨rfl, rfl⟩)
              | (at_builtin; refine wpList_append_own _ rfl _ _ 22 rfl w.heap.size 3 i0 (.int .i64 0) 1 8 Try.underlying22 hi hz0 hz1 hz2 rfl (by decide) _ _ _ rfl (HO.out.alloc _) ⟨wr.heap.size, 0, none⟩ 1 1 [Value.int .i64 (last + 1 + x)] rfl rfl (fun j u hj => by (match j, hj with | 0, hj => (simp at hj; subst hj; simp [Addr.add]))) (fun u hu => by (simp at hu; subst hu; rfl)) (by unfold maxLen; omega) (by omega) (by have := HB.out.size; simp; omega) ?_; intro v4 w4 hown4 hgrow4 _; have B4 := Lib.hid ((HB.out.alloc (by have := HB.out.size; omega) _).grown hgrow4 (by have := HB.out.size; simp; omega) (fun k hk => (HO.out.lt k hk).1)); have O4 := Lib.hid hown4; clear hown4 hgrow4))
            go_roundw
            case rel => exact KEY.out 0 _ _ (fun _ => ⟨by omega, by omega, by rw [HX1.out]; exact HE.out⟩) (fun h => absurd rfl h) O4.out B4.out
            case measure => obtain ⟨A', c', e'⟩ := own_form O4.out; simp [e', slLen]; omega
        · have HE := Lib.hid (HD.out.trans (N1.out he))
          have he1 : ((e : Int) == 0) = false := by rw [beq_eq_false_iff_ne]; omega
          have Hne := Lib.hid he
          clear N1 N2 N3 N6 HD he
          go_wp2_with (first
            | (go_at_call 49; (with_reducible refine HRR.out.mono ?_); rintro e w1 ⟨rfl, rfl⟩)
            | (at_builtin; refine wpList_append_own _ rfl _ _ 22 rfl w.heap.size 3 i0 (.int .i64 0) 1 8 Try.underlying22 hi hz0 hz1 hz2 rfl (by decide) _ _ _ rfl (HO.out.alloc _) ⟨wr.heap.size, 0, none⟩ 1 1 [Value.int .i64 (last + 1 + x)] rfl rfl (fun j u hj => by (match j, hj with | 0, hj => (simp at hj; subst hj; simp [Addr.add]))) (fun u hu => by (simp at hu; subst hu; rfl)) (by unfold maxLen; omega) (by omega) (by have := HB.out.size; simp; omega) ?_; intro v4 w4 hown4 hgrow4 _; have B4 := Lib.hid ((HB.out.alloc (by have := HB.out.size; omega) _).grown hgrow4 (by have := HB.out.size; simp; omega) (fun k hk => (HO.out.lt k hk).1)); have O4 := Lib.hid hown4; clear hown4 hgrow4))
          go_roundw
          case rel => exact KEY.out _ _ _ (fun h => absurd h Hne.out) (fun _ => HE.out) O4.out B4.out
          case measure => obtain ⟨A', c', e'⟩ := own_form O4.out; simp [e', slLen]; omega
      · have hnlt : ¬ (acc.length : Int) < cnt := by omega
        by_cases hend : 0 < t.size
        · have HE := Lib.hid (decO_none (HD.out.trans (goR_more hlt (size_cons hend))))
          have hb1 := bemp_false hend
          clear HD
          go_wp2
          go_ret2
          rw [HE.out]
          exact ⟨_, rfl, (Ints.empty (B := w.heap.size) HB.out.size (Nat.le_refl _)).mono (by simp), HB.out.alloc HB.out.size _⟩
        · have HE := Lib.hid (decO_some (HD.out.trans (goR_end hlt (size_nil hend))))
          have hb1 := bemp_true hend
          clear HD
          go_wp2
          go_ret2
          rw [HE.out]
          exact ⟨_, rfl, Ints.of_own HO.out (Nat.le_refl _), HB.out⟩
    · have HE := Lib.hid (decO_none (HN.out he))
      have he1 : ((er : Int) == 0) = false := by rw [beq_eq_false_iff_ne]; omega
      have he2 : ((er : Int) != 0) = true := by rw [bne_iff_ne]; omega
      clear HZ HN
      go_wp2
      go_ret2
      rw [HE.out]
      exact ⟨_, rfl, (Ints.empty (B := w.heap.size) HB.out.size (Nat.le_refl _)).mono (by simp), HB.out.alloc HB.out.size _⟩
end Go.Proofs.Ytejnmjaclhmelaa.Po
