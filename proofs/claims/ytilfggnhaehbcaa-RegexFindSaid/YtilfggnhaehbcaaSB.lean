/- Layer 6: Quote of the program. -/
import Derived.Test.YtilfggnhaehbcaaSA
set_option linter.unusedVariables false
set_option linter.unusedSimpArgs false
namespace Go.Proofs.Ytilfggnhaehbcaa.Rx
open Go.RowKit
theorem qs_cons (c : UInt8) (l : List UInt8) : quote (c :: l) = (if special c = true then [92, c] else [c]) ++ quote l := quote_cons c l
theorem drop_cons_ (s : ByteArray) {k : Nat} (h : k < s.size) : s.data.toList.drop k = s[k] :: s.data.toList.drop (k + 1) := by
  have hl : k < s.data.toList.length := by rw [size_len]; exact h
  rw [List.drop_eq_getElem_cons hl]
  rfl
theorem OwnB.grown_ {w w5 : World} {B : Nat} {v : Value} {l : List UInt8} {W : World} (h : OwnB W B v l) (hb : Below B w W) (o : Obj) (hB : B ≤ W.heap.size) (hg : (W.alloc o).grownBy w5 v.ownBlock) : Below B w w5 := Below.grown (hb.alloc hB o) hg (by rw [World.size_alloc]; omega) (fun g e => (h.lt g e).1)
/-- What Quote returns. -/
def QuoP (s : ByteArray) (w : World) (e : Ending) (w' : World) : Prop := e = .returned (.string ⟨(quote s.data.toList).toArray⟩) ∧ Hid (Below w.heap.size w w')
set_option maxHeartbeats 4000000 in
set_option maxRecDepth 100000 in
theorem quote_any (s : ByteArray) (hs : s.size ≤ 1000000) (w : World) : Calls Try.prog 19 #[.string s] w (QuoP s w) := by
  obtain ⟨i0, hi, hz0, hz1, hz2⟩ := info_parts info5
  have HI := Lib.hid hi
  have HZ0 := Lib.hid hz0
  have HZ1 := Lib.hid hz1
  have HZ2 := Lib.hid hz2
  clear hi hz0 hz1 hz2
  go_enter Try.func19, Try.ntmps19
  go_wp2_with fail
  go_loopw [3, 7] (fun v vi wr => ∃ (k : Nat) (m : List UInt8), k ≤ s.size ∧ vi = .int .i64 k ∧ m.length ≤ 2 * k ∧ Hid (OwnB wr w.heap.size v m) ∧ Hid (Below w.heap.size w wr) ∧ Hid (quote s.data.toList = m ++ quote (s.data.toList.drop k))) (fun v vi _ => s.size - (intOf vi).toNat)
  case atStart => exact ⟨0, [], Nat.zero_le _, rfl, Nat.zero_le _, OwnB.nil _ _, Below.refl _ _, rfl⟩
  case round =>
    obtain ⟨k, m, hk, rfl, hm, HO, HB, HQ⟩ := hrel
    by_cases hlt : k < s.size
    · have HD := Lib.hid (drop_cons_ s hlt)
      have HC := Lib.hid (quote_cons s[k] (s.data.toList.drop (k + 1)))
      have HSP : Hid (decide ((0 : Int) ≤ Lib.indexByte [46, 91, 93, 40, 41, 124, 42, 43, 63, 92] s[k]) = special s[k]) := by rw [indexByte_mem, special_mem]; exact rfl
      have hj0 : (0 : Int) ≤ (k : Int) := Int.natCast_nonneg _
      have hj1 : (k : Int) < (s.size : Int) := by omega
      have CX := Lib.hid (fun W => indexByte_any ⟨#[46, 91, 93, 40, 41, 124, 42, 43, 63, 92]⟩ s[k].toNat W)
      cases hsp : special s[k] with
      | true =>
        rw [hsp] at HSP HC
        have hge : (0 : Int) ≤ Lib.indexByte [46, 91, 93, 40, 41, 124, 42, 43, 63, 92] s[k] := of_decide_eq_true HSP.out
        go_wp2_with (first
          | (go_at_call 30; (with_reducible refine (CX.out _).mono ?_); rintro e wz ⟨rfl, rfl⟩)
          | (at_builtin; refine wpList_append_own_at _ rfl (.tmp 15) (.tmp 16) 41 rfl w.heap.size 5 i0 _ 1 1 Try.underlying41 HI.out HZ0.out HZ1.out HZ2.out rfl (by decide) u3 m.length _ rfl (OwnB.below HO.out ((Below.refl _ _).alloc (Nat.le_refl _) _)) ⟨wr.heap.size, 0, none⟩ 1 1 [.int .u8 92] rfl rfl (fun j u hu => by have h := (Blk.new wr 5 [.int .u8 92]).range j u hu; rw [Nat.zero_add] at h; rw [Addr.add_mid, Nat.zero_add]; exact h) (by simp [Value.oneCell']) (by simp only [maxLen, List.length_append, List.length_singleton]; omega) (by first | omega | (simp only [List.length_append, List.length_singleton]; omega)) (by have := HO.out.lt; have := HB.out.size; rw [World.size_alloc]; omega) ?_; intro v5 w5 ho5 hg5 _ _; have O5 := Lib.hid (OwnB.snoc (m := [92]) ho5 rfl rfl); have G5 := Lib.hid hg5; clear ho5 hg5; generalize hm1 : m ++ [92] = m1 at O5; have HM1 : Hid (m1 = m ++ [92]) := hm1.symm; have hml1 : m1.length ≤ 2 * k + 1 := (by rw [← hm1]; simp; omega); clear hm1)
          | (at_builtin; refine wpList_append_own_at _ rfl (.tmp 18) (.tmp 22) 41 rfl w.heap.size 5 i0 _ 1 1 Try.underlying41 HI.out HZ0.out HZ1.out HZ2.out rfl (by decide) v5 m1.length _ rfl (OwnB.below O5.out ((Below.refl _ _).alloc (Nat.le_refl _) _)) ⟨w5.heap.size, 0, none⟩ 1 1 [.int .u8 (s[k].toNat : Int)] rfl rfl (fun j u hu => by have h := (Blk.new w5 5 [.int .u8 (s[k].toNat : Int)]).range j u hu; rw [Nat.zero_add] at h; rw [Addr.add_mid, Nat.zero_add]; exact h) (by simp [Value.oneCell']) (by simp only [maxLen, List.length_append, List.length_singleton]; omega) (by first | omega | (simp only [List.length_append, List.length_singleton]; omega)) (by have := O5.out.lt; have := And.intro HB.out.size G5.out.size; rw [World.size_alloc] at this; rw [World.size_alloc]; omega) ?_; intro v6 w6 ho6 hg6 _ _; have O6 := Lib.hid (OwnB.snoc (m := [s[k]]) ho6 rfl rfl); have G6 := Lib.hid hg6; clear ho6 hg6))
        have B5 : Hid (Below w.heap.size w w5) := HO.out.grown_ HB.out _ HB.out.size G5.out
        have B6 : Hid (Below w.heap.size w w6) := O5.out.grown_ B5.out _ B5.out.size G6.out
        have HN : Hid (quote s.data.toList = (m1 ++ [s[k]]) ++ quote (s.data.toList.drop (k + 1))) := by
          show _ = _
          rw [HQ.out, HD.out, HC.out, HM1.out]
          simp
        go_roundw
        case rel => exact ⟨k + 1, _, by omega, by go_num, by simp; omega, O6, B6, HN⟩
        case measure => simp [intOf]; omega
      | false =>
        rw [hsp] at HSP HC
        have hge : Hid (¬ (0 : Int) ≤ Lib.indexByte [46, 91, 93, 40, 41, 124, 42, 43, 63, 92] s[k]) := of_decide_eq_false HSP.out
        have hlt0 : Lib.indexByte [46, 91, 93, 40, 41, 124, 42, 43, 63, 92] s[k] < 0 := by have := hge.out; omega
        go_wp2_with (first
          | (go_at_call 30; (with_reducible refine (CX.out _).mono ?_); rintro e wz ⟨rfl, rfl⟩)
          | (at_builtin; refine wpList_append_own_at _ rfl (.tmp 18) (.tmp 22) 41 rfl w.heap.size 5 i0 _ 1 1 Try.underlying41 HI.out HZ0.out HZ1.out HZ2.out rfl (by decide) u3 m.length _ rfl (OwnB.below HO.out ((Below.refl _ _).alloc (Nat.le_refl _) _)) ⟨wr.heap.size, 0, none⟩ 1 1 [.int .u8 (s[k].toNat : Int)] rfl rfl (fun j u hu => by have h := (Blk.new wr 5 [.int .u8 (s[k].toNat : Int)]).range j u hu; rw [Nat.zero_add] at h; rw [Addr.add_mid, Nat.zero_add]; exact h) (by simp [Value.oneCell']) (by simp only [maxLen, List.length_append, List.length_singleton]; omega) (by first | omega | (simp only [List.length_append, List.length_singleton]; omega)) (by have := HO.out.lt; have := HB.out.size; rw [World.size_alloc]; omega) ?_; intro v6 w6 ho6 hg6 _ _; have O6 := Lib.hid (OwnB.snoc (m := [s[k]]) ho6 rfl rfl); have G6 := Lib.hid hg6; clear ho6 hg6))
        have B6 : Hid (Below w.heap.size w w6) := HO.out.grown_ HB.out _ HB.out.size G6.out
        have HN : Hid (quote s.data.toList = (m ++ [s[k]]) ++ quote (s.data.toList.drop (k + 1))) := by
          show _ = _
          rw [HQ.out, HD.out, HC.out]
          simp
        go_roundw
        case rel => exact ⟨k + 1, _, by omega, by go_num, by simp; omega, O6, B6, HN⟩
        case measure => simp [intOf]; omega
    · obtain rfl : k = s.size := by omega
      have HE : Hid (quote s.data.toList = m) := by
        show _ = _
        rw [HQ.out, List.drop_of_length_le (by rw [size_len]; omega)]
        simp [quote]
      obtain ⟨A6, n6, cap6, hv6, hcv⟩ := HO.out.conv
      subst hv6
      clear HQ
      go_wp2_with fail
      go_ret
      exact ⟨by rw [HE.out]; rfl, HB.out⟩
end Go.Proofs.Ytilfggnhaehbcaa.Rx
