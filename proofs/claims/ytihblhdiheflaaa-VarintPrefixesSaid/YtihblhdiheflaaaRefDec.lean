/- The contract of the reference's Decode. -/
import Derived.Test.YtihblhdiheflaaaDec
namespace Go.Proofs.Ytihblhdiheflaaa
open Go.RowKit

/-- What is left to be decoded of a list. -/
def LeftL (l : List UInt8) (n : Nat) (t : ByteArray) (acc : List Int) : Prop := dec l = decN n t.data.toList acc

theorem leftL_err {l : List UInt8} {cnt k : Nat} {t : ByteArray} {acc : List Int} (h : LeftL l (cnt - k) t acc) (hk : k < cnt) (he : (rd 2305843009213693952 0 0 t.data.toList).2.2 ≠ 0) : dec l = ([], (rd 2305843009213693952 0 0 t.data.toList).2.2) := by
  unfold LeftL at h
  obtain ⟨m, hm⟩ : ∃ m, cnt - k = m + 1 := ⟨cnt - k - 1, by omega⟩
  rw [h, hm, decN, if_pos he]
theorem leftL_ok {l : List UInt8} {cnt k : Nat} {t : ByteArray} {acc : List Int} (h : LeftL l (cnt - k) t acc) (hk : k < cnt) (he : (rd 2305843009213693952 0 0 t.data.toList).2.2 = 0) :
    (rd 2305843009213693952 0 0 t.data.toList).2.1 ≤ t.size ∧ LeftL l (cnt - (k + 1)) (t.extract (rd 2305843009213693952 0 0 t.data.toList).2.1 t.size) (acc ++ [unfold (rd 2305843009213693952 0 0 t.data.toList).1]) := by
  unfold LeftL at *
  obtain ⟨m, hm⟩ : ∃ m, cnt - k = m + 1 := ⟨cnt - k - 1, by omega⟩
  constructor
  · have := rd_size he
    simpa using this
  · rw [h, hm, decN, if_neg (by simpa using he), Lib.extract_to_end, show cnt - (k + 1) = m by omega]
theorem leftL_more {l : List UInt8} {cnt k : Nat} {t : ByteArray} {acc : List Int} (h : LeftL l (cnt - k) t acc) (hk : ¬ k < cnt) (ha : 0 < t.size) : dec l = ([], 12) := by
  unfold LeftL at h
  rw [h, show cnt - k = 0 by omega, decN, if_neg]
  intro e
  have h1 := congrArg List.length e
  have h2 : t.data.toList.length = t.size := Array.length_toList
  rw [h2] at h1
  simp only [List.length_nil] at h1
  omega
theorem leftL_end {l : List UInt8} {cnt k : Nat} {t : ByteArray} {acc : List Int} (h : LeftL l (cnt - k) t acc) (hk : ¬ k < cnt) (ha : ¬ 0 < t.size) : dec l = (acc, 0) := by
  unfold LeftL at h
  rw [h, show cnt - k = 0 by omega, decN, if_pos]
  have h2 : t.data.toList.length = t.size := Array.length_toList
  exact List.length_eq_zero_iff.1 (by rw [h2]; omega)

set_option maxHeartbeats 1000000 in
set_option maxRecDepth 100000 in
theorem refDecode_any (s : ByteArray) (hs : s.size ≤ 1000) (w : World) : Calls Try.prog 24 #[.string s] w (DecPost w (dec s.data.toList)) := by
  obtain ⟨i0, hi, hz0, hz1, hz2⟩ := info_parts Try.info3
  have hg := refRead_any s w
  have h1 := @dec_err s.data.toList
  have h2 := @dec_long s.data.toList
  have h3 := @dec_go s.data.toList
  have h4 := @rd_size 1152921504606846976 s.data.toList
  generalize rd 1152921504606846976 0 0 s.data.toList = r at *
  obtain ⟨cnt, at0, er⟩ := r
  dsimp only at *
  have HG := Lib.hid hg
  have H1 := Lib.hid h1
  have H2 := Lib.hid h2
  have H3 := Lib.hid h3
  have H4 := Lib.hid h4
  clear hg h1 h2 h3 h4
  by_cases he : er = 0
  · subst he
    by_cases hc : 20000 < cnt
    · have HD := Lib.hid (H2.out rfl hc)
      go_enter Try.func24, Try.ntmps24
      go_wp2_with fail
      refine HG.out.mono ?_
      clear HG H1 H2 H3 H4
      rintro e' w1 ⟨rfl, rfl⟩
      go_wp2
      go_ret2
      rw [HD.out]
      exact ⟨_, rfl, World.ownsRow_made w #[] 0 (Nat.le_refl _) (by unfold maxLen; omega) (by simp), (Below.refl _ _).alloc (Nat.le_refl _) _⟩
    · have HD := Lib.hid (H3.out rfl hc)
      have hat : at0 ≤ s.size := by simpa using H4.out rfl
      obtain ⟨l, hl⟩ : ∃ l, s.data.toList = l := ⟨_, rfl⟩
      have HX : Hid (LeftL l (cnt - 0) (s.extract at0 s.size) []) := by
        show LeftL l (cnt - 0) (s.extract at0 s.size) []
        unfold LeftL
        rw [Lib.extract_to_end, ← hl]
        exact HD.out
      have hts : (s.extract at0 s.size).size ≤ 1000 := by simp; omega
      rw [hl]
      have HG' : Hid (Calls Try.prog 18 #[.string s] w fun e w' => e = .returned (.tuple #[.int .i64 cnt, .int .i64 at0, .int .i64 0]) ∧ w = w') := HG
      clear HG HD hl H1 H2 H3 H4
      go_enter Try.func24, Try.ntmps24
      go_wp2_with fail
      refine HG'.out.mono ?_
      clear HG'
      rintro e' w1 ⟨rfl, rfl⟩
      go_wp2
      go_loopw [0, 7, 8] (fun va vl vi wr => ∃ (k : Nat) (t : ByteArray) (acc : List Int), k ≤ cnt ∧ t.size ≤ 1000 ∧ va = .string t ∧ vi = .int .i64 k ∧ LeftL l (cnt - k) t acc ∧ acc.length = k ∧ wr.ownsRow w.heap.size 3 1 vl k (acc.map (Value.int .i64)) ∧ Below w.heap.size w wr)
        (fun _ _ vi _ => cnt - (intOf vi).toNat)
      case atStart => exact ⟨0, _, [], Nat.zero_le _, hts, rfl, rfl, HX.out, rfl, World.ownsRow_made w #[] 0 (Nat.le_refl _) (by unfold maxLen; omega) (by simp), (Below.refl _ _).alloc (Nat.le_refl _) _⟩
      case round =>
        obtain ⟨k, t, acc, hk, ht, rfl, rfl, hL, hal, hown, hB⟩ := hrel
        have HA := Lib.hid hal
        have HO := Lib.hid hown
        have HB2 := Lib.hid hB
        clear hal hown hB hat HX hts
        by_cases hlt : k < cnt
        · have hR := refReadSigned_any t wr
          have hn1 := @leftL_err l cnt k t acc
          have hn2 := @leftL_ok l cnt k t acc
          have hle := rd_le 2305843009213693952 t.data.toList
          generalize rd 2305843009213693952 0 0 t.data.toList = r at *
          obtain ⟨n, kk, e⟩ := r
          dsimp only at *
          have HR := Lib.hid hR
          have HL := Lib.hid hL
          by_cases he : e = 0
          · subst he
            obtain ⟨hsz, hL2⟩ := hn2 hL hlt rfl
            have HL2 := Lib.hid hL2
            have hcc : k ≤ 20000 := by omega
            clear hR hn1 hn2 hL hL2
            go_wp2_with fail
            refine HR.out.mono ?_
            clear HR
            rintro e' w2 ⟨rfl, rfl⟩
            go_wp2_with (at_builtin; refine wpList_append_own _ rfl _ _ 31 rfl w.heap.size 3 i0 (.int .i64 0) 1 8 Try.underlying31 hi hz0 hz1 hz2 rfl (by decide) _ _ _ rfl (HO.out.alloc _) ⟨wr.heap.size, 0, none⟩ 1 1 [Value.int .i64 (unfold n)] rfl rfl ?c1 ?c2 ?c3 ?c4 ?c5 ?_)
            case c1 =>
              intro j u hj
              match j, hj with
              | 0, hj => simp at hj; subst hj; simp [Addr.add]
            case c2 => intro u hu; simp at hu; subst hu; rfl
            case c3 => unfold maxLen; omega
            case c4 => omega
            case c5 => have := HB2.out.size; simp; omega
            intro v' w3 hown' hgrow _
            have HB4 : Hid (Below w.heap.size w w3) := (HB2.out.alloc (by have := HB2.out.size; omega) _).grown hgrow (by have := HB2.out.size; simp; omega) (fun k hk => (HO.out.lt k hk).1)
            have HO4 := Lib.hid hown'
            clear hown' hgrow HB2 HO
            go_wp2
            go_roundw
            case rel => exact ⟨k + 1, t.extract kk t.size, acc ++ [unfold n], by omega, by simp; omega, rfl, by go_num, HL2.out, by simp [HA.out], by simpa using HO4.out, HB4.out⟩
            case measure => simp [intOf]; omega
          · have HL2 := Lib.hid (hn1 hL hlt he)
            have he1 : ((e : Int) != 0) = true := by rw [bne_iff_ne]; omega
            clear hR hn1 hn2 hL HO
            go_wp2_with fail
            refine HR.out.mono ?_
            clear HR
            rintro e' w2 ⟨rfl, rfl⟩
            go_wp2
            go_ret2
            rw [HL2.out]
            exact ⟨_, rfl, World.ownsRow_made _ #[] 0 HB2.out.size (by unfold maxLen; omega) (by simp), HB2.out.alloc HB2.out.size _⟩
        · by_cases hend : 0 < t.size
          · have HL2 := Lib.hid (leftL_more hL hlt hend)
            clear hL
            go_wp2
            go_ret2
            rw [HL2.out]
            exact ⟨_, rfl, World.ownsRow_made _ #[] 0 HB2.out.size (by unfold maxLen; omega) (by simp), HB2.out.alloc HB2.out.size _⟩
          · have HL2 := Lib.hid (leftL_end hL hlt hend)
            clear hL
            go_wp2
            go_ret2
            rw [HL2.out]
            refine ⟨_, rfl, ?_, HB2.out⟩
            dsimp only
            rw [HA.out]
            exact HO.out
  · have HD := Lib.hid (H1.out he)
    have he1 : ((er : Int) != 0) = true := by rw [bne_iff_ne]; omega
    go_enter Try.func24, Try.ntmps24
    go_wp2_with fail
    refine HG.out.mono ?_
    clear HG H1 H2 H3 H4
    rintro e' w1 ⟨rfl, rfl⟩
    go_wp2
    go_ret2
    rw [HD.out]
    exact ⟨_, rfl, World.ownsRow_made w #[] 0 (Nat.le_refl _) (by unfold maxLen; omega) (by simp), (Below.refl _ _).alloc (Nat.le_refl _) _⟩
end Go.Proofs.Ytihblhdiheflaaa
