/- The contracts of Decode and of its twin. -/
import Derived.Test.YtihblhdiheflaaaRead
import Derived.Test.YtihblhdiheflaaaEnc
import Derived.Lib.IndexBytes
namespace Go.Proofs.Ytihblhdiheflaaa
open Go.RowKit

theorem Try.info3 : (Try.prog.info? 3).map (fun i => (i.zero, i.size, i.bytes)) = some (some (.int .i64 0), 1, 8) := by kernel_rfl

/-- What Decode hands back: a slice of the call's own that reads as r's numbers; r's error. -/
def DecPost (w : World) (r : List Int × Nat) (e : Ending) (w' : World) : Prop :=
  ∃ v, e = .returned (.tuple #[v, .int .i64 r.2]) ∧ w'.ownsRow w.heap.size 3 1 v r.1.length (r.1.map (Value.int .i64)) ∧ Below w.heap.size w w'
/-- What is left to be decoded. -/
def Left (s : ByteArray) (n at' : Nat) (acc : List Int) : Prop := dec s.data.toList = decN n (s.data.toList.drop at') acc

theorem dec_err {l : List UInt8} (h : (rd 1152921504606846976 0 0 l).2.2 ≠ 0) : dec l = ([], (rd 1152921504606846976 0 0 l).2.2) := by unfold dec; rw [if_pos h]
theorem dec_long {l : List UInt8} (h : (rd 1152921504606846976 0 0 l).2.2 = 0) (h2 : 20000 < (rd 1152921504606846976 0 0 l).1) : dec l = ([], 4) := by unfold dec; rw [if_neg (by simpa using h), if_pos h2]
theorem dec_go {l : List UInt8} (h : (rd 1152921504606846976 0 0 l).2.2 = 0) (h2 : ¬ 20000 < (rd 1152921504606846976 0 0 l).1) : dec l = decN (rd 1152921504606846976 0 0 l).1 (l.drop (rd 1152921504606846976 0 0 l).2.1) [] := by unfold dec; rw [if_neg (by simpa using h), if_neg h2]
theorem rd_size {most : Nat} {l : List UInt8} (h : (rd most 0 0 l).2.2 = 0) : (rd most 0 0 l).2.1 ≤ l.length := by
  obtain ⟨m, k, _, _, h3, _, h5, _⟩ := rd_ok most l 0 0 h
  rw [h3]; omega

theorem left_err {s : ByteArray} {cnt a k : Nat} {acc : List Int} (h : Left s (cnt - k) a acc) (hk : k < cnt) (he : (rd 2305843009213693952 0 0 (s.data.toList.drop a)).2.2 ≠ 0) : dec s.data.toList = ([], (rd 2305843009213693952 0 0 (s.data.toList.drop a)).2.2) := by
  unfold Left at h
  obtain ⟨m, hm⟩ : ∃ m, cnt - k = m + 1 := ⟨cnt - k - 1, by omega⟩
  rw [h, hm, decN, if_pos he]
theorem left_ok {s : ByteArray} {cnt a k : Nat} {acc : List Int} (h : Left s (cnt - k) a acc) (hk : k < cnt) (ha : a ≤ s.size) (he : (rd 2305843009213693952 0 0 (s.data.toList.drop a)).2.2 = 0) :
    a + (rd 2305843009213693952 0 0 (s.data.toList.drop a)).2.1 ≤ s.size ∧ Left s (cnt - (k + 1)) (a + (rd 2305843009213693952 0 0 (s.data.toList.drop a)).2.1) (acc ++ [unfold (rd 2305843009213693952 0 0 (s.data.toList.drop a)).1]) := by
  unfold Left at *
  obtain ⟨m, hm⟩ : ∃ m, cnt - k = m + 1 := ⟨cnt - k - 1, by omega⟩
  constructor
  · have := rd_size he
    have e : (s.data.toList.drop a).length = s.size - a := by simp
    omega
  · rw [h, hm, decN, if_neg (by simpa using he), List.drop_drop, show cnt - (k + 1) = m by omega]
theorem left_more {s : ByteArray} {cnt a k : Nat} {acc : List Int} (h : Left s (cnt - k) a acc) (hk : ¬ k < cnt) (ha : a < s.size) : dec s.data.toList = ([], 12) := by
  unfold Left at h
  rw [h, show cnt - k = 0 by omega, decN, if_neg]
  intro e
  have := congrArg List.length e
  simp at this; omega
theorem left_end {s : ByteArray} {cnt a k : Nat} {acc : List Int} (h : Left s (cnt - k) a acc) (hk : ¬ k < cnt) (ha : ¬ a < s.size) : dec s.data.toList = (acc, 0) := by
  unfold Left at h
  rw [h, show cnt - k = 0 by omega, decN, if_pos]
  exact List.drop_eq_nil_of_le (by simp at ha ⊢; omega)
/-- A row of the call's own lies as it lay behind a call that makes memory alone. -/
theorem own_below {w w' : World} {B e size n : Nat} {v : Value} {xs : List Value} (h : w.ownsRow B e size v n xs) (hb : Below w.heap.size w w') : w'.ownsRow B e size v n xs :=
  h.kept (row := none) ⟨hb.os, hb.tape, hb.output, hb.size, fun k hk _ => hb.block k hk⟩ (by
    rcases h.2 with ⟨rfl, _⟩ | ⟨g, cap, cur, rfl, _⟩
    · exact .inl rfl
    · exact .inr (by simp [Value.ownBlock]))

set_option maxHeartbeats 1000000 in
set_option maxRecDepth 100000 in
theorem decode_any (s : ByteArray) (hs : s.size ≤ 1000) (w : World) : Calls Try.prog 23 #[.string s] w (DecPost w (dec s.data.toList)) := by
  obtain ⟨i0, hi, hz0, hz1, hz2⟩ := info_parts Try.info3
  have hg := read_any s hs w
  have h1 := @dec_err s.data.toList
  have h2 := @dec_long s.data.toList
  have h3 := @dec_go s.data.toList
  have h4 := @rd_size 1152921504606846976 s.data.toList
  generalize rd 1152921504606846976 0 0 s.data.toList = r at *
  obtain ⟨cnt, at0, er⟩ := r
  dsimp only at *
  have HG := Lib.hid hg
  have H1 := Lib.hid h1
  have H2 := Lib.hid h2
  have H3 := Lib.hid h3
  have H4 := Lib.hid h4
  clear hg h1 h2 h3 h4
  by_cases he : er = 0
  · subst he
    by_cases hc : 20000 < cnt
    · have HD := Lib.hid (H2.out rfl hc)
      go_enter Try.func23, Try.ntmps23
      go_wp2_with fail
      refine HG.out.mono ?_
      clear HG H1 H2 H3 H4
      rintro e' w1 ⟨rfl, hb⟩
      go_wp2
      go_ret2
      rw [HD.out]
      exact ⟨_, rfl, World.ownsRow_nil _ _ _ _, hb⟩
    · have HD := Lib.hid (H3.out rfl hc)
      have hat : at0 ≤ s.size := by simpa using H4.out rfl
      go_enter Try.func23, Try.ntmps23
      go_wp2_with fail
      refine HG.out.mono ?_
      clear HG H1 H2 H3 H4
      rintro e' w1 ⟨rfl, hb⟩
      have HB := Lib.hid hb
      clear hb
      go_wp2
      go_loopw [5, 7, 23] (fun va vl vi wr => ∃ (k a : Nat) (acc : List Int), k ≤ cnt ∧ a ≤ s.size ∧ va = .int .i64 a ∧ vi = .int .i64 k ∧ Left s (cnt - k) a acc ∧ acc.length = k ∧ wr.ownsRow w.heap.size 3 1 vl k (acc.map (Value.int .i64)) ∧ Below w.heap.size w wr)
        (fun _ _ vi _ => cnt - (intOf vi).toNat)
      case atStart => exact ⟨0, at0, [], Nat.zero_le _, hat, rfl, rfl, HD.out, rfl, World.ownsRow_nil _ _ _ _, HB.out⟩
      case round =>
        obtain ⟨k, a, acc, hk, ha, rfl, rfl, hL, hal, hown, hB⟩ := hrel
        have HA := Lib.hid hal
        have HO := Lib.hid hown
        have HB2 := Lib.hid hB
        clear hal hown hB HB hat HD
        by_cases hlt : k < cnt
        · have hR := readSigned_any (s.extract a s.size) (by simp; omega) wr
          have hn1 := @left_err s cnt a k acc
          have hn2 := @left_ok s cnt a k acc
          have hle := rd_le 2305843009213693952 (s.data.toList.drop a)
          rw [Lib.extract_to_end] at hR
          generalize rd 2305843009213693952 0 0 (s.data.toList.drop a) = r at *
          obtain ⟨n, kk, e⟩ := r
          dsimp only at *
          have HR := Lib.hid hR
          have HL := Lib.hid hL
          by_cases he : e = 0
          · subst he
            obtain ⟨hsz, hL2⟩ := hn2 hL hlt ha rfl
            have HL2 := Lib.hid hL2
            have hcc : k ≤ 20000 := by omega
            clear hR hn1 hn2 hL hL2
            go_wp2_with fail
            refine HR.out.mono ?_
            clear HR
            rintro e' w2 ⟨rfl, hb2⟩
            have hszz := HB2.out.size
            have HB3 := Lib.hid (HB2.out.trans (hb2.mono hszz))
            have HO3 : Hid (w2.ownsRow w.heap.size 3 1 u7 k (acc.map (Value.int .i64))) := own_below HO.out hb2
            clear hb2 HB2 HO hszz
            go_wp2_with (at_builtin; refine wpList_append_own _ rfl _ _ 31 rfl w.heap.size 3 i0 (.int .i64 0) 1 8 Try.underlying31 hi hz0 hz1 hz2 rfl (by decide) _ _ _ rfl (HO3.out.alloc _) ⟨w2.heap.size, 0, none⟩ 1 1 [Value.int .i64 (unfold n)] rfl rfl ?c1 ?c2 ?c3 ?c4 ?c5 ?_)
            case c1 =>
              intro j u hj
              match j, hj with
              | 0, hj => simp at hj; subst hj; simp [Addr.add]
            case c2 => intro u hu; simp at hu; subst hu; rfl
            case c3 => unfold maxLen; omega
            case c4 => omega
            case c5 => have := HB3.out.size; simp; omega
            intro v' w3 hown' hgrow _
            have HB4 : Hid (Below w.heap.size w w3) := (HB3.out.alloc (by have := HB3.out.size; omega) _).grown hgrow (by have := HB3.out.size; simp; omega) (fun k hk => (HO3.out.lt k hk).1)
            have HO4 := Lib.hid hown'
            clear hown' hgrow HB3 HO3
            go_wp2
            go_roundw
            case rel => exact ⟨k + 1, a + kk, acc ++ [unfold n], by omega, hsz, by go_num, by go_num, HL2.out, by simp [HA.out], by simpa using HO4.out, HB4.out⟩
            case measure => simp [intOf]; omega
          · have HL2 := Lib.hid (hn1 hL hlt he)
            have he1 : ((e : Int) != 0) = true := by rw [bne_iff_ne]; omega
            clear hR hn1 hn2 hL HO
            go_wp2_with fail
            refine HR.out.mono ?_
            clear HR
            rintro e' w2 ⟨rfl, hb2⟩
            have hszz := HB2.out.size
            have HB3 := Lib.hid (HB2.out.trans (hb2.mono hszz))
            clear hb2 HB2 hszz
            go_wp2
            go_ret2
            rw [HL2.out]
            exact ⟨_, rfl, World.ownsRow_nil _ _ _ _, HB3.out⟩
        · by_cases hend : a < s.size
          · have HL2 := Lib.hid (left_more hL hlt hend)
            clear hL
            go_wp2
            go_ret2
            rw [HL2.out]
            exact ⟨_, rfl, World.ownsRow_nil _ _ _ _, HB2.out⟩
          · have HL2 := Lib.hid (left_end hL hlt hend)
            clear hL
            go_wp2
            go_ret2
            rw [HL2.out]
            refine ⟨_, rfl, ?_, HB2.out⟩
            dsimp only
            rw [HA.out]
            exact HO.out
  · have HD := Lib.hid (H1.out he)
    have he1 : ((er : Int) != 0) = true := by rw [bne_iff_ne]; omega
    go_enter Try.func23, Try.ntmps23
    go_wp2_with fail
    refine HG.out.mono ?_
    clear HG H1 H2 H3 H4
    rintro e' w1 ⟨rfl, hb⟩
    go_wp2
    go_ret2
    rw [HD.out]
    exact ⟨_, rfl, World.ownsRow_nil _ _ _ _, hb⟩
end Go.Proofs.Ytihblhdiheflaaa
