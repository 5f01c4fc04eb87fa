/- The walk of the law VarintLists. -/
import Derived.Test.YtihblhdiheflaaaRefDec
import Derived.Test.YtihblhdiheflaaaAwake
namespace Go.Proofs.Ytihblhdiheflaaa
open Go.RowKit

theorem World.cell_lt {w : World} {a : Addr} {v : Value} (h : w.cell? a = some v) : a.block < w.heap.size := by
  rcases Nat.lt_or_ge a.block w.heap.size with h' | h'
  · exact h'
  · simp [World.cell?, Array.getElem?_eq_none h'] at h

/-- A slice of numbers that came in. -/
theorem intsAt_row {w : World} {a : Option Addr} {len cap : Nat} {zs : List Int}
    (h : (a = none ∧ len = 0 ∧ cap = 0 ∧ zs = []) ∨ ∃ x, a = some x ∧ len ≤ cap ∧ cap ≤ maxLen ∧ zs.length = cap ∧ (∀ i, i < zs.length → w.cell? (x.add i) = some (.int .i64 (zs.getD i 0))) ∧ ∀ n ∈ zs, (Lit.int .i64 n).wf = true) :
    len ≤ maxLen ∧ (zs.take len).length = len ∧ IntsAt w.heap.size w (.slice a len cap) (zs.take len) := by
  rcases h with ⟨rfl, rfl, rfl, rfl⟩ | ⟨x, rfl, hl, hm, hz, hc, _⟩
  · exact ⟨by unfold maxLen; omega, rfl, none, 0, rfl, fun hne => absurd rfl hne⟩
  · have hlen : (zs.take len).length = len := by rw [List.length_take]; omega
    refine ⟨by omega, hlen, some x, cap, by rw [hlen], fun hne => ?_⟩
    have h0 : 0 < len := by rw [← hlen]; exact List.length_pos_iff.2 hne
    obtain ⟨b, off, spot⟩ := x
    have hspot : spot = none := by simpa [Addr.add] using World.cell?_spot (hc 0 (by omega))
    subst hspot
    refine ⟨b, off, rfl, ?_, fun j hj => ?_⟩
    · have := World.cell_lt (hc 0 (by omega))
      simpa [Addr.add] using this
    · rw [hlen] at hj
      have h1 := hc j (by omega)
      have e : (⟨b, off, none⟩ : Addr).add j = ⟨b, off + j, none⟩ := by cases j <;> simp [Addr.add]
      rw [e] at h1
      rw [h1, List.getElem?_take_of_lt hj, List.getD_eq_getElem?_getD]

theorem decN_len : ∀ (n : Nat) (l : List UInt8) (acc : List Int), (decN n l acc).1.length ≤ acc.length + n
  | 0, l, acc => by
    rw [decN]
    split <;> simp
  | n + 1, l, acc => by
    rw [decN]
    split
    · simp
    · have := decN_len n (l.drop (rd 2305843009213693952 0 0 l).2.1) (acc ++ [unfold (rd 2305843009213693952 0 0 l).1])
      rw [List.length_append, List.length_singleton] at this
      omega
theorem dec_len (l : List UInt8) : (dec l).1.length ≤ 20000 := by
  unfold dec
  split
  · simp
  · split
    · simp
    · have := decN_len (rd 1152921504606846976 0 0 l).1 (l.drop (rd 1152921504606846976 0 0 l).2.1) []
      rw [List.length_nil] at this
      omega

set_option maxHeartbeats 1000000 in
set_option maxRecDepth 100000 in
theorem lists_walk (a : Option Addr) (len cap : Nat) (zs : List Int) (s : ByteArray) (w : World) (hlm : len ≤ maxLen) (hzl : zs.length = len) (hI : IntsAt w.heap.size w (.slice a len cap) zs) (hs : s.size ≤ maxLen) :
    Calls Try.prog 5 #[.slice a len cap, .string s] w fun e w' => e = .returned (.bool true) ∧ Below w.heap.size w w' := by
  unfold maxLen at hs hlm
  subst hzl
  have HI := Lib.hid hI
  clear hI
  by_cases h50 : 50 < zs.length
  · go_enter Try.func5, Try.ntmps5
    go_wp2_with fail
    refine (awake_any _).mono ?_
    rintro e w1 ⟨rfl, hb⟩
    go_wp2
    go_ret
    exact ⟨rfl, hb⟩
  · by_cases h200 : 200 < s.size
    · go_enter Try.func5, Try.ntmps5
      go_wp2_with fail
      refine (awake_any _).mono ?_
      rintro e w1 ⟨rfl, hb⟩
      go_wp2
      go_ret
      exact ⟨rfl, hb⟩
    · have hs2 : s.size ≤ 1000 := by omega
      have hl2 : zs.length ≤ 50 := by omega
      have q1 := fun sv w h => encode_any zs (by omega) sv w h
      have q2 := fun sv w h => refEncode_any zs hl2 sv w h
      have q3 := fun w => decode_any s hs2 w
      have q4 := fun w => refDecode_any s hs2 w
      have q5 := dec_len s.data.toList
      obtain ⟨t, er, he⟩ : ∃ (t : ByteArray) (er : Int), encOut zs = .tuple #[.string t, .int .i64 er] := by
        unfold encOut
        split
        · exact ⟨_, _, rfl⟩
        · exact ⟨_, _, rfl⟩
      rw [he] at q1 q2
      generalize dec s.data.toList = r at *
      obtain ⟨ys, de⟩ := r
      dsimp only at q5
      have Q1 := Lib.hid q1
      have Q2 := Lib.hid q2
      have Q3 := Lib.hid q3
      have Q4 := Lib.hid q4
      clear q1 q2 q3 q4 he
      go_enter Try.func5, Try.ntmps5
      go_wp2_with fail
      refine (Q1.out _ _ HI.out).mono ?_
      rintro e w1 ⟨rfl, hb1⟩
      have H1 := Lib.hid hb1
      have I1 := Lib.hid ((HI.out.below hb1).mono hb1.size)
      clear hb1
      go_wp2_with fail
      refine (Q2.out _ _ I1.out).mono ?_
      rintro e w2 ⟨rfl, hb2⟩
      have H2 := Lib.hid (H1.out.trans (hb2.mono H1.out.size))
      clear hb2
      go_wp2_with fail
      refine (Q3.out _).mono ?_
      rintro e w3 ⟨v3, rfl, hown3, hb3⟩
      have H3 := Lib.hid (H2.out.trans (hb3.mono H2.out.size))
      have O3 := Lib.hid hown3
      clear hb3 hown3
      go_wp2_with fail
      refine (Q4.out _).mono ?_
      rintro e w4 ⟨v4, rfl, hown4, hb4⟩
      have H4 := Lib.hid (H3.out.trans (hb4.mono H3.out.size))
      have O4 := Lib.hid (own_below O3.out hb4)
      have P4 := Lib.hid hown4
      clear hb4 hown4
      go_wp2_with fail
      refine (same_any _ ys ys q5 _ _ _ (Nat.le_refl _) (intsAt_own O4.out (Nat.le_refl _)) (intsAt_own P4.out (Nat.le_refl _))).mono ?_
      rintro e w5 ⟨rfl, hb5⟩
      have H5 := Lib.hid (H4.out.trans (hb5.mono H4.out.size))
      clear hb5
      have hsb : sameB ys ys = true := decide_eq_true rfl
      rw [hsb]
      go_wp2_with fail
      refine (awake_any _).mono ?_
      rintro e w6 ⟨rfl, hb6⟩
      have H6 := Lib.hid (H5.out.trans (hb6.mono H5.out.size))
      clear hb6
      go_wp2
      go_ret
      exact ⟨rfl, H6.out⟩
end Go.Proofs.Ytihblhdiheflaaa
