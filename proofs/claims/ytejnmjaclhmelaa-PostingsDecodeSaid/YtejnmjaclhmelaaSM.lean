/- Layer 8: the program's Decode. -/
import Derived.Test.YtejnmjaclhmelaaSL
import Derived.Test.YtejnmjaclhmelaaPI
import Derived.Test.YtejnmjaclhmelaaRead
set_option linter.unusedVariables false
set_option linter.unusedSimpArgs false
namespace Go.Proofs.Ytejnmjaclhmelaa.Po
open Go.RowKit
theorem drop_ext (s : ByteArray) (k : Nat) : (s.extract k s.size).data.toList = s.data.toList.drop k := Lib.extract_to_end s k
theorem ext_len (s : ByteArray) (k : Nat) : (s.extract k s.size).size = s.size - k := by simp
set_option maxHeartbeats 4000000 in
set_option maxRecDepth 100000 in
theorem gDecode_any (s : ByteArray) (hs : s.size ≤ 1000000) (w : World) : Calls Try.prog 29 #[.string s] w (DecOut w (decO s.data.toList)) := by
  obtain ⟨i0, hi, hz0, hz1, hz2⟩ := info_parts infoI
  have hg := read_any s (by omega) w
  have h1 := @dec_no s.data.toList
  have h2 := @dec_start s.data.toList
  have h4 := @rd_sz 1152921504606846976 s.data.toList
  have h5 := rd_le 1152921504606846976 s.data.toList
  have hsl : s.data.toList.length = s.size := Array.length_toList
  have CR : Hid (∀ (k : Nat) (v : World), Calls Try.prog 48 #[.string (s.extract k s.size)] v fun e w' => e = .returned (.tuple #[.int .i64 ((rd 1152921504606846976 0 0 (s.data.toList.drop k)).1 : Nat), .int .i64 ((rd 1152921504606846976 0 0 (s.data.toList.drop k)).2.1 : Nat), .int .i64 ((rd 1152921504606846976 0 0 (s.data.toList.drop k)).2.2 : Nat)]) ∧ Below v.heap.size v w') := Lib.hid fun k v => by
    have h := read_any (s.extract k s.size) (by rw [ext_len]; omega) v
    rwa [drop_ext] at h
  generalize hL : s.data.toList = L at *
  generalize rd 1152921504606846976 0 0 L = r at *
  obtain ⟨cnt, at0, er0⟩ := r
  dsimp only at *
  have HG := Lib.hid hg
  have H1 := Lib.hid h1
  have H2 := Lib.hid h2
  have hat : at0 ≤ s.size := by omega
  have HLS := Lib.hid hsl
  clear hg h1 h2 h4 hL hsl
  by_cases he0 : er0 = 0
  · subst he0
    have HS := Lib.hid (H2.out rfl)
    clear H1 H2
    go_enter Try.func29, Try.ntmps29
    go_wp2_with fail
    refine HG.out.mono ?_
    rintro e w1 ⟨rfl, hb1⟩
    have B1 := Lib.hid hb1
    clear hb1 HG
    go_wp2
    go_loopw [5, 7, 8, 22] (fun va vl vb vi wr => ∃ (at' k : Nat) (acc : List Int) (last : Int), va = .int .i64 at' ∧ vb = .int .i64 last ∧ vi = .int .i64 k ∧ acc.length = k ∧ k ≤ cnt ∧ k ≤ at' ∧ at' ≤ s.size ∧ -1 ≤ last ∧ last ≤ 1152921504606846976 ∧
        Hid (decP L = goR cnt acc (last + 1) (L.drop at')) ∧ Hid (wr.ownsRow w.heap.size 3 1 vl acc.length (ic acc)) ∧ Hid (Below w.heap.size w wr))
      (fun _ _ _ vi _ => cnt - (intOf vi).toNat)
    case atStart => exact ⟨at0, 0, [], -1, rfl, rfl, rfl, rfl, Nat.zero_le _, Nat.zero_le _, hat, by omega, by omega, HS, Lib.hid (World.ownsRow_nil _ _ _ _), B1⟩
    case round =>
      clear HS B1
      obtain ⟨at', k, acc, last, rfl, rfl, rfl, hak, hk, hka, hat2, hl1, hl2, HD, HO, HB⟩ := hrel
      obtain ⟨A, c, rfl⟩ := own_form HO.out
      rw [hak]
      by_cases hlt : k < cnt
      · have HR := Lib.hid (CR.out at')
        have n1 := @goR_err cnt acc (last + 1) (L.drop at') (by omega)
        have n2 := @goR_far cnt acc (last + 1) (L.drop at') (by omega)
        have n3 := @goR_ok cnt acc (last + 1) (L.drop at') (by omega)
        have n4 := @rd_sz 1152921504606846976 (L.drop at')
        have n5 := rd_le 1152921504606846976 (L.drop at')
        have n6 := @rd_one 1152921504606846976 (L.drop at')
        rw [List.length_drop, HLS.out] at n4
        generalize rd 1152921504606846976 0 0 (L.drop at') = r at *
        obtain ⟨x, kk, e⟩ := r
        dsimp only at *
        have N1 := Lib.hid n1
        have N2 := Lib.hid n2
        have N3 := Lib.hid n3
        have N6 := Lib.hid n6
        have hi' : (k : Int) < cnt := by omega
        have has : (at' : Int) ≤ s.size := by omega
        have HAK := Lib.hid hak
        clear n1 n2 n3 n6 hak CR
        by_cases he : e = 0
        · subst he
          by_cases hfar : 1152921504606846976 < last + 1 + (x : Int)
          · have HE := Lib.hid (decO_none (HD.out.trans (N2.out rfl (by unfold top; omega))))
            clear N1 N2 N3 N6 HD
            go_wp2_with fail
            refine (HR.out _).mono ?_
            rintro e w2 ⟨rfl, hb2⟩
            have B2 := Lib.hid (HB.out.trans (hb2.mono HB.out.size))
            clear hb2
            go_wp2
            go_ret2
            rw [HE.out]
            exact ⟨_, rfl, Ints.nil_ _ _, B2.out⟩
          · have HE := Lib.hid (HD.out.trans (N3.out rfl (by unfold top; omega)))
            have h6 := N6.out rfl
            have hnf : ¬ (1152921504606846976 < last + 1 + (x : Int)) := hfar
            clear N1 N2 N3 N6 HD hfar
            go_wp2_with fail
            refine (HR.out _).mono ?_
            rintro e w2 ⟨rfl, hb2⟩
            have B2 := Lib.hid (HB.out.trans (hb2.mono HB.out.size))
            have O2 := Lib.hid (own_belowP HO.out hb2)
            rw [HAK.out] at O2
            clear hb2 HR
            go_wp2_with (at_builtin; refine wpList_append_own _ rfl _ _ 22 rfl w.heap.size 3 i0 (.int .i64 0) 1 8 Try.underlying22 hi hz0 hz1 hz2 rfl (by decide) _ k _ rfl (O2.out.alloc _) ⟨w2.heap.size, 0, none⟩ 1 1 [Value.int .i64 (last + 1 + x)] rfl rfl (cell_one_new _ _ _) (by simp [Value.oneCell']) (by unfold maxLen; omega) (by omega) (by have := B2.out.size; simp; omega) ?_; intro v4 w4 hown4 hgrow4 _; have B4 := Lib.hid ((B2.out.alloc (by have := B2.out.size; omega) _).grown hgrow4 (by have := B2.out.size; simp; omega) (fun k hk => (O2.out.lt k hk).1)); have O4 := Lib.hid hown4; clear hown4 hgrow4)
            go_roundw
            case rel =>
              refine ⟨at' + kk, k + 1, acc ++ [last + 1 + (x : Int)], _, by go_num, rfl, by go_num, by rw [List.length_append, List.length_singleton, HAK.out], hlt, by omega, by omega, by omega, by omega, Lib.hid ?_, Lib.hid ?_, B4⟩
              · rw [HE.out, List.drop_drop]
              · have := O4.out
                rw [List.length_append, List.length_singleton, HAK.out]
                unfold ic at this ⊢
                rw [List.map_append]
                exact this
            case measure => simp [intOf]; omega
        · have HE := Lib.hid (decO_none (HD.out.trans (N1.out he)))
          have he1 : ((e : Int) != 0) = true := by rw [bne_iff_ne]; omega
          clear N1 N2 N3 N6 HD he
          go_wp2_with fail
          refine (HR.out _).mono ?_
          rintro e' w2 ⟨rfl, hb2⟩
          have B2 := Lib.hid (HB.out.trans (hb2.mono HB.out.size))
          clear hb2
          go_wp2
          go_ret2
          rw [HE.out]
          exact ⟨_, rfl, Ints.nil_ _ _, B2.out⟩
      · have hnlt : ¬ (k : Int) < cnt := by omega
        by_cases hend : at' < s.size
        · have HE := Lib.hid (decO_none (HD.out.trans (goR_more (by omega) (fun h => by
            have h2 := congrArg List.length h
            rw [List.length_drop, HLS.out] at h2
            simp at h2
            omega))))
          clear HD
          go_wp2
          go_ret2
          rw [HE.out]
          exact ⟨_, rfl, Ints.nil_ _ _, HB.out⟩
        · have HE := Lib.hid (decO_some (HD.out.trans (goR_end (by omega) (List.drop_eq_nil_of_le (by rw [HLS.out]; omega)))))
          clear HD
          rw [hak] at HO
          have HAK := Lib.hid hak
          clear hak
          go_wp2
          go_ret2
          rw [HE.out]
          have := HO.out
          refine ⟨_, rfl, Ints.of_own (B := w.heap.size) ?_ (Nat.le_refl _), HB.out⟩
          rw [HAK.out]
          exact this
  · have HE := Lib.hid (decO_none (H1.out he0))
    have he1 : ((er0 : Int) != 0) = true := by rw [bne_iff_ne]; omega
    clear H1 H2 he0
    go_enter Try.func29, Try.ntmps29
    go_wp2_with fail
    refine HG.out.mono ?_
    rintro e w1 ⟨rfl, hb1⟩
    have B1 := Lib.hid hb1
    clear hb1 HG
    go_wp2
    go_ret2
    rw [HE.out]
    exact ⟨_, rfl, Ints.nil_ _ _, B1.out⟩
end Go.Proofs.Ytejnmjaclhmelaa.Po
