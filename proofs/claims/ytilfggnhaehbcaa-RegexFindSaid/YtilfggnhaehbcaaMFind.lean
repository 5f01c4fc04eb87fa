/- Layer 6: Find of the reference; the walk of the law on finding. Layer 6: the walk of the law on finding. RegexFind returns true for all strings, and leaves them as they are; conditions: none. The frame is the guide's; the walk is ours. -/
import Derived.StillTailTactics
import Derived.Test.YtilfggnhaehbcaaMTd
import Derived.Test.YtilfggnhaehbcaaRows
import Derived.WalkKit
import Derived.ProofKit
import Derived.OpenShut
import Derived.ShutString
import Derived.ChangeOld
import Derived.Below
set_option linter.unusedVariables false
set_option linter.unusedSimpArgs false
namespace Go.Proofs.Ytilfggnhaehbcaa.Rx
open Go.RowKit
theorem sub_drop (s : List UInt8) (i k : Nat) : sub s i (i + k) = (s.drop i).take k := by unfold sub; rw [Nat.add_sub_cancel_left]
theorem drop_data_ (s : ByteArray) (k : Nat) : (s.extract k s.size).data.toList = s.data.toList.drop k := by
  rw [ByteArray.data_extract, Array.toList_extract, List.extract_eq_take_drop]
  apply List.take_of_length_le
  rw [List.length_drop, size_len]
  omega
theorem ext_size (s : ByteArray) {i : Nat} (h : i ≤ s.size) : (s.extract i s.size).size = s.size - i := by rw [ByteArray.size_extract]; omega
set_option maxHeartbeats 4000000 in
set_option maxRecDepth 100000 in
theorem find_ref_any (p s : ByteArray) (hs : s.size ≤ 1000000) (w : World) : Calls Try.prog 26 #[.string p, .string s] w (SeaP p s s.size w) := by
  have ZL := Lib.hid Z50_len
  have ZZ := Lib.hid zero50'
  generalize Z50 = Z at ZL ZZ
  have hw0 : Hid (Below w.heap.size w (w.alloc (.cells #[.int .i64 0, .int .i64 0] 32))) := (Below.refl _ _).alloc (Nat.le_refl _) _
  have k0 : Hid (Blk (w.alloc (.cells #[.int .i64 0, .int .i64 0] 32)) w.heap.size 32 [.int .i64 0, .int .i64 0]) := Blk.new w 32 _
  have z0 : Hid ((w.alloc (.cells #[.int .i64 0, .int .i64 0] 32)).heap.size = w.heap.size + 1) := World.size_alloc _ _
  have KP := Lib.hid (parse_ref_any p)
  go_enter Try.func26, Try.ntmps26
  go_upto_region 2 with (first
    | (go_at_call 29; (with_reducible refine (KP.out _).mono ?_); rintro e w1 ⟨C, n, rfl, HC, HN, HR, b1⟩)
    | ((with_reducible refine wpList_alloc_abs (o := ⟨some 6, .alloc 50, _, _, _, _⟩) rfl 50 rfl Z ZZ.out ?_); intro g2 w2 e2 k2 b2 s2)
    | ((with_reducible refine wpList_store_abs (o := ⟨_, .store 50 (.tmp 6) (.tmp 14), _, _, _, _⟩) rfl 50 _ _ rfl rfl g2 C ?_ ?_ 50 Z (k2.out) 259 size50 HC.out.1 ZL.out HC.out.2 ?_); (· rfl); (· rfl); intro w3 k3 b3 s3))
  have GG : Hid (w.heap.size < w1.heap.size ∧ w1.heap.size = g2 ∧ g2 < w2.heap.size ∧ w3.heap.size = w2.heap.size) := ⟨by have := b1.out.size; have := z0.out; omega, e2.out, k2.out.lt, s3.out⟩
  have BL : Hid (Below w.heap.size w w3) := hw0.out.trans ((b1.out.mono (by have := z0.out; omega)).trans ((b2.out.mono (by have := GG.out; omega)).trans (b3.out.below (by have := GG.out; omega) (fun n hn => by have := GG.out; omega))))
  have K3 : Hid (Blk w3 w.heap.size 32 [.int .i64 0, .int .i64 0]) := ((k0.out.below b1.out (by have := z0.out; omega)).below b2.out (by have := GG.out; omega)).but b3.out (by have := GG.out; omega)
  by_cases hc : check p.data.toList = 0
  · obtain ⟨r, hp, hr⟩ := HR.out hc
    obtain rfl : n = 0 := HN.out.trans hc
    have hsn : sN r ≤ 90000 := by
      have h1 := parse_cost hp
      have h2 := (check_ok.1 hc).1
      omega
    have HRS : Hid (∀ bs fd, Res r s.data.toList s.size bs fd → ResS p.data.toList s.data.toList s.size bs fd) := fun bs fd h => .inr ⟨r, hc, hp, h⟩
    have RV : Hid (ReV w3 (Fresh w w1) C r) := hr.keep (fun n hn => ⟨by have := hn.1; have := z0.out; omega, hn.2⟩) (fun b j hb => (b3.out.cell (p := ⟨b, j, none⟩) (by have := hb.2; have := GG.out; show b < _; omega) (fun (e : b = g2) => by have := hb.2; have := GG.out; omega)).trans (b2.out.cell (p := ⟨b, j, none⟩) hb.2))
    have KE : Hid (∀ x V, x.size ≤ 1000000 → Below w3.heap.size w3 V → Calls Try.prog 35 #[.agg C.toArray, .string x] V (EndQ r x V)) := fun x V hx hb => ends_any r x hx (Fresh w w1) C V (RV.out.keep (fun _ h => h) (fun b j h => hb.cell (p := ⟨b, j, none⟩) (by have := h.2; have := GG.out; show b < _; omega))) (fun n hn => by have := hn.2; have := GG.out; have := hb.size; omega) hsn
    have K6 : Hid (Blk w3 g2 50 C) := k3.out
    have G3 : Hid (w.heap.size < w3.heap.size ∧ g2 < w3.heap.size) := ⟨by have := GG.out; omega, by have := GG.out; omega⟩
    clear e2 k2 b2 s2 b3 s3 hp hr hc HN HR hsn k3 b1 hw0 k0 z0 RV GG
    go_wp2_with fail
    go_loopw [8] (fun vi wr => ∃ i : Nat, i ≤ s.size + 1 ∧ vi = .int .i64 (i : Int) ∧ Hid (Below w3.heap.size w3 wr) ∧ Hid (∀ i', i' < i → ∀ k, i' ≤ k → k ≤ s.size → ¬ Mat r (sub s.data.toList i' k))) (fun vi _ => s.size + 1 - (intOf vi).toNat)
    case atStart => exact ⟨0, by omega, rfl, Below.refl _ _, fun i' h => by omega⟩
    case round =>
      obtain ⟨i, hi, rfl, HB, HNO⟩ := hrel
      have hi0 : (0 : Int) ≤ (i : Int) := Int.natCast_nonneg _
      have BW : Hid (Below w.heap.size w wr) := BL.out.trans (HB.out.mono (by have := G3.out; omega))
      by_cases hle : i ≤ s.size
      · have hle' : (i : Int) ≤ (s.size : Int) := by omega
        have hx := ext_size s hle
        have HXD := Lib.hid (drop_data_ s i)
        obtain ⟨x, hxe⟩ : ∃ x, x = s.extract i s.size := ⟨_, rfl⟩
        rw [← hxe] at hx HXD
        have HXE := Lib.hid hxe
        have HXS := Lib.hid hx
        have KX : Hid (∀ V, Below w3.heap.size w3 V → Calls Try.prog 35 #[.agg C.toArray, .string (s.extract i s.size)] V (EndQ r x V)) := fun V hb => by rw [← HXE.out]; exact KE.out x V (by have := HXS.out; omega) hb
        clear hx hxe
        go_upto_region 7 with fail
        refine wp_region_still_tail 4 (by kernel_rfl) (by kernel_rfl) ?_
        simp only [List.take_succ_cons, List.take_zero, List.drop_succ_cons, List.drop_zero]
        refine wpStill_load_abs (o := ⟨_, .load 50 (.tmp 6), _, _, _, _⟩) rfl 50 _ rfl g2 0 ?_ C (show World.rangeAt wr.drew g2 0 C from ((K6.out.below HB.out G3.out.2).drew).range) _ Try.underlying50 rfl 259 size50 HC.out.1 ?_
        · rfl
        repeat still_step
        refine wpStill_nil ?_
        change wpList _ _ _ _ _ wr.drew
        have HBd : Hid (Below w3.heap.size w3 wr.drew) := HB.out.drew
        generalize wr.drew = wd at *
        go_upto_region 8 with (go_at_call 35; (with_reducible refine (KX.out _ HBd.out).mono ?_); rintro e w5 ⟨g, cap, rfl, HV, b5⟩)
        have hxs : x.size ≤ 1000000 := by have := HXS.out; omega
        have hx0 : (0 : Int) ≤ (x.size : Int) := Int.natCast_nonneg _
        have HB5 : Hid (Below w3.heap.size w3 w5) := HBd.out.trans (b5.out.mono HBd.out.size)
        have HMB : Hid (∀ k, matB r (x.data.toList.take k) = true ↔ Mat r (sub s.data.toList i (i + k))) := fun k => by rw [matB_is, HXD.out, sub_drop]
        clear KX HBd b5 HB BW
        go_wp2_with fail
        go_loopw [10] (fun v10 wr => ∃ (m : Nat) (j : Int), m ≤ x.size + 1 ∧ v10 = .int .i64 j ∧ (m = 0 → j = -1) ∧ (∀ k : Nat, m = k + 1 → j = (k : Int)) ∧ wr = w5 ∧ Hid (∀ k, m ≤ k → k ≤ x.size → ¬ Mat r (sub s.data.toList i (i + k)))) (fun v10 _ => (intOf v10 + 1).toNat)
        case atStart => exact ⟨x.size + 1, _, Nat.le_refl _, rfl, fun h => by omega, fun k hk => by omega, rfl, fun k h1 h2 => by omega⟩
        case round =>
          obtain ⟨m, j, hm, rfl, hj0, hj1, rfl, HNJ⟩ := hrel
          have BW : Hid (Below w.heap.size w wr) := BL.out.trans (HB5.out.mono (by have := G3.out; omega))
          cases m with
          | zero =>
            obtain rfl := hj0 rfl
            clear hj0 hj1
            have HNN : Hid (∀ i', i' < i + 1 → ∀ k, i' ≤ k → k ≤ s.size → ¬ Mat r (sub s.data.toList i' k)) := fun i' h1 k h2 h3 => by
              by_cases e : i' < i
              · exact HNO.out i' e k h2 h3
              · obtain rfl : i' = i := by omega
                have := HNJ.out (k - i') (Nat.zero_le _) (by have := HXS.out; omega)
                rwa [show i' + (k - i') = k by omega] at this
            go_wp2_with fail
            go_roundw
            case rel => exact ⟨i + 1, by omega, by go_num, HB5, HNN⟩
            case measure => simp [intOf]; omega
          | succ k =>
            obtain rfl := hj1 k rfl
            clear hj0 hj1
            have hk0 : (0 : Int) ≤ (k : Int) := Int.natCast_nonneg _
            have hk1 : (k : Int) < (x.size : Int) + 1 := by omega
            have hk2 : (k : Int) < ((x.size + 1 : Nat) : Int) := by omega
            have hck : wr.cell? ⟨g, k, none⟩ = some (.bool (matB r (x.data.toList.take k))) := HV.out.cell (by omega)
            have HMK := Lib.hid (HMB.out k)
            have HKX : Hid (k ≤ x.size) := by show k ≤ _; omega
            obtain ⟨bb, hbb⟩ : ∃ bb, bb = matB r (x.data.toList.take k) := ⟨_, rfl⟩
            rw [← hbb] at hck HMK
            clear hbb
            cases bb with
            | true =>
              have HMAT := Lib.hid (HMK.out.1 rfl)
              have KR : Hid (Blk wr w.heap.size 32 [.int .i64 0, .int .i64 0]) := K3.out.below HB5.out G3.out.1
              have d0 : wr.cell? ⟨w.heap.size, 0, none⟩ = some (.int .i64 0) := KR.out.cell 0
              have d1 : wr.cell? ⟨w.heap.size, 1, none⟩ = some (.int .i64 0) := KR.out.cell 1
              have f0 := KR.out.froz 0
              have f1 := KR.out.froz 1
              have HRES : Hid (ResS p.data.toList s.data.toList s.size (i, i + k) true) := HRS.out _ _ ⟨fun _ => ⟨by show i ≤ i + k; omega, by (show i + k ≤ _); rw [size_len]; have := HXS.out; have := HKX.out; omega, hle, HMAT.out⟩, fun i' k' h1 h2 h3 h4 => ⟨by first | rfl | trivial, by
                rw [size_len] at h3
                by_cases e : i' < i
                · exact absurd h4 (HNO.out i' e k' h2 h3)
                · by_cases e2 : i = i'
                  · subst e2
                    refine .inr ⟨rfl, ?_⟩
                    show k' ≤ i + k
                    apply Classical.byContradiction
                    intro hgt
                    have := HNJ.out (k' - i) (by omega) (by have := HXS.out; omega)
                    rw [show i + (k' - i) = k' by omega] at this
                    exact this h4
                  · exact .inl (by show i < i'; omega)⟩, fun h => by cases h⟩
              go_wp2_with fail
              refine bodyPost_ret (res_found rfl rfl rfl ((KR.out.set 0 (.int .i64 (i : Int))).set 1 (.int .i64 ((i : Int) + (k : Int))))) rfl ?_
              exact ⟨(i, i + k), true, rfl, HRES, (BW.out.setCell (p := ⟨w.heap.size, 0, none⟩) (Nat.le_refl _) _).setCell (p := ⟨w.heap.size, 1, none⟩) (Nat.le_refl _) _⟩
            | false =>
              have NJ : Hid (∀ k', k ≤ k' → k' ≤ x.size → ¬ Mat r (sub s.data.toList i (i + k'))) := fun k' h1 h2 h3 => by
                by_cases e : k' = k
                · subst e
                  cases HMK.out.2 h3
                · exact HNJ.out k' (by omega) h2 h3
              go_wp2_with fail
              go_roundw
              case rel => exact ⟨k, _, by omega, rfl, fun h => by omega, fun q hq => by omega, by first | rfl | trivial, NJ⟩
              case measure => simp [intOf]
      · obtain rfl : i = s.size + 1 := by omega
        have hle' : ¬ (((s.size + 1 : Nat) : Int) ≤ (s.size : Int)) := by omega
        have hle2 : ¬ ((s.size : Int) + 1 ≤ (s.size : Int)) := by omega
        have KR : Hid (Blk wr w.heap.size 32 [.int .i64 0, .int .i64 0]) := K3.out.below HB.out G3.out.1
        have d0 : wr.cell? ⟨w.heap.size, 0, none⟩ = some (.int .i64 0) := KR.out.cell 0
        have d1 : wr.cell? ⟨w.heap.size, 1, none⟩ = some (.int .i64 0) := KR.out.cell 1
        have f0 := KR.out.froz 0
        have f1 := KR.out.froz 1
        have HRES : Hid (ResS p.data.toList s.data.toList s.size (0, 0) false) := HRS.out _ _ ⟨fun h => (by cases h), fun i' k' h1 h2 h3 h4 => absurd h4 (HNO.out i' (by omega) k' h2 (by rw [size_len] at h3; exact h3)), fun _ => rfl⟩
        go_wp2_with fail
        refine bodyPost_ret (res_found rfl rfl rfl ((KR.out.set 0 (.int .i64 0)).set 1 (.int .i64 0))) rfl ?_
        exact ⟨(0, 0), false, rfl, HRES, (BW.out.setCell (p := ⟨w.heap.size, 0, none⟩) (Nat.le_refl _) _).setCell (p := ⟨w.heap.size, 1, none⟩) (Nat.le_refl _) _⟩
  · have hn0 : (n != 0) = true := by
      have h := HN.out
      simp
      intro e
      exact hc (h.symm.trans e)
    have HCC := Lib.hid hc
    have d0 : w3.cell? ⟨w.heap.size, 0, none⟩ = some (.int .i64 0) := K3.out.cell 0
    have d1 : w3.cell? ⟨w.heap.size, 1, none⟩ = some (.int .i64 0) := K3.out.cell 1
    have f0 := K3.out.froz 0
    have f1 := K3.out.froz 1
    clear hc HN HR
    go_wp2_with fail
    refine bodyPost_ret (res_found rfl rfl rfl ((K3.out.set 0 (.int .i64 0)).set 1 (.int .i64 0))) rfl ?_
    exact ⟨(0, 0), false, rfl, .inl ⟨HCC.out, rfl, rfl⟩, (BL.out.setCell (p := ⟨w.heap.size, 0, none⟩) (Nat.le_refl _) _).setCell (p := ⟨w.heap.size, 1, none⟩) (Nat.le_refl _) _⟩
end Go.Proofs.Ytilfggnhaehbcaa.Rx
namespace Go.Proofs.Ytilfggnhaehbcaa.Rx
open Go.RowKit
theorem ResS.same {p s : List UInt8} {last : Nat} {bs bs' : Nat × Nat} {fd fd' : Bool} (h : ResS p s last bs fd) (k : ResS p s last bs' fd') : bs = bs' ∧ fd = fd' := by
  rcases h with ⟨h1, h2, h3⟩ | ⟨r, h1, h2, h3⟩
  · rcases k with ⟨_, k2, k3⟩ | ⟨r', k1, _, _⟩
    · exact ⟨h2.trans k2.symm, h3.trans k3.symm⟩
    · exact absurd k1 h1
  · rcases k with ⟨k1, _, _⟩ | ⟨r', _, k2, k3⟩
    · exact absurd h1 k1
    · rw [h2] at k2
      cases k2
      exact h3.same k3
set_option maxHeartbeats 4000000 in
set_option maxRecDepth 100000 in
theorem find_walk (p s : ByteArray) (hp : p.size ≤ maxLen) (hs : s.size ≤ maxLen) (w : World) : Calls Try.prog 5 #[.string p, .string s] w (EmpP true w) := by
  have KA := Lib.hid (fun V => awake_any V)
  have KG := Lib.hid (fun b c V (h : V.cell? ⟨b, 0, none⟩ = some (.string p)) => great_one hs hp b c V h)
  have B : Hid (Below w.heap.size w (w.alloc (.cells #[.string p] 9))) := (Below.refl _ _).alloc (Nat.le_refl _) _
  cases hg : greatS s [p] with
  | true =>
    rw [hg] at KG
    go_enter Try.func5, Try.ntmps5
    go_wp2_with (first
      | (go_at_call 13; (with_reducible refine (KG.out _ _ _ (by simp)).mono ?_); rintro e wz0 ⟨rfl, rfl⟩)
      | (go_at_call 14; (with_reducible refine (KA.out _).mono ?_); rintro e w9 ⟨rfl, b9⟩; replace B : Hid (Below w.heap.size w w9) := B.out.trans (b9.out.mono B.out.size); clear b9))
    go_ret
    exact ⟨rfl, B⟩
  | false =>
    rw [hg] at KG
    have h2 := (great_no hg).2
    have KF := Lib.hid (fun V => find_any p s hp (by omega) V)
    have KR := Lib.hid (fun V => find_ref_any p s (by omega) V)
    clear hg h2
    go_enter Try.func5, Try.ntmps5
    go_upto_region 5 with (first
      | (go_at_call 13; (with_reducible refine (KG.out _ _ _ (by simp)).mono ?_); rintro e wz0 ⟨rfl, rfl⟩)
      | (go_at_call 25; (with_reducible refine (KF.out _).mono ?_); rintro e w1 ⟨bs, fd, rfl, RS, b1⟩)
      | (go_at_call 26; (with_reducible refine (KR.out _).mono ?_); rintro e w2 ⟨bs2, fd2, rfl, RS2, b2⟩))
    obtain ⟨rfl, rfl⟩ := RS.out.same RS2.out
    replace B : Hid (Below w.heap.size w w1) := B.out.trans (b1.out.mono B.out.size)
    have k1 : Hid (Blk (w1.alloc (.cells #[.int .i64 (bs.1 : Int), .int .i64 (bs.2 : Int)] 32)) w1.heap.size 32 [.int .i64 (bs.1 : Int), .int .i64 (bs.2 : Int)]) := Blk.new w1 32 _
    have s1 : Hid (w1.heap.size < (w1.alloc (.cells #[.int .i64 (bs.1 : Int), .int .i64 (bs.2 : Int)] 32)).heap.size) := by show _ < _; rw [World.size_alloc]; omega
    have B2 : Hid (Below w.heap.size w w2) := (B.out.alloc B.out.size _).trans (b2.out.mono (by have := B.out.size; have := s1.out; omega))
    have k2 : Hid (Blk (w2.alloc (.cells #[.int .i64 (bs.1 : Int), .int .i64 (bs.2 : Int)] 32)) w1.heap.size 32 [.int .i64 (bs.1 : Int), .int .i64 (bs.2 : Int)]) := (k1.out.below b2.out s1.out).alloc _
    have k3 : Hid (Blk (w2.alloc (.cells #[.int .i64 (bs.1 : Int), .int .i64 (bs.2 : Int)] 32)) w2.heap.size 32 [.int .i64 (bs.1 : Int), .int .i64 (bs.2 : Int)]) := Blk.new w2 32 _
    replace B : Hid (Below w.heap.size w (w2.alloc (.cells #[.int .i64 (bs.1 : Int), .int .i64 (bs.2 : Int)] 32))) := B2.out.alloc B2.out.size _
    have c10 := k2.out.cell 0
    have c11 := k2.out.cell 1
    have c20 := k3.out.cell 0
    have c21 := k3.out.cell 1
    simp only [List.getElem?_cons_zero, List.getElem?_cons_succ] at c10 c11 c20 c21
    clear b1 b2 k1 s1 B2 RS RS2
    generalize w2.alloc (.cells #[.int .i64 (bs.1 : Int), .int .i64 (bs.2 : Int)] 32) = W at *
    generalize w1.heap.size = ga at *
    generalize w2.heap.size = gb at *
    go_wp2_with (first
      | (go_at_call 14; (with_reducible refine (KA.out _).mono ?_); rintro e w9 ⟨rfl, b9⟩; replace B : Hid (Below w.heap.size w w9) := B.out.trans (b9.out.mono B.out.size); clear b9))
    go_ret
    exact ⟨rfl, B⟩
end Go.Proofs.Ytilfggnhaehbcaa.Rx
namespace Go.Proofs.Ytilfggnhaehbcaa.regexFind
open Go.ChangeShapes Go.WideShapes Go.ChangeAt Go.RowKit
open Go.ChangeMaps (open_string shut_string)
set_option linter.unusedVariables false

theorem own : ownKnob Try.prog.godebug = none := by kernel_rfl

set_option maxRecDepth 100000 in
theorem lifted (os : Os) (started : os.Started) (H : Type) (enc : TypeId × Value → H) :
    ReturnsInHanded {} Try.checked os 5 .any (Rows.regexFindSpec.pre6 enc Try.prog Try.f5 Rows.regexFindRow.domain false) (Rows.regexFindSpec.post enc Try.prog Try.f5 false true false false) := by
  refine returnsInHanded_of_change (C := Try.checked) own started (by kernel_rfl) Try.func5
    (ChangeSpec.witness6 (enc := enc) (C := Try.checked) false ⟨#[], #[.string ByteArray.empty, .string ByteArray.empty], []⟩ 8 (by kernel_rfl) (by kernel_rfl) (by kernel_rfl) (by kernel_rfl)) ?_
  intro W base args ds gs before hval0 hW hcnd _
  have hval : ∀ (j : Nat) t v, Try.f5.params[j]? = some t → args[j]? = some v → Value.okWide Try.prog W .any base t v := hval0
  have hW' := hW
  obtain ⟨p, q, hA0, hV, rfl, hfz, hnd⟩ := hW
  have hA : DataW.TrodAll enc Try.prog W 0 (fun _ => true) true Try.f5.params.toList args.toList ds p := hA0
  rw [Try.params5] at hA hval
  obtain ⟨v0, vs0, d0, ds0, p0, q0, hargs, rfl, rfl, h0, r0⟩ := trodAll_cons hA
  obtain ⟨v1, vs1, d1, ds1, p1, q1, rfl, rfl, rfl, h1, r1⟩ := trodAll_cons r0
  obtain ⟨rfl, rfl, rfl⟩ := trodAll_nil r1
  obtain rfl : args = #[v0, v1] := by cases args; simp_all
  obtain ⟨rfl, rfl⟩ := trodVars_none hV
  obtain ⟨a0, rfl, rfl, rfl, w0⟩ := open_string Try.underlying9 (hval 0 9 v0 rfl rfl) h0
  obtain ⟨a1, rfl, rfl, rfl, w1⟩ := open_string Try.underlying9 (hval 1 9 v1 rfl rfl) h1
  clear hA0 hval0
  simp only [List.append_nil] at hW'
  refine (Rx.find_walk a0 a1 w0 w1 W).mono fun e W' ⟨he, hg⟩ => ?_
  subst he
  exact ⟨_, rfl, _, _, _, [], [], [], hW', trodAll_mk1 (shut_bool Try.underlying4 _), (trodAll_cons_mk (shut_string Try.underlying9 w0) (trodAll_cons_mk (shut_string Try.underlying9 w1) trodAll_mk0)), rfl, hg.out.frame _, fun h => by cases h⟩

theorem over : Rows.regexFindRow.holds Try.pinned (OpenSpec.ofChange Rows.regexFindSpec) :=
  OpenClaim.holds_of_wide 5 Try.f5 rfl rfl rfl rfl rfl rfl rfl ⟨rfl, rfl, rfl, rfl, rfl⟩ rfl rfl rfl rfl rfl (by kernel_rfl) Try.func5 (by kernel_rfl)
    (of_decide_eq_true (by kernel_rfl)) (by unfold Func.isWrapper; first | (rw [if_pos (by decide +kernel)]; kernel_rfl) | (rw [if_neg (by decide +kernel)]; exact ⟨rfl, rfl⟩))
    (fun os started H enc _ => lifted os started H enc)

theorem proved : Rows.RegexFindSaid := over
end Go.Proofs.Ytilfggnhaehbcaa.regexFind

namespace Go.Proofs.Ytilfggnhaehbcaa
/-- The statement. -/
theorem regexFind_holds : Rows.RegexFindSaid := regexFind.proved
end Go.Proofs.Ytilfggnhaehbcaa
#print axioms Go.Proofs.Ytilfggnhaehbcaa.regexFind_holds
