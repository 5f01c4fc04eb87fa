/- Layer 6: expression and parse of the program. -/
import Derived.Test.YtilfggnhaehbcaaPM
set_option linter.unusedVariables false
set_option linter.unusedSimpArgs false
namespace Go.Proofs.Ytilfggnhaehbcaa.Rx
open Go.RowKit
theorem own_one {w : World} {B g : Nat} {t : TypeId} {v : Value} (h : Blk w g t [v]) (hB : B ≤ g) : w.ownsRow B t 1 (.slice (some ⟨g, 0, none⟩) 1 1) 1 [v] := ⟨rfl, .inr ⟨g, 1, [v].toArray, rfl, hB, h, Nat.le_refl _, by decide, rfl, rfl⟩⟩
set_option maxHeartbeats 4000000 in
set_option maxRecDepth 100000 in
theorem expression_step (ra : Nat) (s : ByteArray) (hs : s.size ≤ 1000) (IH : ∀ (s' : ByteArray) w, s'.size < s.size → Rd w ra s' false → Calls Try.prog 37 #[.pointer (some ⟨ra, 0, none⟩)] w (ExP ra s' w)) (w : World) (hr : Rd w ra s false) : Calls Try.prog 37 #[.pointer (some ⟨ra, 0, none⟩)] w (ExP ra s w) := by
  have IH := Lib.hid IH
  have KR := Lib.hid hr
  have RL := Lib.hid hr.lt
  clear hr
  obtain ⟨i0, hi, hz0, hz1, hz2⟩ := info_parts info43
  have HI := Lib.hid hi
  have HZ0 := Lib.hid hz0
  have HZ1 := Lib.hid hz1
  have HZ2 := Lib.hid hz2
  clear hi hz0 hz1 hz2
  have CA : Hid (∀ (sk : ByteArray) w, sk.size ≤ s.size → Rd w ra sk false → Calls Try.prog 48 #[.pointer (some ⟨ra, 0, none⟩)] w (AlP ra sk w)) := fun sk w h hw => alternative_any ra sk (by omega) (fun s' w h2 hw => IH.out s' w (by omega) hw) w hw
  clear IH
  go_enter Try.func37, Try.ntmps37
  go_wp2_with fail
  refine (CA.out s _ (Nat.le_refl _) KR.out).mono ?_
  rintro e w1 ⟨a, v, s1, b1', rfl, V1, R1, b1, hs1, H1⟩
  obtain ⟨A, cap, rfl, F1⟩ : ∃ A cap, v = .slice A a.length cap ∧ Hid (FsV w1 (Fresh w w1) A a) := V1.out
  clear V1
  go_wp2_with fail
  have k2 := Blk.new w1 43 [.slice A a.length cap]
  have O0 : Hid ((w1.alloc (.cells [.slice A a.length cap].toArray 43)).ownsRow w.heap.size 43 1 (.slice (some ⟨w1.heap.size, 0, none⟩) 1 1) [a].length [.slice A a.length cap]) := own_one k2 b1.out.size
  have L0 : Hid (AltL (w1.alloc (.cells [.slice A a.length cap].toArray 43)) (Tr w (w1.alloc (.cells [.slice A a.length cap].toArray 43)) (.slice (some ⟨w1.heap.size, 0, none⟩) 1 1)) [.slice A a.length cap] [a]) := by
    refine AltL.snoc (xs := []) (e := []) (AltL.nil _ _) (F1.out.keep (fun k hk => ?_) (fun b j hb => World.cell?_alloc_lt _ _ _ hb.2))
    refine ⟨hk.1, by rw [World.size_alloc]; have := hk.2; omega, fun e => ?_⟩
    have e : some k = some w1.heap.size := e
    injection e with e
    have := hk.2
    omega
  have R0 : Hid (Rd (w1.alloc (.cells [.slice A a.length cap].toArray 43)) ra s1 b1') := R1.out.below ((Below.refl _ _).alloc (Nat.le_refl _) _)
  have B0 : Hid (But (· = ra) w (w1.alloc (.cells [.slice A a.length cap].toArray 43))) := b1.out.alloc _
  have S0 : Hid (ExSt s.data.toList [a] s1.data.toList b1') := ExSt.start H1.out
  clear k2 F1 R1 b1 H1 KR
  go_loopw [3] (fun v wr => ∃ (x : List (List Pe)) (xs : List Value) (sk : ByteArray) (bk : Bool), x ≠ [] ∧ sk.size ≤ s.size ∧ Hid (wr.ownsRow w.heap.size 43 1 v x.length xs) ∧ Hid (AltL wr (Tr w wr v) xs x) ∧ Hid (Rd wr ra sk bk) ∧ Hid (But (· = ra) w wr) ∧ Hid (ExSt s.data.toList x sk.data.toList bk)) (fun _ wr => lenR ra wr)
  case atStart => exact ⟨[a], _, s1, b1', by simp, hs1, O0, L0, R0, B0, S0⟩
  case round =>
    clear O0 L0 R0 B0 S0
    obtain ⟨x, xs, sk, bk, hx, hsk, HO, HR, HD, HB, HS⟩ := hrel
    have HX := Lib.hid hx
    clear hx
    go_wp2_with fail
    refine (skip_any ⟨#[124]⟩ ra sk bk (by omega) _ HD.out).mono ?_
    intro e w2 hsk2
    obtain ⟨h1, h2, h3, -⟩ := hsk2
    cases hb : beg [124] sk.data.toList with
    | false =>
      obtain ⟨rfl, h4⟩ := h2 hb
      have HE : Hid (ExP ra s w (.returned u3) w2) := by
        have hT : ∀ b j, Tr w wr u3 b → w2.cell? ⟨b, j, none⟩ = wr.cell? ⟨b, j, none⟩ := fun b j hb => h3.cell (p := ⟨b, j, none⟩) hb.2.1 (by have := hb.1; have := RL.out; show ¬ b = ra; omega)
        have O2 : w2.ownsRow w.heap.size 43 1 u3 x.length xs := HO.out.kept (row := some ra) ⟨h3.os, h3.tape, h3.output, h3.size, fun k hk hne => h3.block k hk (fun e => hne (by rw [e]))⟩ (by
          by_cases hv : u3.ownBlock = none
          · exact .inl hv
          · right; intro e; have := (World.ownsRow.lt HO.out ra e).1; have := RL.out; omega)
        obtain ⟨b, c, hv, hbt, hal⟩ := AltsV.of_own (T := Fresh w w2) O2 (HR.out.keep (fun k hk => ⟨hk.1, Nat.lt_of_lt_of_le hk.2.1 h3.size⟩) hT) (fun g hg => World.ownsRow.lt O2 g hg) HX.out
        exact ⟨x, u3, sk, bk, rfl, ⟨⟨HX.out, by have h := HS.out.few; rw [size_len] at h; omega⟩, b, c, hv, hbt, hal⟩, h4, HB.out.trans h3 (fun _ _ h => h), hsk, HS.out.end_ hb⟩
      clear h1 h2 h3 h4 hb HO HR HS
      go_wp2_with fail
      go_ret
      exact HE.out
    | true =>
      obtain ⟨rfl, h4⟩ := h1 hb
      have hz := beg_pos hb
      obtain rfl : bk = false := by
        cases bk with
        | false => rfl
        | true => have := empty_size HS.out.nil; omega
      have HL : Hid (sk.data.toList = 124 :: (sk.extract 1 sk.size).data.toList) := by
        obtain ⟨r, hr⟩ := beg_one hb
        have hd := data_cons hz
        rw [hd] at hr
        injection hr with e1 e2
        rw [e1] at hd
        exact hd
      have R2 := Lib.hid h4
      have b2 := Lib.hid h3
      have HE1 : Hid ((sk.extract 1 sk.size).size < sk.size) := by show _ < _; rw [ByteArray.size_extract]; omega
      have LM := Lib.hid (lenR_of HD.out)
      have HN := Lib.hid HS.out.count
      clear h1 h2 h3 h4 hb HD
      go_wp2_with fail
      refine (CA.out _ _ (by have := HE1.out; omega) R2.out).mono ?_
      rintro e w3 ⟨a3, v3, s3, b3', rfl, V3, R3, b3, hs3, H3⟩
      obtain ⟨A3, cap3, rfl, F3⟩ : ∃ A cap, v3 = .slice A a3.length cap ∧ Hid (FsV w3 (Fresh w2 w3) A a3) := V3.out
      have ST : Hid (ExSt s.data.toList (x ++ [a3]) s3.data.toList b3') := by
        have h := HS.out
        rw [HL.out] at h
        exact h.step H3.out
      have hnl : x.length ≤ 1001 := by have := HN.out; rw [size_len, size_len] at this; omega
      have B23 : Hid (But (· = ra) wr w3) := b2.out.trans b3.out (fun _ _ h => h)
      have SZ : Hid (w.heap.size ≤ wr.heap.size ∧ wr.heap.size ≤ w2.heap.size ∧ w2.heap.size ≤ w3.heap.size ∧ ra < w.heap.size) := ⟨HB.out.size, b2.out.size, b3.out.size, RL.out⟩
      have HVL : Hid (∀ k, u3.ownBlock = some k → w.heap.size ≤ k ∧ k < wr.heap.size) := World.ownsRow.lt HO.out
      have O3 : Hid (w3.ownsRow w.heap.size 43 1 u3 x.length xs) := HO.out.kept (row := some ra) ⟨B23.out.os, B23.out.tape, B23.out.output, B23.out.size, fun k hk hne => B23.out.block k hk (fun e => hne (by rw [e]))⟩ (by
          by_cases hv : u3.ownBlock = none
          · exact .inl hv
          · right; intro e; have := (HVL.out ra e).1; have := RL.out; omega)
      clear V3 H3 HS HL HN b2 b3 HO
      go_wp2_with (first
        | (at_builtin; refine wpList_append_own_at _ rfl (.tmp 9) (.tmp 12) 38 rfl w.heap.size 43 i0 (.slice none 0 0) 1 24 Try.underlying38 HI.out HZ0.out HZ1.out HZ2.out rfl (by decide) u3 x.length xs rfl (O3.out.alloc _) ⟨w3.heap.size, 0, none⟩ 1 1 [.slice A3 a3.length cap3] rfl rfl (fun j u hu => by have h := (Blk.new w3 43 [.slice A3 a3.length cap3]).range j u hu; rw [Nat.zero_add] at h; rw [Addr.add_mid, Nat.zero_add]; exact h) (by simp [Value.oneCell']) (by simp only [maxLen]; omega) (by omega) (by have := SZ.out; rw [World.size_alloc]; omega) ?_; intro v5 w5 ho5 hg5 _ hor5; have O5 := Lib.hid ho5; have G5 := Lib.hid hg5; have OR5 := Lib.hid hor5; clear ho5 hg5 hor5))
      have b4 : Hid (Below w3.heap.size w3 (w3.alloc (.cells [.slice A3 a3.length cap3].toArray 43))) := (Below.refl _ _).alloc (Nat.le_refl _) _
      have RW : Hid (AltL w5 (Tr w w5 v5) (xs ++ [.slice A3 a3.length cap3]) (x ++ [a3])) := by
        refine AltL.snoc (HR.out.keep (fun k hk => ?_) (tr_old RL.out B23.out b4.out G5.out)) (F3.out.keep (fun k hk => ?_) (tr_new (wr := w2) (fun k hk => by have := (HVL.out k hk).2; have := SZ.out; omega) b4.out G5.out))
        · exact tr_in (wr := wr) hk.1 (by have := hk.2.1; have := SZ.out; rw [World.size_alloc]; omega) hk.2.2 G5.out OR5.out
        · exact tr_in (wr := wr) (by have := hk.1; have := SZ.out; omega) (by have := hk.2; rw [World.size_alloc]; omega) (fun e => by have := (HVL.out k e.symm).2; have := hk.1; have := SZ.out; omega) G5.out OR5.out
      have R5 : Hid (Rd w5 ra s3 b3') := (G5.out.block ra (by have := SZ.out; rw [World.size_alloc]; omega) (fun e => by have := (HVL.out ra e.symm).1; have := SZ.out; omega)).trans (R3.out.below b4.out)
      have B5 : Hid (But (· = ra) w w5) := ((HB.out.trans B23.out (fun _ _ h => h)).add b4.out).grown G5.out (fun k e hk => by have := (HVL.out k e).1; omega)
      have O5' : Hid (w5.ownsRow w.heap.size 43 1 v5 (x ++ [a3]).length (xs ++ [.slice A3 a3.length cap3])) := by
        rw [List.length_append, List.length_singleton]
        exact O5.out
      have LM5 := Lib.hid (lenR_of R5.out)
      clear O5 G5 OR5 HVL SZ b4 R3 F3 O3 HR HB B23
      go_roundw
      case rel => exact ⟨x ++ [a3], _, s3, b3', by simp, by have := HE1.out; omega, O5', RW, R5, B5, ST⟩
      case measure => rw [LM.out, LM5.out]; have := HE1.out; omega
theorem expression_any (ra : Nat) : ∀ (k : Nat) (s : ByteArray) (w : World), s.size ≤ k → k ≤ 1000 → Rd w ra s false → Calls Try.prog 37 #[.pointer (some ⟨ra, 0, none⟩)] w (ExP ra s w)
  | 0, s, w, h, hk, hr => expression_step ra s (by omega) (fun s' w h2 _ => by omega) w hr
  | k + 1, s, w, h, hk, hr => expression_step ra s (by omega) (fun s' w h2 hr' => expression_any ra k s' w (by omega) (by omega) hr') w hr
/-- What parsing returns. -/
def ParP (s : ByteArray) (w : World) (e : Ending) (w' : World) : Prop :=
  ∃ (v : Value) (n : Int), e = .returned (.tuple #[v, .int .i64 n]) ∧ Hid (Below w.heap.size w w') ∧ Hid (n = check s.data.toList) ∧ Hid (check s.data.toList = 0 → ∃ x, ExV w' (Fresh w w') v x ∧ parse s.data.toList = some (.alt (reE x)) ∧ wE x ≤ 200)
theorem check_yes {l : List UInt8} {r : Re} (h : l.length ≤ 200) (hp : parse l = some r) : check l = 0 := check_ok.2 ⟨h, r, hp⟩
theorem check_no {l : List UInt8} (h : l.length ≤ 200) (hp : parse l = none) : check l = 3 := by unfold check; rw [if_neg (by omega), hp]; rfl
set_option maxHeartbeats 4000000 in
set_option maxRecDepth 100000 in
theorem parse_any (s : ByteArray) (hs : s.size ≤ maxLen) (w : World) : Calls Try.prog 28 #[.string s] w (ParP s w) := by
  unfold maxLen at hs
  by_cases hlt : 200 < s.size
  · have HR : Hid (check s.data.toList = 4) := by show check _ = 4; unfold check; rw [if_pos (by rw [size_len]; exact hlt)]
    go_enter Try.func28, Try.ntmps28
    go_wp2_with fail
    go_ret2
    exact ⟨.slice none 0 0, 4, rfl, Below.refl _ _, HR.out.symm, fun h => by rw [HR.out] at h; cases h⟩
  · have CE := Lib.hid (expression_any w.heap.size 1000 s (w.alloc (.cells #[Value.string s, Value.bool false] 60)) (by omega) (by omega) (show Blk _ _ _ _ from Blk.new w 60 [Value.string s, Value.bool false]))
    go_enter Try.func28, Try.ntmps28
    go_wp2_with fail
    refine CE.out.mono ?_
    rintro e w1 ⟨x, v, s1, bb, rfl, V1, R1, b1, hs1, H1⟩
    obtain ⟨h1, h2, -, -⟩ := R1.out.cells
    have B1 : Hid (Below w.heap.size w w1) := ((Below.refl _ _).alloc (Nat.le_refl _) _).trans (b1.out.below (by simp) (fun n hn => by omega))
    cases bb with
    | true =>
      have HR : Hid (check s.data.toList = 3) := check_no (by rw [size_len]; omega) (by rw [parse_ex, (H1.out.no rfl).1])
      clear H1
      go_wp2_with fail
      go_ret2
      exact ⟨.slice none 0 0, 3, rfl, B1, HR.out.symm, fun h => by rw [HR.out] at h; cases h⟩
    | false =>
      rcases Nat.eq_zero_or_pos s1.size with h0 | h0
      · have he := emp_true h0
        have HP : Hid (parse s.data.toList = some (.alt (reE x)) ∧ wE x ≤ 200) := by
          have h := H1.out.ok rfl
          have hl : s1.data.toList = [] := List.length_eq_zero_iff.1 (by rw [size_len]; exact h0)
          rw [hl] at h
          refine ⟨by rw [parse_ex, h.1], ?_⟩
          have := h.2.2
          rw [size_len] at this
          simp at this
          omega
        have HR : Hid (check s.data.toList = 0) := check_yes (by rw [size_len]; omega) HP.out.1
        clear H1 h0
        go_wp2_with fail
        go_ret2
        exact ⟨v, 0, rfl, B1, HR.out.symm, fun _ => ⟨x, V1.out.keep (fun k hk => ⟨by have := hk.1; rw [World.size_alloc] at this; omega, hk.2⟩) (fun _ _ _ => rfl), HP.out⟩⟩
      · have he := emp_false h0
        have HR : Hid (check s.data.toList = 3) := check_no (by rw [size_len]; omega) (by
          have h := (H1.out.ok rfl).1
          rw [data_cons h0] at h
          rw [parse_ex, h])
        clear H1
        go_wp2_with fail
        go_ret2
        exact ⟨.slice none 0 0, 3, rfl, B1, HR.out.symm, fun h => by rw [HR.out] at h; cases h⟩
set_option maxHeartbeats 1000000 in
theorem check_any (s : ByteArray) (hs : s.size ≤ maxLen) (w : World) : Calls Try.prog 17 #[.string s] w fun e w' => e = .returned (.int .i64 (check s.data.toList)) ∧ Hid (Below w.heap.size w w') := by
  go_enter Try.func17, Try.ntmps17
  go_wp2_with fail
  refine (parse_any s hs w).mono ?_
  rintro e w1 ⟨v, n, rfl, b1, hn, -⟩
  go_wp2_with fail
  go_ret
  exact ⟨by rw [← hn.out]; rfl, b1⟩
end Go.Proofs.Ytilfggnhaehbcaa.Rx
