/- Layer 6: alternative and expression of the program. -/
import Derived.Laws.AppendOwnNone
import Derived.Maps.AppendAt
import Derived.OwnWalk
import Derived.Test.YtilfggnhaehbcaaPL
set_option linter.unusedVariables false
set_option linter.unusedSimpArgs false
namespace Go.Proofs.Ytilfggnhaehbcaa.Rx
open Go.RowKit
/-- The blocks of a call's own, but the row that it grows. -/
def Tr (w wr : World) (v : Value) (n : Nat) : Prop := w.heap.size ≤ n ∧ n < wr.heap.size ∧ some n ≠ v.ownBlock
theorem tr_old {ra : Nat} {w wr w1 w2 w3 : World} {v : Value} (hra : ra < w.heap.size) (h1 : But (· = ra) wr w1) (h2 : Below w1.heap.size w1 w2) (h3 : w2.grownBy w3 v.ownBlock) : ∀ b j, Tr w wr v b → w3.cell? ⟨b, j, none⟩ = wr.cell? ⟨b, j, none⟩ := fun b j hb => by
  have e1 := h1.cell (p := ⟨b, j, none⟩) hb.2.1 (by have := hb.1; show ¬ b = ra; omega)
  have e2 := h2.cell (p := ⟨b, j, none⟩) (Nat.lt_of_lt_of_le hb.2.1 h1.size)
  have e3 : w3.cell? ⟨b, j, none⟩ = w2.cell? ⟨b, j, none⟩ := World.cell?_of_block (w := w2) (h3.block b (by have := hb.2.1; have := h1.size; have := h2.size; omega) hb.2.2)
  exact e3.trans (e2.trans e1)
theorem tr_new {wr w1 w2 w3 : World} {v : Value} (hv : ∀ k, v.ownBlock = some k → k < wr.heap.size) (h2 : Below w1.heap.size w1 w2) (h3 : w2.grownBy w3 v.ownBlock) : ∀ b j, Fresh wr w1 b → w3.cell? ⟨b, j, none⟩ = w1.cell? ⟨b, j, none⟩ := fun b j hb => by
  have e2 := h2.cell (p := ⟨b, j, none⟩) hb.2
  have e3 : w3.cell? ⟨b, j, none⟩ = w2.cell? ⟨b, j, none⟩ := World.cell?_of_block (w := w2) (h3.block b (by have := hb.2; have := h2.size; omega) (fun e => by have := hv b e.symm; have := hb.1; omega))
  exact e3.trans e2
theorem tr_in {w wr w2 w3 : World} {v v' : Value} {b : Nat} (hb : w.heap.size ≤ b) (hb2 : b < w2.heap.size) (hne : some b ≠ v.ownBlock) (h3 : w2.grownBy w3 v.ownBlock) (ho : v'.ownBlock = v.ownBlock ∨ v'.ownBlock = some w2.heap.size) : Tr w w3 v' b := by
  refine ⟨hb, Nat.lt_of_lt_of_le hb2 h3.size, ?_⟩
  rcases ho with h | h
  · rw [h]; exact hne
  · rw [h]
    intro e
    injection e with e
    omega
/-- How much is left. -/
def lenR (ra : Nat) (w : World) : Nat := match w.cell? ⟨ra, 0, none⟩ with
  | some (.string s) => s.size
  | _ => 0
theorem lenR_of {ra : Nat} {w : World} {s : ByteArray} {b : Bool} (h : Rd w ra s b) : lenR ra w = s.size := by unfold lenR; rw [h.cells.1]
theorem AltSt.nil {l now l'} (h : AltSt l now l' true) : l' = [] := by cases h with | failed _ h => exact h
theorem ExSt.nil {l l' x} (h : ExSt l x l' true) : l' = [] := by cases h with | failed _ h _ => exact h
theorem beg_two {l : List UInt8} (h : beg [124, 41] l = true) : (∃ r, l = 41 :: r) ∨ ∃ r, l = 124 :: r := by
  cases l with
  | nil => cases h
  | cons c r =>
    have : c = 124 ∨ c = 41 := by simpa [beg] using h
    rcases this with rfl | rfl
    · exact .inr ⟨r, rfl⟩
    · exact .inl ⟨r, rfl⟩
theorem FacRel.less {l l' : List UInt8} {b : Bool} {p : Pe} (h : FacRel l l' b p) (h0 : 0 < l.length) : l'.length < l.length := by
  cases b with
  | true => rw [(h.no rfl).2]; exact h0
  | false =>
    have := (h.ok rfl).1
    have := wF_pos p
    omega
set_option maxHeartbeats 4000000 in
set_option maxRecDepth 100000 in
theorem alternative_any (ra : Nat) (s : ByteArray) (hs : s.size ≤ 1000) (IH : ∀ (s' : ByteArray) w, s'.size < s.size → Rd w ra s' false → Calls Try.prog 37 #[.pointer (some ⟨ra, 0, none⟩)] w (ExP ra s' w)) (w : World) (hr : Rd w ra s false) : Calls Try.prog 48 #[.pointer (some ⟨ra, 0, none⟩)] w (AlP ra s w) := by
  have IH := Lib.hid IH
  have KR := Lib.hid hr
  have RL := Lib.hid hr.lt
  clear hr
  obtain ⟨i0, hi, hz0, hz1, hz2⟩ := info_parts info47
  have HI := Lib.hid hi
  have HZ0 := Lib.hid hz0
  have HZ1 := Lib.hid hz1
  have HZ2 := Lib.hid hz2
  have HZS : Hid ((Value.agg Z47.toArray).cells.size = 260) := by show (Value.agg Z47.toArray).cells.size = 260; simp [Value.cells, Z47_len]
  have I47 : Hid ((Try.prog.info? 47).map (fun i => (i.zero, i.size)) = some (some (.agg Z47.toArray), 260)) := by show Option.map _ _ = _; rw [hi]; simp [hz0, hz1]
  clear hi hz0 hz1 hz2
  generalize Value.agg Z47.toArray = zz at *
  go_enter Try.func48, Try.ntmps48
  go_wp2_with fail
  go_loopw [3] (fun v wr => ∃ (now : List Pe) (xs : List Value) (sk : ByteArray) (bk : Bool), sk.size ≤ s.size ∧ Hid (wr.ownsRow w.heap.size 47 260 v now.length xs) ∧ Hid (RowL wr (Tr w wr v) xs now) ∧ Hid (Rd wr ra sk bk) ∧ Hid (But (· = ra) w wr) ∧ Hid (AltSt s.data.toList now sk.data.toList bk)) (fun _ wr => lenR ra wr)
  case atStart => exact ⟨[], [], s, false, Nat.le_refl _, World.ownsRow_nil _ _ _ _, RowL.nil _ _, KR.out, But.refl _ _, .go (fun _ => rfl) (by rw [wA]; omega)⟩
  case round =>
    obtain ⟨now, xs, sk, bk, hsk, HO, HR, HD, HB, HS⟩ := hrel
    obtain ⟨h1, -, -, -⟩ := HD.out.cells
    have FIN : Hid (AltRel s.data.toList sk.data.toList bk now → AlP ra s w (.returned u3) wr) := fun hrel => by
      obtain ⟨A, cap, hv, hf⟩ := FsV.of_own (T := Fresh w wr) HO.out (HR.out.keep (fun k hk => ⟨hk.1, hk.2.1⟩) (fun _ _ _ => rfl)) (fun g hg => World.ownsRow.lt HO.out g hg)
      exact ⟨now, u3, sk, bk, rfl, ⟨A, cap, hv, hf⟩, HD.out, HB.out, hsk, hrel⟩
    rcases Nat.eq_zero_or_pos sk.size with h0 | h0
    · have he := emp_true h0
      have HE : Hid (AlP ra s w (.returned u3) wr) := FIN.out (HS.out.end_ (.inl (List.length_eq_zero_iff.1 (by rw [size_len]; exact h0))))
      clear h0 FIN
      go_wp2_with fail
      go_ret
      exact HE.out
    · have he := emp_false h0
      obtain rfl : bk = false := by
        cases bk with
        | false => rfl
        | true => have := empty_size HS.out.nil; omega
      have CB := Lib.hid (begins_any ra ⟨#[124, 41]⟩ sk false wr HD.out)
      cases hb : beg [124, 41] sk.data.toList with
      | true =>
        have CB1 : Hid (Calls Try.prog 58 #[.pointer (some ⟨ra, 0, none⟩), .string ⟨#[124, 41]⟩] wr fun e w' => e = .returned (.bool true) ∧ wr = w') := by rw [← hb]; exact CB.out
        have HE : Hid (AlP ra s w (.returned u3) wr) := FIN.out (HS.out.end_ (.inr (beg_two hb)))
        clear hb CB FIN
        go_wp2_with (first
    | (go_at_call 58; (with_reducible refine (CB1.out).mono ?_); rintro e w' ⟨rfl, rfl⟩))
        go_ret
        exact HE.out
      | false =>
        have CB1 : Hid (Calls Try.prog 58 #[.pointer (some ⟨ra, 0, none⟩), .string ⟨#[124, 41]⟩] wr fun e w' => e = .returned (.bool false) ∧ wr = w') := by rw [← hb]; exact CB.out
        have HC : Hid (sk[0] ≠ 41 ∧ sk[0] ≠ 124) := by
          rw [beg_cons _ h0] at hb
          exact ⟨fun e => (by rw [e] at hb; cases hb), fun e => (by rw [e] at hb; cases hb)⟩
        have CF := Lib.hid (fun w hw => factor_any ra sk (by omega) (fun w hw => atom_any ra sk (by omega) h0 (fun s' w h hw => IH.out s' w (by omega) hw) w hw) w hw)
        have HN := Lib.hid HS.out.count
        clear hb CB FIN
        go_wp2_with (first
    | (go_at_call 58; (with_reducible refine (CB1.out).mono ?_); rintro e w' ⟨rfl, rfl⟩))
        refine (CF.out _ HD.out).mono ?_
        rintro e w1 ⟨p, C, s1, b1', rfl, P1, R1, b1, hs1, H1⟩
        have HCL := Lib.hid P1.out.len
        have HNL : Hid (now.length ≤ 1000) := by have := HN.out; rw [size_len, size_len] at this; show now.length ≤ 1000; omega
        have HLT : Hid (s1.size < sk.size) := by
          have := H1.out.less (by rw [size_len]; exact h0)
          rw [size_len, size_len] at this
          exact this
        have ST : Hid (AltSt s.data.toList (now ++ [p]) s1.data.toList b1') := HS.out.step (data_cons h0) HC.out.1 HC.out.2 H1.out
        have LM := Lib.hid (lenR_of HD.out)
        clear he h1 HS HN HC CB1 CF HD
        have hnl := HNL.out
        go_wp2_with (first
          | ((with_reducible refine wpList_buildSlice_abs (o := ⟨_, .buildSlice 43 1 #[(0, .tmp 16)], _, _, _, _⟩) rfl 43 47 _ rfl C ?_ 260 HCL.out.1 (by decide) (by decide) zz Try.underlying43 I47.out ?_); (· rfl); intro g2 w2 e2 k2 b2 s2)
          | (at_builtin; refine wpList_append_own_at _ rfl (.tmp 14) (.tmp 17) 43 rfl w.heap.size 47 i0 zz 260 288 Try.underlying43 HI.out HZ0.out HZ1.out HZ2.out HZS.out (by decide) u3 now.length xs rfl ((HO.out.kept (row := some ra) ⟨b1.out.os, b1.out.tape, b1.out.output, b1.out.size, fun k hk hne => b1.out.block k hk (fun e => hne (by rw [e]))⟩ (by by_cases hv : u3.ownBlock = none; exact .inl hv; right; intro e; have := (World.ownsRow.lt HO.out ra e).1; have := RL.out; omega)).kept (row := none) ⟨b2.out.os, b2.out.tape, b2.out.output, b2.out.size, fun k hk _ => b2.out.block k hk⟩ (by by_cases hv : u3.ownBlock = none; exact .inl hv; exact .inr hv)) ⟨g2, 0, none⟩ 1 1 C rfl (by rw [HCL.out.1]) (fun j u hu => by have h := k2.out.range j u hu; rw [Nat.zero_add] at h; rw [Addr.add_mid, Nat.zero_add]; exact h) HCL.out.2 (by simp only [maxLen]; omega) (by omega) (by have := HB.out.size; have := b1.out.size; have := b2.out.size; omega) ?_; intro v3 w3 ho3 hg3 _ hor3; have O3 := Lib.hid ho3; have G3 := Lib.hid hg3; have OR3 := Lib.hid hor3; clear ho3 hg3 hor3))
        have HVL : Hid (∀ k, u3.ownBlock = some k → w.heap.size ≤ k ∧ k < wr.heap.size) := World.ownsRow.lt HO.out
        have SZ : Hid (w.heap.size ≤ wr.heap.size ∧ wr.heap.size ≤ w1.heap.size ∧ w1.heap.size ≤ w2.heap.size ∧ ra < w.heap.size) := ⟨HB.out.size, b1.out.size, b2.out.size, RL.out⟩
        have RW : Hid (RowL w3 (Tr w w3 v3) (xs ++ C) (now ++ [p])) := by
          refine RowL.snoc (HR.out.keep (fun k hk => ?_) (tr_old RL.out b1.out b2.out G3.out)) (PeV.keep (fun k hk => ?_) (tr_new (fun k hk => (HVL.out k hk).2) b2.out G3.out) P1.out)
          · exact tr_in (wr := wr) hk.1 (by have := hk.2.1; have := SZ.out; omega) hk.2.2 G3.out OR3.out
          · exact tr_in (wr := wr) (by have := hk.1; have := SZ.out; omega) (by have := hk.2; have := SZ.out; omega) (fun e => by have := (HVL.out k e.symm).2; have := hk.1; omega) G3.out OR3.out
        have R3 : Hid (Rd w3 ra s1 b1') := (G3.out.block ra (by have := SZ.out; omega) (fun e => by have := (HVL.out ra e.symm).1; have := SZ.out; omega)).trans (R1.out.below b2.out)
        have B3 : Hid (But (· = ra) w w3) := ((HB.out.trans b1.out (fun _ _ h => h)).add b2.out).grown G3.out (fun k e hk => by have := (HVL.out k e).1; omega)
        have O3' : Hid (w3.ownsRow w.heap.size 47 260 v3 (now ++ [p]).length (xs ++ C)) := by
          rw [List.length_append, List.length_singleton]
          exact O3.out
        have LM3 := Lib.hid (lenR_of R3.out)
        clear O3 G3 OR3 HVL SZ e2 k2 b2 s2 b1 P1 R1 HO HR HB
        go_roundw
        case rel => exact ⟨now ++ [p], xs ++ C, s1, b1', by have := HLT.out; omega, O3', RW, R3, B3, ST⟩
        case measure => rw [LM.out, LM3.out]; exact HLT.out
end Go.Proofs.Ytilfggnhaehbcaa.Rx
