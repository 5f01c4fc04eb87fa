/- Layer 6: factor of the automaton: loops. -/
import Derived.Test.YtilfggnhaehbcaaQC
set_option linter.unusedVariables false
set_option linter.unusedSimpArgs false
namespace Go.Proofs.Ytilfggnhaehbcaa.Rx
open Go.RowKit
theorem cT_len (p : Pe) (m : List Nd) (nx : Nat) : (cT p m nx).2.length = m.length + wT p := by
  cases p with
  | byte c r => show (m ++ [_]).length = _; rw [List.length_append]; rfl
  | cls f r => show (m ++ [_]).length = _; rw [List.length_append]; rfl
  | sub e r => show (cE e m nx).2.length = _; rw [cE_len]; show _ = m.length + (1 + wE e); omega
theorem cT_first (p : Pe) (m : List Nd) (nx : Nat) (h : nx < m.length) : (cT p m nx).1 < (cT p m nx).2.length := by
  cases p with
  | byte c r => exact (cL_wh _ m nx h).first
  | cls f r => exact (cL_wh _ m nx h).first
  | sub e r => exact (cE_wh e m nx h).first
set_option maxHeartbeats 4000000 in
set_option maxRecDepth 100000 in
theorem factor_star (p : Pe) (hp : p.rp = .star) (H : Atom86 p) : Fac81 p := by
  intro B ab v T M nx C w TT ha hpe hTT hnx hM
  rw [cF_cT, hp]
  have hM1 : (M ++ [Nd.hole]).length + 50000 * wT p ≤ 900000000 := by rw [wF_wT, hp] at hM; simp only [wR] at hM; rw [List.length_append, List.length_singleton]; omega
  have hML : M.length ≤ 900000000 := by omega
  have HCL := Lib.hid hpe.len
  have k1 : Hid (Blk (w.alloc (.cells C.toArray 47)) w.heap.size 47 C) := Blk.new w 47 C
  have b1 : Hid (Below w.heap.size w (w.alloc (.cells C.toArray 47))) := (Below.refl _ _).alloc (Nat.le_refl _) _
  have HC9 := Lib.hid hpe.rp
  rw [hp] at HC9
  have c1 : (w.alloc (.cells C.toArray 47)).cell? ⟨w.heap.size, 259, none⟩ = some (.int .u8 42) := (k1.out.cell 259).trans HC9.out
  have A1 : Hid (Aut (w.alloc (.cells C.toArray 47)) B ab v T M) := ha.on (S := fun _ => False) (But.of_below b1.out) (fun _ h => h.elim)
  have CN : Hid (Calls Try.prog 66 #[.pointer (some ⟨ab, 0, none⟩), Value.nilFunc] (w.alloc (.cells C.toArray 47)) (AddP ab B v (fun n => T n ∨ False) (w.alloc (.cells C.toArray 47)) M.length (M ++ [.hole]))) := add_any_ ab B v _ T (fun _ => False) M .hole _ A1.out rfl (fun _ h => h.elim) (by omega)
  have HPE := Lib.hid hpe
  have HTT := Lib.hid hTT
  have HLT : Hid (B ≤ ab ∧ ab < w.heap.size ∧ ∀ k, v.ownBlock = some k → k < w.heap.size) := ⟨ha.base, ha.lt, fun k hk => (ha.rowLt k hk).2⟩
  have CH : Hid (∀ v2 T2 w2, Aut w2 B ab v2 T2 (M ++ [.hole]) → PeV w2 TT C p → Calls Try.prog 86 #[.pointer (some ⟨ab, 0, none⟩), .agg C.toArray, .int .i64 (M.length : Int)] w2 (AutP ab B v2 T2 w2 (cT p (M ++ [.hole]) M.length).1 (cT p (M ++ [.hole]) M.length).2)) := fun v2 T2 w2 h1 h2 => H B ab v2 T2 (M ++ [.hole]) M.length C w2 TT h1 h2 hTT (by omega) hM1
  have HL2 := Lib.hid (cT_len p (M ++ [.hole]) M.length)
  clear ha hpe hTT hM hM1 H
  show Calls _ _ _ _ (AutP ab B v T w M.length ((cT p (M ++ [.hole]) M.length).2.set M.length (.fork [(cT p (M ++ [.hole]) M.length).1, nx])))
  generalize cT p (M ++ [.hole]) M.length = q at *
  obtain ⟨i, M2⟩ := q
  have HM2 : Hid (M.length < M2.length ∧ 0 < M2.length) := by
    have h := HL2.out
    simp only [List.length_append, List.length_singleton] at h
    exact ⟨by omega, by omega⟩
  go_enter Try.func81, Try.ntmps81
  go_wp2_with (first | ((with_reducible refine wpList_load_abs (o := ⟨_, .load 47 (.tmp 4), _, _, _, _⟩) rfl 47 _ rfl w.heap.size 0 ?_ C K2.out.range _ Try.underlying47 rfl 260 size47 HCL.out.1 ?_); (· rfl)) | (go_at_call 66; refine CN.out.mono ?_; rintro e w2 ⟨rfl, v2, a2, b2, r2⟩; have P2 : Hid (PeV w2 TT C p) := (PeV.keep (fun _ h => h) (fun g j hg => by have hgb := HTT.out g hg; have hlt := HLT.out; have e1 := b1.out.cell (p := ⟨g, j, none⟩) (by show g < w.heap.size; omega); have e2 := b2.out.cell (p := ⟨g, j, none⟩) (by show g < (w.alloc _).heap.size; rw [World.size_alloc]; omega) (by intro hs; rcases hs with hs | hs; (have hs : g = ab := hs; omega); (have hr := (A1.out.rowLt g hs.symm).1; omega)); exact e2.trans e1) HPE.out); have K2 : Hid (Blk w2 w.heap.size 47 C) := k1.out.but b2.out (by intro hs; have hlt := HLT.out; rcases hs with hs | hs; omega; (have hr := HLT.out.2.2 w.heap.size hs.symm; omega))))
  refine (CH.out v2 _ _ a2.out P2.out).mono ?_
  rintro e w3 ⟨rfl, v3, T3, a3, b3, r3, t3⟩
  have R3 : Hid (RowTo (w.alloc (.cells C.toArray 47)) v v3) := r2.out.trans r3.out b2.out.size
  have B3 : Hid (But (AutS ab v) (w.alloc (.cells C.toArray 47)) w3) := b2.out.aut b3.out r2.out
  have K3 : Hid (Blk w3 w.heap.size 47 C) := K2.out.but b3.out (by
    intro hs
    have hlt := HLT.out
    rcases hs with hs | hs
    · omega
    · rcases r2.out with h | h
      · have hr := HLT.out.2.2 w.heap.size (by rw [← h]; exact hs.symm)
        omega
      · have := h _ hs.symm
        rw [World.size_alloc] at this
        omega)
  obtain ⟨g, cap, cur, rfl, hgB, hgab, hgh, hgc⟩ := a3.out.form HM2.out.2
  have HG : Hid (B ≤ g ∧ g ≠ ab ∧ g < w3.heap.size ∧ ab < w3.heap.size ∧ w.heap.size < w3.heap.size ∧ g ≠ w.heap.size ∧ w.heap.size + 1 ≤ w3.heap.size) := ⟨hgB, hgab, (Array.getElem?_eq_some_iff.1 hgh).1, a3.out.lt, K3.out.lt, (fun e => by
    have h := K3.out
    have h' : w3.heap[w.heap.size]? = _ := h
    rw [← e, hgh] at h'
    injection h' with h'
    injection h' with _ h2 _
    cases h2), (by have := K3.out.lt; omega)⟩
  obtain ⟨n3, hb3⟩ := a3.out.blk
  have c3 : w3.cell? ⟨ab, 0, none⟩ = some (.slice (some ⟨g, 0, none⟩) M2.length cap) := hb3.cell 0
  have CG := Lib.hid hgh
  have hcg : w3.cell? ⟨g, M.length, none⟩ = some cur[M.length]! := by
    rw [cell_of_row w3 g M.length cur 104 (0, 0) hgh, getElem!_pos cur M.length (by have := HM2.out; omega)]
    exact Array.getElem?_eq_getElem _
  have hfg : w3.frozen? ⟨g, M.length, none⟩ = false := by simp [World.frozen?, hgh]
  generalize cur[M.length]! = oldv at hcg
  have hlab : ab < w3.heap.size := HG.out.2.2.2.1
  have hlg : g < w3.heap.size := HG.out.2.2.1
  have hne : g ≠ w3.heap.size := by omega
  have hne2 : g ≠ w3.heap.size + 1 := by omega
  have hMM : (M.length : Int) < (M2.length : Int) := by have := HM2.out; omega
  have CF := Lib.hid (fun wx => fork_any (some ⟨w3.heap.size, 0, none⟩) 2 2 wx)
  clear hb3 hgB hgab hgh hgc c1
  have mixed : Try.prog.follows .mixedOrders = true := by kernel_rfl
  go_wp2_with fail
  have hcW : (((w3.alloc (.cells #[.int .i64 (i : Int), .int .i64 (nx : Int)] 3)).alloc (.cells #[.slice (some ⟨w3.heap.size, 0, none⟩) 2 2] 78)).drew).cell? ⟨g, M.length, none⟩ = some oldv := by
    rw [World.cell?_drew, World.cell?_alloc_lt _ _ _ (by rw [World.size_alloc]; show g < _; omega), World.cell?_alloc_lt _ _ _ (by show g < _; omega)]
    exact hcg
  have hfW : (((w3.alloc (.cells #[.int .i64 (i : Int), .int .i64 (nx : Int)] 3)).alloc (.cells #[.slice (some ⟨w3.heap.size, 0, none⟩) 2 2] 78)).drew).frozen? ⟨g, M.length, none⟩ = false := by
    have h1 : But (fun _ => False) w3 (((w3.alloc (.cells #[.int .i64 (i : Int), .int .i64 (nx : Int)] 3)).alloc (.cells #[.slice (some ⟨w3.heap.size, 0, none⟩) 2 2] 78)).drew) := (((But.refl _ w3).alloc _).alloc _).drew
    rw [h1.frozen (p := ⟨g, M.length, none⟩) hlg (fun h => h)]
    exact hfg
  have BW : Hid (Below w3.heap.size w3 (((w3.alloc (.cells #[.int .i64 (i : Int), .int .i64 (nx : Int)] 3)).alloc (.cells #[.slice (some ⟨w3.heap.size, 0, none⟩) 2 2] 78)).drew)) := (((Below.refl _ w3).alloc (Nat.le_refl _) _).alloc (by simp) _).drew
  have NW : Hid (NdV (((w3.alloc (.cells #[.int .i64 (i : Int), .int .i64 (nx : Int)] 3)).alloc (.cells #[.slice (some ⟨w3.heap.size, 0, none⟩) 2 2] 78)).drew) (fun n => w3.heap.size ≤ n ∧ n < w3.heap.size + 2) (.func (.func 82) #[] #[.pointer (some ⟨w3.heap.size + 1, 0, none⟩)]) (.fork [i, nx])) := pair_fork w3 i nx
  have hst : (store ⟨g, M.length, none⟩ (.func (.func 82) #[] #[.pointer (some ⟨w3.heap.size + 1, 0, none⟩)])).run Try.prog (((w3.alloc (.cells #[.int .i64 (i : Int), .int .i64 (nx : Int)] 3)).alloc (.cells #[.slice (some ⟨w3.heap.size, 0, none⟩) 2 2] 78)).drew) = .ok () ((((w3.alloc (.cells #[.int .i64 (i : Int), .int .i64 (nx : Int)] 3)).alloc (.cells #[.slice (some ⟨w3.heap.size, 0, none⟩) 2 2] 78)).drew).setCell ⟨g, M.length, none⟩ (.func (.func 82) #[] #[.pointer (some ⟨w3.heap.size + 1, 0, none⟩)])) := by
    rw [run_store Try.prog _ _ _ _ rfl, hcW]
    simp [hfW]
  clear hcW hfW
  have EW : (((w3.setCell ⟨g, M.length, none⟩ (.func (.func 82) #[] #[.pointer (some ⟨w3.heap.size + 1, 0, none⟩)])).alloc (.cells #[.int .i64 (i : Int), .int .i64 (nx : Int)] 3)).alloc (.cells #[.slice (some ⟨w3.heap.size, 0, none⟩) 2 2] 78)).drew = (((w3.alloc (.cells #[.int .i64 (i : Int), .int .i64 (nx : Int)] 3)).alloc (.cells #[.slice (some ⟨w3.heap.size, 0, none⟩) 2 2] 78)).drew).setCell ⟨g, M.length, none⟩ (.func (.func 82) #[] #[.pointer (some ⟨w3.heap.size + 1, 0, none⟩)]) := by
    rw [World.setCell_drew, World.setCell_alloc_past _ _ _ _ (by rw [World.size_alloc]; omega), World.setCell_alloc_past _ _ _ _ (by omega)]
  have A4 : Hid (Aut ((((w3.setCell ⟨g, M.length, none⟩ (.func (.func 82) #[] #[.pointer (some ⟨w3.heap.size + 1, 0, none⟩)])).alloc (.cells #[.int .i64 (i : Int), .int .i64 (nx : Int)] 3)).alloc (.cells #[.slice (some ⟨w3.heap.size, 0, none⟩) 2 2] 78)).drew) B ab (.slice (some ⟨g, 0, none⟩) (M2.set M.length (.fork [i, nx])).length cap) (fun n => T3 n ∨ (w3.heap.size ≤ n ∧ n < w3.heap.size + 2)) (M2.set M.length (.fork [i, nx]))) := by
    rw [EW]
    exact (a3.out.on (S := fun _ => False) (But.of_below BW.out) (fun _ h => h.elim)).write HM2.out.1 NW.out (pair_ta a3.out (by simp))
  have c5 : ((((w3.setCell ⟨g, M.length, none⟩ (.func (.func 82) #[] #[.pointer (some ⟨w3.heap.size + 1, 0, none⟩)])).alloc (.cells #[.int .i64 (i : Int), .int .i64 (nx : Int)] 3)).alloc (.cells #[.slice (some ⟨w3.heap.size, 0, none⟩) 2 2] 78)).drew).cell? ⟨w.heap.size, 259, none⟩ = some (.int .u8 42) := by
    rw [EW]
    exact (((K3.out.below BW.out K3.out.lt).setOther (by have := HG.out; show g ≠ _; omega) _).cell 259).trans HC9.out
  have B5 : Hid (But (AutS ab v) (w.alloc (.cells C.toArray 47)) ((((w3.setCell ⟨g, M.length, none⟩ (.func (.func 82) #[] #[.pointer (some ⟨w3.heap.size + 1, 0, none⟩)])).alloc (.cells #[.int .i64 (i : Int), .int .i64 (nx : Int)] 3)).alloc (.cells #[.slice (some ⟨w3.heap.size, 0, none⟩) 2 2] 78)).drew)) := by
    rw [EW]
    exact (B3.out.add BW.out).setCell (p := ⟨g, M.length, none⟩) (fun h => .inr (by
      rcases R3.out with e | e
      · rw [← e]; rfl
      · have := e g rfl
        exact absurd h (by show ¬ g < _; omega))) _
  have TF : Hid (∀ n, (T3 n ∨ (w3.heap.size ≤ n ∧ n < w3.heap.size + 2)) → T n ∨ (w.alloc (.cells C.toArray 47)).heap.size ≤ n) := fun n hn => by
    have h1 := B3.out.size
    have h2 := b2.out.size
    rcases hn with hn | hn
    · rcases t3.out n hn with (h | h) | h
      · exact .inl h
      · exact h.elim
      · exact .inr (by omega)
    · exact .inr (by omega)
  clear EW NW
  go_region_with (go_at_call 74; refine (fork_any _ _ _ _).mono ?_; rintro e w' ⟨rfl, rfl⟩)
  all_goals
    try (go_wp2_with fail)
    go_ret
    refine AutP.of (w0 := w.alloc (.cells C.toArray 47)) ⟨rfl, _, _, A4, B5, ?_, fun n hn => TF.out n hn⟩ b1.out
    rcases R3.out with e | e
    · exact .inl e
    · exact .inr e
set_option maxHeartbeats 4000000 in
set_option maxRecDepth 100000 in
theorem factor_plus (p : Pe) (hp : p.rp = .plus) (H : Atom86 p) : Fac81 p := by
  intro B ab v T M nx C w TT ha hpe hTT hnx hM
  rw [cF_cT, hp]
  have hM1 : (M ++ [Nd.hole]).length + 50000 * wT p ≤ 900000000 := by rw [wF_wT, hp] at hM; simp only [wR] at hM; rw [List.length_append, List.length_singleton]; omega
  have hML : M.length ≤ 900000000 := by omega
  have HCL := Lib.hid hpe.len
  have k1 : Hid (Blk (w.alloc (.cells C.toArray 47)) w.heap.size 47 C) := Blk.new w 47 C
  have b1 : Hid (Below w.heap.size w (w.alloc (.cells C.toArray 47))) := (Below.refl _ _).alloc (Nat.le_refl _) _
  have HC9 := Lib.hid hpe.rp
  rw [hp] at HC9
  have c1 : (w.alloc (.cells C.toArray 47)).cell? ⟨w.heap.size, 259, none⟩ = some (.int .u8 43) := (k1.out.cell 259).trans HC9.out
  have A1 : Hid (Aut (w.alloc (.cells C.toArray 47)) B ab v T M) := ha.on (S := fun _ => False) (But.of_below b1.out) (fun _ h => h.elim)
  have CN : Hid (Calls Try.prog 66 #[.pointer (some ⟨ab, 0, none⟩), Value.nilFunc] (w.alloc (.cells C.toArray 47)) (AddP ab B v (fun n => T n ∨ False) (w.alloc (.cells C.toArray 47)) M.length (M ++ [.hole]))) := add_any_ ab B v _ T (fun _ => False) M .hole _ A1.out rfl (fun _ h => h.elim) (by omega)
  have HPE := Lib.hid hpe
  have HTT := Lib.hid hTT
  have HLT : Hid (B ≤ ab ∧ ab < w.heap.size ∧ ∀ k, v.ownBlock = some k → k < w.heap.size) := ⟨ha.base, ha.lt, fun k hk => (ha.rowLt k hk).2⟩
  have CH : Hid (∀ v2 T2 w2, Aut w2 B ab v2 T2 (M ++ [.hole]) → PeV w2 TT C p → Calls Try.prog 86 #[.pointer (some ⟨ab, 0, none⟩), .agg C.toArray, .int .i64 (M.length : Int)] w2 (AutP ab B v2 T2 w2 (cT p (M ++ [.hole]) M.length).1 (cT p (M ++ [.hole]) M.length).2)) := fun v2 T2 w2 h1 h2 => H B ab v2 T2 (M ++ [.hole]) M.length C w2 TT h1 h2 hTT (by omega) hM1
  have HL2 := Lib.hid (cT_len p (M ++ [.hole]) M.length)
  clear ha hpe hTT hM hM1 H
  show Calls _ _ _ _ (AutP ab B v T w (cT p (M ++ [.hole]) M.length).1 ((cT p (M ++ [.hole]) M.length).2.set M.length (.fork [(cT p (M ++ [.hole]) M.length).1, nx])))
  generalize cT p (M ++ [.hole]) M.length = q at *
  obtain ⟨i, M2⟩ := q
  have HM2 : Hid (M.length < M2.length ∧ 0 < M2.length) := by
    have h := HL2.out
    simp only [List.length_append, List.length_singleton] at h
    exact ⟨by omega, by omega⟩
  go_enter Try.func81, Try.ntmps81
  go_wp2_with (first | ((with_reducible refine wpList_load_abs (o := ⟨_, .load 47 (.tmp 4), _, _, _, _⟩) rfl 47 _ rfl w.heap.size 0 ?_ C K2.out.range _ Try.underlying47 rfl 260 size47 HCL.out.1 ?_); (· rfl)) | (go_at_call 66; refine CN.out.mono ?_; rintro e w2 ⟨rfl, v2, a2, b2, r2⟩; have P2 : Hid (PeV w2 TT C p) := (PeV.keep (fun _ h => h) (fun g j hg => by have hgb := HTT.out g hg; have hlt := HLT.out; have e1 := b1.out.cell (p := ⟨g, j, none⟩) (by show g < w.heap.size; omega); have e2 := b2.out.cell (p := ⟨g, j, none⟩) (by show g < (w.alloc _).heap.size; rw [World.size_alloc]; omega) (by intro hs; rcases hs with hs | hs; (have hs : g = ab := hs; omega); (have hr := (A1.out.rowLt g hs.symm).1; omega)); exact e2.trans e1) HPE.out); have K2 : Hid (Blk w2 w.heap.size 47 C) := k1.out.but b2.out (by intro hs; have hlt := HLT.out; rcases hs with hs | hs; omega; (have hr := HLT.out.2.2 w.heap.size hs.symm; omega))))
  refine (CH.out v2 _ _ a2.out P2.out).mono ?_
  rintro e w3 ⟨rfl, v3, T3, a3, b3, r3, t3⟩
  have R3 : Hid (RowTo (w.alloc (.cells C.toArray 47)) v v3) := r2.out.trans r3.out b2.out.size
  have B3 : Hid (But (AutS ab v) (w.alloc (.cells C.toArray 47)) w3) := b2.out.aut b3.out r2.out
  have K3 : Hid (Blk w3 w.heap.size 47 C) := K2.out.but b3.out (by
    intro hs
    have hlt := HLT.out
    rcases hs with hs | hs
    · omega
    · rcases r2.out with h | h
      · have hr := HLT.out.2.2 w.heap.size (by rw [← h]; exact hs.symm)
        omega
      · have := h _ hs.symm
        rw [World.size_alloc] at this
        omega)
  obtain ⟨g, cap, cur, rfl, hgB, hgab, hgh, hgc⟩ := a3.out.form HM2.out.2
  have HG : Hid (B ≤ g ∧ g ≠ ab ∧ g < w3.heap.size ∧ ab < w3.heap.size ∧ w.heap.size < w3.heap.size ∧ g ≠ w.heap.size ∧ w.heap.size + 1 ≤ w3.heap.size) := ⟨hgB, hgab, (Array.getElem?_eq_some_iff.1 hgh).1, a3.out.lt, K3.out.lt, (fun e => by
    have h := K3.out
    have h' : w3.heap[w.heap.size]? = _ := h
    rw [← e, hgh] at h'
    injection h' with h'
    injection h' with _ h2 _
    cases h2), (by have := K3.out.lt; omega)⟩
  obtain ⟨n3, hb3⟩ := a3.out.blk
  have c3 : w3.cell? ⟨ab, 0, none⟩ = some (.slice (some ⟨g, 0, none⟩) M2.length cap) := hb3.cell 0
  have CG := Lib.hid hgh
  have hcg : w3.cell? ⟨g, M.length, none⟩ = some cur[M.length]! := by
    rw [cell_of_row w3 g M.length cur 104 (0, 0) hgh, getElem!_pos cur M.length (by have := HM2.out; omega)]
    exact Array.getElem?_eq_getElem _
  have hfg : w3.frozen? ⟨g, M.length, none⟩ = false := by simp [World.frozen?, hgh]
  generalize cur[M.length]! = oldv at hcg
  have hlab : ab < w3.heap.size := HG.out.2.2.2.1
  have hlg : g < w3.heap.size := HG.out.2.2.1
  have hne : g ≠ w3.heap.size := by omega
  have hne2 : g ≠ w3.heap.size + 1 := by omega
  have hMM : (M.length : Int) < (M2.length : Int) := by have := HM2.out; omega
  have CF := Lib.hid (fun wx => fork_any (some ⟨w3.heap.size, 0, none⟩) 2 2 wx)
  clear hb3 hgB hgab hgh hgc c1
  have mixed : Try.prog.follows .mixedOrders = true := by kernel_rfl
  go_wp2_with fail
  have hcW : (((w3.alloc (.cells #[.int .i64 (i : Int), .int .i64 (nx : Int)] 3)).alloc (.cells #[.slice (some ⟨w3.heap.size, 0, none⟩) 2 2] 78)).drew).cell? ⟨g, M.length, none⟩ = some oldv := by
    rw [World.cell?_drew, World.cell?_alloc_lt _ _ _ (by rw [World.size_alloc]; show g < _; omega), World.cell?_alloc_lt _ _ _ (by show g < _; omega)]
    exact hcg
  have hfW : (((w3.alloc (.cells #[.int .i64 (i : Int), .int .i64 (nx : Int)] 3)).alloc (.cells #[.slice (some ⟨w3.heap.size, 0, none⟩) 2 2] 78)).drew).frozen? ⟨g, M.length, none⟩ = false := by
    have h1 : But (fun _ => False) w3 (((w3.alloc (.cells #[.int .i64 (i : Int), .int .i64 (nx : Int)] 3)).alloc (.cells #[.slice (some ⟨w3.heap.size, 0, none⟩) 2 2] 78)).drew) := (((But.refl _ w3).alloc _).alloc _).drew
    rw [h1.frozen (p := ⟨g, M.length, none⟩) hlg (fun h => h)]
    exact hfg
  have BW : Hid (Below w3.heap.size w3 (((w3.alloc (.cells #[.int .i64 (i : Int), .int .i64 (nx : Int)] 3)).alloc (.cells #[.slice (some ⟨w3.heap.size, 0, none⟩) 2 2] 78)).drew)) := (((Below.refl _ w3).alloc (Nat.le_refl _) _).alloc (by simp) _).drew
  have NW : Hid (NdV (((w3.alloc (.cells #[.int .i64 (i : Int), .int .i64 (nx : Int)] 3)).alloc (.cells #[.slice (some ⟨w3.heap.size, 0, none⟩) 2 2] 78)).drew) (fun n => w3.heap.size ≤ n ∧ n < w3.heap.size + 2) (.func (.func 82) #[] #[.pointer (some ⟨w3.heap.size + 1, 0, none⟩)]) (.fork [i, nx])) := pair_fork w3 i nx
  have hst : (store ⟨g, M.length, none⟩ (.func (.func 82) #[] #[.pointer (some ⟨w3.heap.size + 1, 0, none⟩)])).run Try.prog (((w3.alloc (.cells #[.int .i64 (i : Int), .int .i64 (nx : Int)] 3)).alloc (.cells #[.slice (some ⟨w3.heap.size, 0, none⟩) 2 2] 78)).drew) = .ok () ((((w3.alloc (.cells #[.int .i64 (i : Int), .int .i64 (nx : Int)] 3)).alloc (.cells #[.slice (some ⟨w3.heap.size, 0, none⟩) 2 2] 78)).drew).setCell ⟨g, M.length, none⟩ (.func (.func 82) #[] #[.pointer (some ⟨w3.heap.size + 1, 0, none⟩)])) := by
    rw [run_store Try.prog _ _ _ _ rfl, hcW]
    simp [hfW]
  clear hcW hfW
  have EW : (((w3.setCell ⟨g, M.length, none⟩ (.func (.func 82) #[] #[.pointer (some ⟨w3.heap.size + 1, 0, none⟩)])).alloc (.cells #[.int .i64 (i : Int), .int .i64 (nx : Int)] 3)).alloc (.cells #[.slice (some ⟨w3.heap.size, 0, none⟩) 2 2] 78)).drew = (((w3.alloc (.cells #[.int .i64 (i : Int), .int .i64 (nx : Int)] 3)).alloc (.cells #[.slice (some ⟨w3.heap.size, 0, none⟩) 2 2] 78)).drew).setCell ⟨g, M.length, none⟩ (.func (.func 82) #[] #[.pointer (some ⟨w3.heap.size + 1, 0, none⟩)]) := by
    rw [World.setCell_drew, World.setCell_alloc_past _ _ _ _ (by rw [World.size_alloc]; omega), World.setCell_alloc_past _ _ _ _ (by omega)]
  have A4 : Hid (Aut ((((w3.setCell ⟨g, M.length, none⟩ (.func (.func 82) #[] #[.pointer (some ⟨w3.heap.size + 1, 0, none⟩)])).alloc (.cells #[.int .i64 (i : Int), .int .i64 (nx : Int)] 3)).alloc (.cells #[.slice (some ⟨w3.heap.size, 0, none⟩) 2 2] 78)).drew) B ab (.slice (some ⟨g, 0, none⟩) (M2.set M.length (.fork [i, nx])).length cap) (fun n => T3 n ∨ (w3.heap.size ≤ n ∧ n < w3.heap.size + 2)) (M2.set M.length (.fork [i, nx]))) := by
    rw [EW]
    exact (a3.out.on (S := fun _ => False) (But.of_below BW.out) (fun _ h => h.elim)).write HM2.out.1 NW.out (pair_ta a3.out (by simp))
  have c5 : ((((w3.setCell ⟨g, M.length, none⟩ (.func (.func 82) #[] #[.pointer (some ⟨w3.heap.size + 1, 0, none⟩)])).alloc (.cells #[.int .i64 (i : Int), .int .i64 (nx : Int)] 3)).alloc (.cells #[.slice (some ⟨w3.heap.size, 0, none⟩) 2 2] 78)).drew).cell? ⟨w.heap.size, 259, none⟩ = some (.int .u8 43) := by
    rw [EW]
    exact (((K3.out.below BW.out K3.out.lt).setOther (by have := HG.out; show g ≠ _; omega) _).cell 259).trans HC9.out
  have B5 : Hid (But (AutS ab v) (w.alloc (.cells C.toArray 47)) ((((w3.setCell ⟨g, M.length, none⟩ (.func (.func 82) #[] #[.pointer (some ⟨w3.heap.size + 1, 0, none⟩)])).alloc (.cells #[.int .i64 (i : Int), .int .i64 (nx : Int)] 3)).alloc (.cells #[.slice (some ⟨w3.heap.size, 0, none⟩) 2 2] 78)).drew)) := by
    rw [EW]
    exact (B3.out.add BW.out).setCell (p := ⟨g, M.length, none⟩) (fun h => .inr (by
      rcases R3.out with e | e
      · rw [← e]; rfl
      · have := e g rfl
        exact absurd h (by show ¬ g < _; omega))) _
  have TF : Hid (∀ n, (T3 n ∨ (w3.heap.size ≤ n ∧ n < w3.heap.size + 2)) → T n ∨ (w.alloc (.cells C.toArray 47)).heap.size ≤ n) := fun n hn => by
    have h1 := B3.out.size
    have h2 := b2.out.size
    rcases hn with hn | hn
    · rcases t3.out n hn with (h | h) | h
      · exact .inl h
      · exact h.elim
      · exact .inr (by omega)
    · exact .inr (by omega)
  clear EW NW
  go_region_with (go_at_call 74; refine (fork_any _ _ _ _).mono ?_; rintro e w' ⟨rfl, rfl⟩)
  all_goals
    try (go_wp2_with fail)
    go_ret
    refine AutP.of (w0 := w.alloc (.cells C.toArray 47)) ⟨rfl, _, _, A4, B5, ?_, fun n hn => TF.out n hn⟩ b1.out
    rcases R3.out with e | e
    · exact .inl e
    · exact .inr e
end Go.Proofs.Ytilfggnhaehbcaa.Rx
