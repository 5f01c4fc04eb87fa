/- Layer 6: search, Match and Find of the program. -/
import Derived.Test.YtilfggnhaehbcaaRG
set_option linter.unusedVariables false
set_option linter.unusedSimpArgs false
namespace Go.Proofs.Ytilfggnhaehbcaa.Rx
open Go.RowKit
mutual
def fewF : Pe → Prop
  | .byte _ _ => True
  | .cls _ _ => True
  | .sub e _ => e.length ≤ 1001 ∧ fewE e
def fewA : List Pe → Prop
  | [] => True
  | p :: l => fewF p ∧ fewA l
/-- No expression has many alternatives. -/
def fewE : List (List Pe) → Prop
  | [] => True
  | a :: e => fewA a ∧ fewE e
end
mutual
theorem PeV.few {w : World} {T : Nat → Prop} : ∀ {p : Pe} {C : List Value}, PeV w T C p → fewF p
  | .byte _ _, C, _ => by rw [fewF]; trivial
  | .cls _ _, C, _ => by rw [fewF]; trivial
  | .sub e r, C, h => by
    rw [PeV] at h
    obtain ⟨h1, b, cap, _, _, h2⟩ := h
    rw [fewF]
    exact ⟨h1.2, AltsV.few h2⟩
theorem AltsV.few {w : World} {T : Nat → Prop} : ∀ {e : List (List Pe)} {b k : Nat}, AltsV w T b k e → fewE e
  | [], b, k, _ => by rw [fewE]; trivial
  | a :: e, b, k, h => by
    rw [AltsV] at h
    rw [fewE]
    refine ⟨?_, AltsV.few h.2⟩
    obtain ⟨A, cap, _, h1⟩ := h.1
    match a, h1 with
    | [], _ => rw [fewA]; trivial
    | p :: l, h1 =>
      obtain ⟨g, _, _, h2⟩ := h1 (by simp)
      exact RowV.few h2
theorem RowV.few {w : World} {T : Nat → Prop} : ∀ {l : List Pe} {b k : Nat}, RowV w T b k l → fewA l
  | [], b, k, _ => by rw [fewA]; trivial
  | p :: l, b, k, h => by
    rw [RowV] at h
    rw [fewA]
    obtain ⟨C, _, h1⟩ := h.1
    exact ⟨PeV.few h1, RowV.few h.2⟩
end
theorem ExV.few {w : World} {T : Nat → Prop} {v : Value} {x : List (List Pe)} (h : ExV w T v x) : x.length ≤ 1001 ∧ fewE x := by
  obtain ⟨h1, b, cap, _, _, h2⟩ := h
  exact ⟨h1.2, AltsV.few h2⟩
/-- A state that forks does so to few. -/
def Nd.few : Nd → Prop
  | .fork l => l.length ≤ 1001
  | _ => True
def AllFew (m : List Nd) : Prop := ∀ x ∈ m, x.few
theorem AllFew.snoc {m : List Nd} {x : Nd} (h : AllFew m) (hx : x.few) : AllFew (m ++ [x]) := fun y hy => by
  rcases List.mem_append.1 hy with hy | hy
  · exact h y hy
  · rw [List.mem_singleton.1 hy]; exact hx
theorem AllFew.set {m : List Nd} {x : Nd} {k : Nat} (h : AllFew m) (hx : x.few) : AllFew (m.set k x) := fun y hy => by
  rcases List.mem_or_eq_of_mem_set hy with hy | rfl
  · exact h y hy
  · exact hx
theorem cR_few {r : Rp} {g : List Nd → Nat → Nat × List Nd} (h : ∀ m nx, AllFew m → AllFew (g m nx).2) (m : List Nd) (nx : Nat) (hm : AllFew m) : AllFew (cR r g m nx).2 := by
  cases r with
  | one => exact h m nx hm
  | opt => exact (h m nx hm).snoc (by show 2 ≤ 1001; omega)
  | star => exact (h _ _ (hm.snoc (by trivial))).set (by show 2 ≤ 1001; omega)
  | plus => exact (h _ _ (hm.snoc (by trivial))).set (by show 2 ≤ 1001; omega)
theorem cB_one : ∀ (e : List (List Pe)) (m : List Nd) (nx : Nat), (cB e m nx).1.length = e.length
  | [], m, nx => by rw [cB]; rfl
  | a :: e, m, nx => by rw [cB, List.length_cons, List.length_cons, cB_one e]
mutual
theorem cF_few : ∀ (p : Pe) (m : List Nd) (nx : Nat), fewF p → AllFew m → AllFew (cF p m nx).2
  | .byte c r, m, nx, _, hm => by rw [cF]; exact cR_few (fun m nx hm => hm.snoc (by trivial)) m nx hm
  | .cls f r, m, nx, _, hm => by rw [cF]; exact cR_few (fun m nx hm => hm.snoc (by trivial)) m nx hm
  | .sub e r, m, nx, h, hm => by
    rw [fewF] at h
    rw [cF]
    exact cR_few (fun m nx hm => (cB_few e m nx h.2 hm).snoc (by show (cB e m nx).1.length ≤ 1001; rw [cB_one]; exact h.1)) m nx hm
theorem cA_few : ∀ (l : List Pe) (m : List Nd) (nx : Nat), fewA l → AllFew m → AllFew (cA l m nx).2
  | [], m, nx, _, hm => by rw [cA]; exact hm
  | p :: l, m, nx, h, hm => by
    rw [fewA] at h
    rw [cA]
    exact cF_few p _ _ h.1 (cA_few l m nx h.2 hm)
theorem cB_few : ∀ (e : List (List Pe)) (m : List Nd) (nx : Nat), fewE e → AllFew m → AllFew (cB e m nx).2
  | [], m, nx, _, hm => by rw [cB]; exact hm
  | a :: e, m, nx, h, hm => by
    rw [fewE] at h
    rw [cB]
    exact cB_few e _ nx h.2 (cA_few a m nx h.1 hm)
end
theorem pm_few {x : List (List Pe)} (h : x.length ≤ 1001 ∧ fewE x) (j : Nat) (l : List Nat) (hj : (pm x)[j]? = some (.fork l)) : l.length ≤ 1000000000 := by
  have h1 : AllFew (pm x) := AllFew.snoc (cB_few x [.fin] 0 h.2 (fun y hy => by rw [List.mem_singleton.1 hy]; trivial)) (by show (cB x [.fin] 0).1.length ≤ 1001; rw [cB_one]; exact h.1)
  have h2 : (Nd.fork l).few := h1 _ (List.mem_of_getElem? hj)
  have h2 : l.length ≤ 1001 := h2
  omega
theorem pm_fin (x : List (List Pe)) (q : Nat) : (pm x)[q]? = some .fin ↔ q = 0 := by
  refine ⟨fun hq => ?_, fun hq => (by rw [hq]; exact pm_zero x)⟩
  rcases pm_at (List.getElem?_eq_some_iff.1 hq).1 with h1 | ⟨h1, y, h2, h3⟩
  · exact h1.1
  · rw [hq] at h2
    cases h2
    exact h3.elim
theorem pm_ok (x : List (List Pe)) (q : Nat) (y : Nd) (hq : (pm x)[q]? = some y) : q = 0 ∨ y.ok (pm x).length := by
  rcases pm_at (List.getElem?_eq_some_iff.1 hq).1 with h1 | ⟨h1, z, h2, h3⟩
  · exact .inl h1.1
  · rw [hq] at h2
    cases h2
    exact .inr h3
/-- What a search says of the text p of an expression. -/
def ResS (p s : List UInt8) (last : Nat) (bs : Nat × Nat) (fd : Bool) : Prop :=
  (check p ≠ 0 ∧ bs = (0, 0) ∧ fd = false) ∨ ∃ r, check p = 0 ∧ parse p = some r ∧ Res r s last bs fd
theorem info32 : (Try.prog.info? 32).map (·.size) = some 2 := by kernel_rfl
theorem res_found {fn : Func} {p u : Tmp} (h : fn.results = #[.cell p 32, .tmp u]) {tmps : Array Value} {V : World} {g : Nat} {x y z : Value} (hp : tmps.getD p undef = .pointer (some ⟨g, 0, none⟩)) (hz : tmps.getD u undef = z) (hg : Blk V g 32 [x, y]) :
    (results fn tmps).run Try.prog V = .ok (.tuple #[.agg #[x, y], z]) V := by
  have hl := run_loadVar_row (P := Try.prog) V g 32 32 #[x, y] (0, 0) _ hg Try.underlying32 rfl info32
  rw [results_cell_tmp h, hp, hz]
  simp [asAddr, hl, Result.andThen]
/-- What search returns. -/
def SeaP (p s : ByteArray) (last : Nat) (w : World) (e : Ending) (w' : World) : Prop :=
  ∃ (bs : Nat × Nat) (fd : Bool), e = .returned (.tuple #[.agg #[.int .i64 (bs.1 : Int), .int .i64 (bs.2 : Int)], .bool fd]) ∧ Hid (ResS p.data.toList s.data.toList last bs fd) ∧ Hid (Below w.heap.size w w')
set_option maxHeartbeats 4000000 in
set_option maxRecDepth 100000 in
theorem search34_any (p s : ByteArray) (last : Nat) (hp : p.size ≤ maxLen) (hs : s.size ≤ 1000000) (hl : last ≤ 1000000) (w : World) : Calls Try.prog 34 #[.string p, .string s, .int .i64 (last : Int)] w (SeaP p s last w) := by
  have CP := Lib.hid (fun w => parse_any p hp w)
  have hw0 : Hid (Below w.heap.size w (w.alloc (.cells #[.int .i64 0, .int .i64 0] 32))) := (Below.refl _ _).alloc (Nat.le_refl _) _
  have k0 : Hid (Blk (w.alloc (.cells #[.int .i64 0, .int .i64 0] 32)) w.heap.size 32 [.int .i64 0, .int .i64 0]) := Blk.new w 32 _
  have z0 : Hid ((w.alloc (.cells #[.int .i64 0, .int .i64 0] 32)).heap.size = w.heap.size + 1) := World.size_alloc _ _
  go_enter Try.func34, Try.ntmps34
  go_wp2_with fail
  refine (CP.out _).mono ?_
  rintro e w1 ⟨v, n, rfl, b1, hn, hx⟩
  have W1 : Hid (Below w.heap.size w w1) := hw0.out.trans (b1.out.mono (by rw [z0.out]; omega))
  have k1 : Hid (Blk w1 w.heap.size 32 [.int .i64 0, .int .i64 0]) := k0.out.below b1.out (by rw [z0.out]; omega)
  have S1 : Hid (w.heap.size + 1 ≤ w1.heap.size) := by have := b1.out.size; rw [z0.out] at this; exact this
  generalize w.alloc (.cells #[.int .i64 0, .int .i64 0] 32) = w0 at *
  by_cases hc : check p.data.toList = 0
  · have hn0 : (n != 0) = false := by rw [hn.out, hc]; rfl
    obtain ⟨x, hv, hpx, hwx⟩ := hx.out hc
    have CN := Lib.hid (newRun_any x hwx v s w1 (Fresh w0 w1) hv (fun _ h => h.2))
    have FW := Lib.hid (pm_few hv.few)
    have HPX := Lib.hid hpx
    have HC := Lib.hid hc
    have PLn := Lib.hid (pm_len x)
    have HWX := Lib.hid hwx
    clear hv hpx hwx hn hx hc b1
    go_wp2_with fail
    refine CN.out.mono ?_
    rintro e w2 ⟨rb, gr, v2, B, rfl, hB, hr, b2⟩
    have BLT := Lib.hid hr.out.base
    have HB := Lib.hid hB
    have k2 : Hid (Blk w2 w.heap.size 32 [.int .i64 0, .int .i64 0]) := k1.out.below b2.out (by have := S1.out; omega)
    have W2 : Hid (Below w.heap.size w w2) := W1.out.trans (b2.out.mono W1.out.size)
    have CS := Lib.hid (search_any _ (pm x) (ps x) s last B rb gr v2 (pm_fin x) (pm_ok x) (ps_lt x) FW.out (by rw [PLn.out]; have := HWX.out; omega) hs hl w2 hr.out)
    clear hr CN
    go_wp2_with fail
    refine CS.out.mono ?_
    rintro e w3 ⟨rfl, q, L, bs, fd, h1, h2, h3, c7, c8, c9, b3⟩
    have RS : Hid (ResS p.data.toList s.data.toList last bs fd) := .inr ⟨_, HC.out, HPX.out, h3.end_ (by rw [size_len]; exact h1) (by rw [size_len]; exact h2)⟩
    have k3 : Hid (Blk w3 w.heap.size 32 [.int .i64 0, .int .i64 0]) := k2.out.below b3 (by have := S1.out; have := HB.out; omega)
    have W3 : Hid (Below w.heap.size w w3) := W2.out.trans (b3.mono (by have := S1.out; have := HB.out; omega))
    have e0 : w3.cell? ⟨w.heap.size, 0, none⟩ = some (.int .i64 0) := k3.out.cell 0
    have e1 : w3.cell? ⟨w.heap.size, 1, none⟩ = some (.int .i64 0) := k3.out.cell 1
    have f0 := k3.out.froz 0
    have f1 := k3.out.froz 1
    clear h1 h2 h3 b3 CS
    go_wp2_with fail
    go_region
    all_goals
      go_wp2_with fail
      refine bodyPost_ret (res_found rfl rfl rfl (((k3.out.set 0 (.int .i64 (bs.1 : Int))).set 1 (.int .i64 (bs.2 : Int))))) rfl ?_
      exact ⟨bs, fd, rfl, RS.out, ((W3.out.setCell (p := ⟨w.heap.size, 0, none⟩) (Nat.le_refl _) _).setCell (p := ⟨w.heap.size, 1, none⟩) (Nat.le_refl _) _).drew⟩
  · have hn0 : (n != 0) = true := by
      have h := hn.out
      simp
      intro e
      exact hc (h.symm.trans e)
    have HC := Lib.hid hc
    have d0 : w1.cell? ⟨w.heap.size, 0, none⟩ = some (.int .i64 0) := k1.out.cell 0
    have d1 : w1.cell? ⟨w.heap.size, 1, none⟩ = some (.int .i64 0) := k1.out.cell 1
    have f0 := k1.out.froz 0
    have f1 := k1.out.froz 1
    clear hn hx hc
    go_wp2_with fail
    refine bodyPost_ret (res_found rfl rfl rfl ((k1.out.set 0 (.int .i64 0)).set 1 (.int .i64 0))) rfl ?_
    exact ⟨(0, 0), false, rfl, .inl ⟨HC.out, rfl, rfl⟩, (W1.out.setCell (p := ⟨w.heap.size, 0, none⟩) (Nat.le_refl _) _).setCell (p := ⟨w.heap.size, 1, none⟩) (Nat.le_refl _) _⟩
/-- Whether p matches the whole of s. -/
def MatS (p s : List UInt8) : Prop := ∃ r, check p = 0 ∧ parse p = some r ∧ Mat r s
/-- What Match returns. -/
def MatP (p s : ByteArray) (w : World) (e : Ending) (w' : World) : Prop := ∃ b : Bool, e = .returned (.bool b) ∧ Hid (b = true ↔ MatS p.data.toList s.data.toList) ∧ Hid (Below w.heap.size w w')
set_option maxHeartbeats 4000000 in
set_option maxRecDepth 100000 in
theorem match_any (p s : ByteArray) (hp : p.size ≤ maxLen) (hs : s.size ≤ 1000000) (w : World) : Calls Try.prog 23 #[.string p, .string s] w (MatP p s w) := by
  have CS := Lib.hid (fun w => search34_any p s 0 hp hs (by omega) w)
  go_enter Try.func23, Try.ntmps23
  go_wp2_with fail
  refine (CS.out _).mono ?_
  rintro e w1 ⟨bs, fd, rfl, RS, b1⟩
  have W2 : Hid (∀ o, Below w.heap.size w (w1.alloc o)) := fun o => b1.out.alloc b1.out.size _
  cases fd with
  | false =>
    have HF : Hid (¬ MatS p.data.toList s.data.toList) := fun ⟨r, h1, h2, h3⟩ => by
      rcases RS.out with ⟨h4, _⟩ | ⟨r', _, h5, h6⟩
      · exact h4 h1
      · rw [h2] at h5
        cases h5
        exact absurd (h6.whole.2 h3).1 (by decide)
    go_wp2_with fail
    go_ret
    exact ⟨false, rfl, ⟨fun h => (by cases h), fun h => absurd h HF.out⟩, W2.out _⟩
  | true =>
    have HT : Hid (bs.2 = s.size ↔ MatS p.data.toList s.data.toList) := by
      rcases RS.out with ⟨_, _, h4⟩ | ⟨r', h4, h5, h6⟩
      · cases h4
      · constructor
        · intro h
          exact ⟨r', h4, h5, h6.whole.1 ⟨rfl, by rw [size_len]; exact h⟩⟩
        · rintro ⟨r, h1, h2, h3⟩
          rw [h2] at h5
          cases h5
          have := (h6.whole.2 h3).2
          rwa [size_len] at this
    by_cases h : bs.2 = s.size
    · have hi : (bs.2 : Int) = (s.size : Int) := by omega
      go_wp2_with fail
      go_ret
      exact ⟨true, rfl, ⟨fun _ => HT.out.1 h, fun _ => rfl⟩, W2.out _⟩
    · have hi : ((bs.2 : Int) == (s.size : Int)) = false := beq_false_of_ne (by omega)
      go_wp2_with fail
      go_ret
      exact ⟨false, rfl, ⟨fun h => (by cases h), fun h' => absurd (HT.out.2 h') h⟩, W2.out _⟩
set_option maxHeartbeats 4000000 in
set_option maxRecDepth 100000 in
theorem find_any (p s : ByteArray) (hp : p.size ≤ maxLen) (hs : s.size ≤ 1000000) (w : World) : Calls Try.prog 25 #[.string p, .string s] w (SeaP p s s.size w) := by
  have CS := Lib.hid (fun w => search34_any p s s.size hp hs hs w)
  have hw0 : Hid (Below w.heap.size w (w.alloc (.cells #[.int .i64 0, .int .i64 0] 32))) := (Below.refl _ _).alloc (Nat.le_refl _) _
  have k0 : Hid (Blk (w.alloc (.cells #[.int .i64 0, .int .i64 0] 32)) w.heap.size 32 [.int .i64 0, .int .i64 0]) := Blk.new w 32 _
  have z0 : Hid ((w.alloc (.cells #[.int .i64 0, .int .i64 0] 32)).heap.size = w.heap.size + 1) := World.size_alloc _ _
  go_enter Try.func25, Try.ntmps25
  go_wp2_with fail
  refine (CS.out _).mono ?_
  rintro e w1 ⟨bs, fd, rfl, RS, b1⟩
  have W1 : Hid (Below w.heap.size w w1) := hw0.out.trans (b1.out.mono (by rw [z0.out]; omega))
  have k1 : Hid (Blk w1 w.heap.size 32 [.int .i64 0, .int .i64 0]) := k0.out.below b1.out (by rw [z0.out]; omega)
  have d0 : w1.cell? ⟨w.heap.size, 0, none⟩ = some (.int .i64 0) := k1.out.cell 0
  have d1 : w1.cell? ⟨w.heap.size, 1, none⟩ = some (.int .i64 0) := k1.out.cell 1
  have f0 := k1.out.froz 0
  have f1 := k1.out.froz 1
  clear b1 hw0 k0 z0 CS
  go_wp2_with fail
  refine bodyPost_ret (res_found rfl rfl rfl ((k1.out.set 0 (.int .i64 (bs.1 : Int))).set 1 (.int .i64 (bs.2 : Int)))) rfl ?_
  exact ⟨bs, fd, rfl, RS.out, (W1.out.setCell (p := ⟨w.heap.size, 0, none⟩) (Nat.le_refl _) _).setCell (p := ⟨w.heap.size, 1, none⟩) (Nat.le_refl _) _⟩
end Go.Proofs.Ytilfggnhaehbcaa.Rx
