/- Layer 6: the program's automaton in memory; add, fork, read. -/
import Derived.Test.YtilfggnhaehbcaaPO
set_option linter.unusedVariables false
set_option linter.unusedSimpArgs false
namespace Go.Proofs.Ytilfggnhaehbcaa.Rx
open Go.RowKit
/-- A state in memory. -/
def NdV (w : World) (T : Nat → Prop) (v : Value) : Nd → Prop
  | .fin => v = .func (.func 67) #[] #[]
  | .hole => v = Value.nilFunc
  | .read f nx => ∃ b1 b2, v = .func (.func 89) #[] #[.pointer (some ⟨b1, 0, none⟩), .pointer (some ⟨b2, 0, none⟩)] ∧ T b1 ∧ T b2 ∧ w.rangeAt b1 0 (clsC f) ∧ w.cell? ⟨b2, 0, none⟩ = some (.int .i64 nx)
  | .fork l => ∃ b1 A cap, v = .func (.func 82) #[] #[.pointer (some ⟨b1, 0, none⟩)] ∧ T b1 ∧ w.cell? ⟨b1, 0, none⟩ = some (.slice A l.length cap) ∧ (l ≠ [] → ∃ g, A = some ⟨g, 0, none⟩ ∧ T g ∧ ∀ j (h : j < l.length), w.cell? ⟨g, j, none⟩ = some (.int .i64 (l[j] : Nat)))
theorem NdV.keep {w w' : World} {T T' : Nat → Prop} {v : Value} {x : Nd} (h : NdV w T v x) (hT : ∀ k, T k → T' k) (hk : ∀ b j, T b → w'.cell? ⟨b, j, none⟩ = w.cell? ⟨b, j, none⟩) : NdV w' T' v x := by
  cases x with
  | fin => exact h
  | hole => exact h
  | read f nx =>
    obtain ⟨b1, b2, h1, h2, h3, h4, h5⟩ := h
    exact ⟨b1, b2, h1, hT _ h2, hT _ h3, rangeAt_keep h4 (hk b1 · h2), (hk b2 0 h3).trans h5⟩
  | fork l =>
    obtain ⟨b1, A, cap, h1, h2, h3, h4⟩ := h
    refine ⟨b1, A, cap, h1, hT _ h2, (hk b1 0 h2).trans h3, fun hl => ?_⟩
    obtain ⟨g, h5, h6, h7⟩ := h4 hl
    exact ⟨g, h5, hT _ h6, fun j hj => (hk g j h6).trans (h7 j hj)⟩
theorem NdV.one {w : World} {T : Nat → Prop} {v : Value} {x : Nd} (h : NdV w T v x) : v.cells = #[v] ∧ v.oneCell' = true := by
  cases x with
  | fin => cases h; exact ⟨rfl, rfl⟩
  | hole => cases h; exact ⟨rfl, rfl⟩
  | read f nx => obtain ⟨b1, b2, rfl, _⟩ := h; exact ⟨rfl, rfl⟩
  | fork l => obtain ⟨b1, A, cap, rfl, _⟩ := h; exact ⟨rfl, rfl⟩
/-- States as cells. -/
def NdsL (w : World) (T : Nat → Prop) (xs : List Value) (M : List Nd) : Prop := xs.length = M.length ∧ ∀ j (h : j < M.length), ∃ v, xs[j]? = some v ∧ NdV w T v M[j]
theorem NdsL.keep {w w' : World} {T T' : Nat → Prop} {xs : List Value} {M : List Nd} (h : NdsL w T xs M) (hT : ∀ k, T k → T' k) (hk : ∀ b j, T b → w'.cell? ⟨b, j, none⟩ = w.cell? ⟨b, j, none⟩) : NdsL w' T' xs M :=
  ⟨h.1, fun j hj => by
    obtain ⟨v, h1, h2⟩ := h.2 j hj
    exact ⟨v, h1, h2.keep hT hk⟩⟩
theorem NdsL.nil (w : World) (T : Nat → Prop) : NdsL w T [] [] := ⟨rfl, fun j hj => by simp at hj⟩
theorem NdsL.snoc {w : World} {T : Nat → Prop} {xs : List Value} {M : List Nd} {v : Value} {x : Nd} (h : NdsL w T xs M) (hv : NdV w T v x) : NdsL w T (xs ++ [v]) (M ++ [x]) := by
  refine ⟨by simp [h.1], fun j hj => ?_⟩
  rw [List.length_append, List.length_singleton] at hj
  rcases Nat.lt_or_ge j M.length with hlt | hge
  · obtain ⟨u, h1, h2⟩ := h.2 j hlt
    exact ⟨u, by rw [List.getElem?_append_left (by rw [h.1]; exact hlt)]; exact h1, by rw [List.getElem_append_left hlt]; exact h2⟩
  · obtain rfl : j = M.length := by omega
    exact ⟨v, by rw [List.getElem?_append_right (by rw [h.1]; omega), h.1]; simp, by rw [List.getElem_append_right (Nat.le_refl _)]; simpa using hv⟩
theorem NdsL.set {w : World} {T : Nat → Prop} {xs : List Value} {M : List Nd} {v : Value} {x : Nd} {k : Nat} (h : NdsL w T xs M) (hv : NdV w T v x) : NdsL w T (xs.set k v) (M.set k x) := by
  refine ⟨by simp [h.1], fun j hj => ?_⟩
  rw [List.length_set] at hj
  obtain ⟨u, h1, h2⟩ := h.2 j hj
  by_cases hjk : k = j
  · subst hjk
    exact ⟨v, by rw [List.getElem?_set_self (by rw [h.1]; exact hj)], by rw [List.getElem_set_self]; exact hv⟩
  · exact ⟨u, by rw [List.getElem?_set_ne hjk]; exact h1, by rw [List.getElem_set_ne hjk]; exact h2⟩
/-- The blocks of an automaton, but its own and that of its states. -/
def TA (w : World) (B ab : Nat) (v : Value) (n : Nat) : Prop := B ≤ n ∧ n < w.heap.size ∧ n ≠ ab ∧ some n ≠ v.ownBlock
/-- An automaton at ab, from block B on: the slice v holds the states M; what they lead to lies in T. -/
structure Aut (w : World) (B ab : Nat) (v : Value) (T : Nat → Prop) (M : List Nd) : Prop where
  blk : ∃ n : Int, Blk w ab 71 [v, .int .i64 n]
  base : B ≤ ab
  row : ∃ xs, w.ownsRow B 104 1 v M.length xs ∧ NdsL w T xs M
  sub : ∀ n, T n → TA w B ab v n
theorem Aut.lt {w : World} {B ab : Nat} {v : Value} {T : Nat → Prop} {M : List Nd} (h : Aut w B ab v T M) : ab < w.heap.size := by obtain ⟨n, hb⟩ := h.blk; exact hb.lt
theorem Aut.ne {w : World} {B ab : Nat} {v : Value} {T : Nat → Prop} {M : List Nd} (h : Aut w B ab v T M) : some ab ≠ v.ownBlock := by
  obtain ⟨n, hb⟩ := h.blk
  obtain ⟨xs, hr, _⟩ := h.row
  intro e
  rcases hr.2 with ⟨rfl, _⟩ | ⟨g, cap, cur, rfl, _, hg, _⟩
  · cases e
  · have e : some ab = some g := e
    injection e with e
    subst e
    have hb' : w.heap[ab]? = _ := hb
    rw [hg] at hb'
    injection hb' with hb'
    injection hb' with _ h2 _
    cases h2
theorem Aut.rowLt {w : World} {B ab : Nat} {v : Value} {T : Nat → Prop} {M : List Nd} (h : Aut w B ab v T M) : ∀ k, v.ownBlock = some k → B ≤ k ∧ k < w.heap.size := by obtain ⟨xs, hr, _⟩ := h.row; exact World.ownsRow.lt hr
/-- What may be written. -/
def AutS (ab : Nat) (v : Value) (n : Nat) : Prop := n = ab ∨ some n = v.ownBlock
/-- Where the states lie behind a step: as before, or in a new block. -/
def RowTo (w : World) (v v' : Value) : Prop := v'.ownBlock = v.ownBlock ∨ ∀ k, v'.ownBlock = some k → w.heap.size ≤ k
theorem RowTo.refl (w : World) (v : Value) : RowTo w v v := .inl rfl
theorem RowTo.trans {w w1 : World} {v v1 v2 : Value} (h : RowTo w v v1) (k : RowTo w1 v1 v2) (hs : w.heap.size ≤ w1.heap.size) : RowTo w v v2 := by
  rcases k with e | e
  · rcases h with e' | e'
    · exact .inl (e.trans e')
    · exact .inr (fun n hn => e' n (by rw [← e]; exact hn))
  · exact .inr (fun n hn => Nat.le_trans hs (e n hn))
theorem But.aut {ab : Nat} {w w1 w2 : World} {v v1 : Value} (h : But (AutS ab v) w w1) (k : But (AutS ab v1) w1 w2) (hr : RowTo w v v1) : But (AutS ab v) w w2 := h.trans k (fun n hn hs => by
  rcases hs with rfl | hs
  · exact .inl rfl
  · rcases hr with e | e
    · exact .inr (by rw [← e]; exact hs)
    · have := e n hs.symm
      omega)
/-- An automaton is not touched. -/
theorem Aut.off {S : Nat → Prop} {w w' : World} {B ab : Nat} {v : Value} {T : Nat → Prop} {M : List Nd} (h : Aut w B ab v T M) (k : But S w w') (hS : ∀ n, S n → n < w.heap.size → n ≠ ab ∧ some n ≠ v.ownBlock ∧ ¬ T n) : Aut w' B ab v T M := by
  obtain ⟨n, hb⟩ := h.blk
  obtain ⟨xs, hr, hn⟩ := h.row
  refine ⟨⟨n, hb.but k (fun hs => (hS ab hs h.lt).1 rfl)⟩, h.base, ⟨xs, ?_, hn.keep (fun _ h => h) (fun b j hb => k.cell (p := ⟨b, j, none⟩) (h.sub b hb).2.1 (fun hs => (hS b hs (h.sub b hb).2.1).2.2 hb))⟩, fun n hn => ⟨(h.sub n hn).1, Nat.lt_of_lt_of_le (h.sub n hn).2.1 k.size, (h.sub n hn).2.2⟩⟩
  refine ⟨hr.1, ?_⟩
  rcases hr.2 with h0 | ⟨g, cap, cur, e, h1, h2, h3⟩
  · exact .inl h0
  · have hg := (Array.getElem?_eq_some_iff.1 h2).1
    exact .inr ⟨g, cap, cur, e, h1, (k.block g hg (fun hs => (hS g hs hg).2.1 (by rw [e]; rfl))).trans h2, h3⟩
theorem Aut.on {S : Nat → Prop} {w w' : World} {B ab : Nat} {v : Value} {T : Nat → Prop} {M : List Nd} (h : Aut w B ab v T M) (k : But S w w') (hS : ∀ n, S n → n < B ∨ w.heap.size ≤ n) : Aut w' B ab v T M :=
  h.off k (fun n hs hn => by
    have hB : n < B := by rcases hS n hs with h | h <;> omega
    exact ⟨by have := h.base; omega, fun e => by have := (h.rowLt n e.symm).1; omega, fun ht => by have := (h.sub n ht).1; omega⟩)
def AutP (ab B : Nat) (v : Value) (T : Nat → Prop) (w : World) (i : Nat) (M' : List Nd) (e : Ending) (w' : World) : Prop :=
  e = .returned (.int .i64 (i : Int)) ∧ ∃ v' T', Hid (Aut w' B ab v' T' M') ∧ Hid (But (AutS ab v) w w') ∧ Hid (RowTo w v v') ∧ Hid (∀ n, T' n → T n ∨ w.heap.size ≤ n)
def AddP (ab B : Nat) (v : Value) (T : Nat → Prop) (w : World) (i : Nat) (M' : List Nd) (e : Ending) (w' : World) : Prop :=
  e = .returned (.int .i64 (i : Int)) ∧ ∃ v', Hid (Aut w' B ab v' T M') ∧ Hid (But (AutS ab v) w w') ∧ Hid (RowTo w v v')
theorem info104 : (Try.prog.info? 104).map (fun i => (i.zero, i.size, i.bytes)) = some (some (.agg #[Value.nilFunc]), 1, 8) := by kernel_rfl
theorem size69 : (Try.prog.info? 69).map (·.size) = some 1 := by kernel_rfl
theorem fork_any (A : Option Addr) (n c : Nat) (w : World) : Calls Try.prog 74 #[.slice A n c] w fun e w' => e = .returned (.func (.func 82) #[] #[.pointer (some ⟨w.heap.size, 0, none⟩)]) ∧ w.alloc (.cells #[.slice A n c] 78) = w' := by
  go_enter Try.func74, Try.ntmps74
  go_wp2_with fail
  go_ret
  exact ⟨rfl, rfl⟩
set_option maxHeartbeats 4000000 in
set_option maxRecDepth 100000 in
theorem read_any (f : UInt8 → Bool) (C : List Value) (hC : C = clsC f) (nx : Nat) (w : World) : Calls Try.prog 88 #[.agg C.toArray, .int .i64 (nx : Int)] w fun e w' => ∃ v, e = .returned v ∧ Hid (NdV w' (Fresh w w') v (.read f nx)) ∧ Hid (Below w.heap.size w w') := by
  have HC := Lib.hid hC
  clear hC
  go_enter Try.func88, Try.ntmps88
  go_wp2_with fail
  go_ret
  refine ⟨_, rfl, ⟨w.heap.size, w.heap.size + 1, rfl, ⟨Nat.le_refl _, by simp; omega⟩, ⟨by omega, by simp⟩, ?_, ?_⟩, ((Below.refl _ _).alloc (Nat.le_refl _) _).alloc (by simp) _⟩
  · rw [← HC.out]
    exact ((Blk.new w 45 C).alloc _).range
  · have h := (Blk.new (w.alloc (.cells C.toArray 45)) 3 [.int .i64 (nx : Int)]).cell 0
    rw [World.size_alloc] at h
    exact h
theorem own_form {w : World} {B : Nat} {e : TypeId} {v : Value} {n : Nat} {xs : List Value} (h : w.ownsRow B e 1 v n xs) : ∃ A c, v = .slice A n c := by
  rcases h.2 with ⟨rfl, rfl⟩ | ⟨g, cap, cur, rfl, _⟩
  · exact ⟨_, _, rfl⟩
  · exact ⟨_, _, rfl⟩
theorem own_one' {w : World} {B : Nat} {e : TypeId} {v : Value} {n : Nat} {xs : List Value} (h : w.ownsRow B e 1 v n xs) : v.oneCell' = true := by
  obtain ⟨A, c, rfl⟩ := own_form h
  rfl
set_option maxHeartbeats 4000000 in
set_option maxRecDepth 100000 in
theorem add_func (ab B : Nat) (v : Value) (T T1 : Nat → Prop) (M : List Nd) (x : Nd) (fn : Nat) (cap : Array Value) (w : World) (ha : Aut w B ab v T M) (hv : NdV w T1 (Value.func (.func fn) #[] cap) x) (hT1 : ∀ n, T1 n → TA w B ab v n) (hM : M.length ≤ 1000000000) : Calls Try.prog 66 #[.pointer (some ⟨ab, 0, none⟩), (Value.func (.func fn) #[] cap)] w (AddP ab B v (fun n => T n ∨ T1 n) w M.length (M ++ [x])) := by
  obtain ⟨n0, hb⟩ := ha.blk
  obtain ⟨xs, hr, hn⟩ := ha.row
  have HA := Lib.hid ha
  have HB := Lib.hid hb
  have HR := Lib.hid hr
  have HN := Lib.hid hn
  have HV := Lib.hid hv
  have HT1 := Lib.hid hT1
  have c0 : w.cell? ⟨ab, 0, none⟩ = some v := hb.cell 0
  obtain ⟨i0, hi, hz0, hz1, hz2⟩ := info_parts info104
  have HI := Lib.hid hi
  have HZ0 := Lib.hid hz0
  have HZ1 := Lib.hid hz1
  have HZ2 := Lib.hid hz2
  clear hi hz0 hz1 hz2 ha hb hr hn hv hT1
  go_enter Try.func66, Try.ntmps66
  have k1 : Hid (Blk (w.alloc (.cells #[(Value.func (.func fn) #[] cap)] 104)) w.heap.size 104 [(Value.func (.func fn) #[] cap)]) := Blk.new w 104 [(Value.func (.func fn) #[] cap)]
  have b1 : Hid (Below w.heap.size w (w.alloc (.cells #[(Value.func (.func fn) #[] cap)] 104))) := (Below.refl _ _).alloc (Nat.le_refl _) _
  go_wp2_with (first
    | (at_builtin; refine wpList_append_own_at _ rfl (.tmp 9) (.tmp 12) 69 rfl B 104 i0 (.agg #[Value.nilFunc]) 1 8 Try.underlying69 HI.out HZ0.out HZ1.out HZ2.out rfl (by decide) v M.length xs rfl (HR.out.alloc _) ⟨w.heap.size, 0, none⟩ 1 1 [(Value.func (.func fn) #[] cap)] rfl rfl (fun j u hu => by have h := k1.out.range j u hu; rw [Nat.zero_add] at h; rw [Addr.add_mid, Nat.zero_add]; exact h) (by simp [Value.oneCell']) (by simp only [maxLen]; omega) (by omega) (by have := HA.out.base; have := HA.out.lt; rw [World.size_alloc]; omega) ?_; intro v3 w3 ho3 hg3 _ hor3; have O3 := Lib.hid ho3; have G3 := Lib.hid hg3; have OR3 := Lib.hid hor3; have K3 : Hid (Blk w3 ab 71 [v, .int .i64 n0]) := (hg3.block ab (by have := HA.out.lt; rw [World.size_alloc]; omega) HA.out.ne).trans (HB.out.alloc _); clear ho3 hg3 hor3)
    | ((with_reducible refine wpList_store_cell (o := ⟨_, .store 69 (.tmp 15) (.tmp 13), _, _, _, _⟩) rfl 69 _ _ rfl rfl ab 0 v3 ?_ ?_ (own_one' O3.out) 71 [v, .int .i64 n0] K3.out (by simp) size69 ?_); (· rfl); (· rfl); intro w4 k4 b4 s4; obtain ⟨A3, c3, hv3⟩ := own_form O3.out; subst hv3; have c4 : w4.cell? ⟨ab, 0, none⟩ = _ := k4.out.cell 0))
  go_ret
  have SZ : w.heap.size + 1 ≤ w3.heap.size := by have := G3.out.size; rw [World.size_alloc] at this; exact this
  have LT := HA.out.lt
  have RL := HA.out.rowLt
  have hrow4 : ∀ k, (Value.slice A3 (M.length + 1) c3).ownBlock = some k → k ≠ ab := fun k hk e => by
    subst e
    rcases OR3.out with h | h
    · exact HA.out.ne (by rw [← h, hk])
    · rw [h] at hk
      injection hk with hk
      rw [World.size_alloc] at hk
      omega
  have hT : ∀ b, TA w B ab v b → TA w4 B ab (.slice A3 (M.length + 1) c3) b := fun b hb => ⟨hb.1, by have := hb.2.1; have := s4.out; omega, hb.2.2.1, fun e => by
    rcases OR3.out with h | h
    · exact hb.2.2.2 (by rw [← h]; exact e)
    · rw [h] at e
      injection e with e
      have := hb.2.1
      rw [World.size_alloc] at e
      omega⟩
  have hk : ∀ b j, TA w B ab v b → w4.cell? ⟨b, j, none⟩ = w.cell? ⟨b, j, none⟩ := fun b j hb => by
    have e1 := b1.out.cell (p := ⟨b, j, none⟩) hb.2.1
    have e2 : w3.cell? ⟨b, j, none⟩ = _ := World.cell?_of_block (G3.out.block b (by have := hb.2.1; rw [World.size_alloc]; omega) hb.2.2.2)
    have e3 := b4.out.cell (p := ⟨b, j, none⟩) (by have := hb.2.1; show b < _; omega) hb.2.2.1
    exact e3.trans (e2.trans e1)
  refine ⟨by simp, _, ⟨⟨n0, k4.out⟩, HA.out.base, ⟨xs ++ [(Value.func (.func fn) #[] cap)], ?_, NdsL.snoc (HN.out.keep (fun _ h => .inl h) (fun b j hb => hk b j (HA.out.sub b hb))) (HV.out.keep (fun _ h => .inr h) (fun b j hb => hk b j (HT1.out b hb)))⟩, fun n hn => hT n (by rcases hn with hn | hn; exact HA.out.sub n hn; exact HT1.out n hn)⟩, ?_, ?_⟩
  · rw [List.length_append, List.length_singleton]
    have h := O3.out
    refine ⟨h.1, ?_⟩
    rcases h.2 with h0 | ⟨g, cap, cur, e, h1, h2, h3⟩
    · exact .inl h0
    · exact .inr ⟨g, cap, cur, e, h1, (b4.out.block g (Array.getElem?_eq_some_iff.1 h2).1 (hrow4 g (by rw [e]; rfl))).trans h2, h3⟩
  · have h1 : But (AutS ab v) w w3 := ((But.of_below b1.out).grown G3.out (fun k e _ => .inr e.symm))
    exact h1.row b4.out (fun _ => .inl rfl)
  · rcases OR3.out with h | h
    · exact .inl h
    · refine .inr (fun k hk => ?_)
      rw [h] at hk
      injection hk with hk
      rw [World.size_alloc] at hk
      omega
set_option maxHeartbeats 4000000 in
set_option maxRecDepth 100000 in
theorem add_nil (ab B : Nat) (v : Value) (T T1 : Nat → Prop) (M : List Nd) (x : Nd)  (w : World) (ha : Aut w B ab v T M) (hv : NdV w T1 Value.nilFunc x) (hT1 : ∀ n, T1 n → TA w B ab v n) (hM : M.length ≤ 1000000000) : Calls Try.prog 66 #[.pointer (some ⟨ab, 0, none⟩), Value.nilFunc] w (AddP ab B v (fun n => T n ∨ T1 n) w M.length (M ++ [x])) := by
  obtain ⟨n0, hb⟩ := ha.blk
  obtain ⟨xs, hr, hn⟩ := ha.row
  have HA := Lib.hid ha
  have HB := Lib.hid hb
  have HR := Lib.hid hr
  have HN := Lib.hid hn
  have HV := Lib.hid hv
  have HT1 := Lib.hid hT1
  have c0 : w.cell? ⟨ab, 0, none⟩ = some v := hb.cell 0
  obtain ⟨i0, hi, hz0, hz1, hz2⟩ := info_parts info104
  have HI := Lib.hid hi
  have HZ0 := Lib.hid hz0
  have HZ1 := Lib.hid hz1
  have HZ2 := Lib.hid hz2
  clear hi hz0 hz1 hz2 ha hb hr hn hv hT1
  go_enter Try.func66, Try.ntmps66
  have k1 : Hid (Blk (w.alloc (.cells #[Value.nilFunc] 104)) w.heap.size 104 [Value.nilFunc]) := Blk.new w 104 [Value.nilFunc]
  have b1 : Hid (Below w.heap.size w (w.alloc (.cells #[Value.nilFunc] 104))) := (Below.refl _ _).alloc (Nat.le_refl _) _
  go_wp2_with (first
    | (at_builtin; refine wpList_append_own_at _ rfl (.tmp 9) (.tmp 12) 69 rfl B 104 i0 (.agg #[Value.nilFunc]) 1 8 Try.underlying69 HI.out HZ0.out HZ1.out HZ2.out rfl (by decide) v M.length xs rfl (HR.out.alloc _) ⟨w.heap.size, 0, none⟩ 1 1 [Value.nilFunc] rfl rfl (fun j u hu => by have h := k1.out.range j u hu; rw [Nat.zero_add] at h; rw [Addr.add_mid, Nat.zero_add]; exact h) (by simp [Value.oneCell']) (by simp only [maxLen]; omega) (by omega) (by have := HA.out.base; have := HA.out.lt; rw [World.size_alloc]; omega) ?_; intro v3 w3 ho3 hg3 _ hor3; have O3 := Lib.hid ho3; have G3 := Lib.hid hg3; have OR3 := Lib.hid hor3; have K3 : Hid (Blk w3 ab 71 [v, .int .i64 n0]) := (hg3.block ab (by have := HA.out.lt; rw [World.size_alloc]; omega) HA.out.ne).trans (HB.out.alloc _); clear ho3 hg3 hor3)
    | ((with_reducible refine wpList_store_cell (o := ⟨_, .store 69 (.tmp 15) (.tmp 13), _, _, _, _⟩) rfl 69 _ _ rfl rfl ab 0 v3 ?_ ?_ (own_one' O3.out) 71 [v, .int .i64 n0] K3.out (by simp) size69 ?_); (· rfl); (· rfl); intro w4 k4 b4 s4; obtain ⟨A3, c3, hv3⟩ := own_form O3.out; subst hv3; have c4 : w4.cell? ⟨ab, 0, none⟩ = _ := k4.out.cell 0))
  go_ret
  have SZ : w.heap.size + 1 ≤ w3.heap.size := by have := G3.out.size; rw [World.size_alloc] at this; exact this
  have LT := HA.out.lt
  have RL := HA.out.rowLt
  have hrow4 : ∀ k, (Value.slice A3 (M.length + 1) c3).ownBlock = some k → k ≠ ab := fun k hk e => by
    subst e
    rcases OR3.out with h | h
    · exact HA.out.ne (by rw [← h, hk])
    · rw [h] at hk
      injection hk with hk
      rw [World.size_alloc] at hk
      omega
  have hT : ∀ b, TA w B ab v b → TA w4 B ab (.slice A3 (M.length + 1) c3) b := fun b hb => ⟨hb.1, by have := hb.2.1; have := s4.out; omega, hb.2.2.1, fun e => by
    rcases OR3.out with h | h
    · exact hb.2.2.2 (by rw [← h]; exact e)
    · rw [h] at e
      injection e with e
      have := hb.2.1
      rw [World.size_alloc] at e
      omega⟩
  have hk : ∀ b j, TA w B ab v b → w4.cell? ⟨b, j, none⟩ = w.cell? ⟨b, j, none⟩ := fun b j hb => by
    have e1 := b1.out.cell (p := ⟨b, j, none⟩) hb.2.1
    have e2 : w3.cell? ⟨b, j, none⟩ = _ := World.cell?_of_block (G3.out.block b (by have := hb.2.1; rw [World.size_alloc]; omega) hb.2.2.2)
    have e3 := b4.out.cell (p := ⟨b, j, none⟩) (by have := hb.2.1; show b < _; omega) hb.2.2.1
    exact e3.trans (e2.trans e1)
  refine ⟨by simp, _, ⟨⟨n0, k4.out⟩, HA.out.base, ⟨xs ++ [Value.nilFunc], ?_, NdsL.snoc (HN.out.keep (fun _ h => .inl h) (fun b j hb => hk b j (HA.out.sub b hb))) (HV.out.keep (fun _ h => .inr h) (fun b j hb => hk b j (HT1.out b hb)))⟩, fun n hn => hT n (by rcases hn with hn | hn; exact HA.out.sub n hn; exact HT1.out n hn)⟩, ?_, ?_⟩
  · rw [List.length_append, List.length_singleton]
    have h := O3.out
    refine ⟨h.1, ?_⟩
    rcases h.2 with h0 | ⟨g, cap, cur, e, h1, h2, h3⟩
    · exact .inl h0
    · exact .inr ⟨g, cap, cur, e, h1, (b4.out.block g (Array.getElem?_eq_some_iff.1 h2).1 (hrow4 g (by rw [e]; rfl))).trans h2, h3⟩
  · have h1 : But (AutS ab v) w w3 := ((But.of_below b1.out).grown G3.out (fun k e _ => .inr e.symm))
    exact h1.row b4.out (fun _ => .inl rfl)
  · rcases OR3.out with h | h
    · exact .inl h
    · refine .inr (fun k hk => ?_)
      rw [h] at hk
      injection hk with hk
      rw [World.size_alloc] at hk
      omega
end Go.Proofs.Ytilfggnhaehbcaa.Rx
