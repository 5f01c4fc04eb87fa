/- Layer 5: the reader of a text: a closure over the offset. -/
import Derived.Deep.RegionHeld3
import Derived.Deep.DeepCutAuto
import Derived.Test.YtbphhdmnfepbnaaLL
set_option linter.unusedVariables false
set_option linter.unusedSimpArgs false
namespace Go.Proofs.Ytbphhdmnfepbnaa.Lab
open Go.RowKit
/-- The reader of the text s stands at k. -/
structure RS (bt ba : Nat) (s : ByteArray) (k : Nat) (V : World) : Prop where
  hs : V.heap[bt]? = some (.cells #[.string s] 9 (0, 0))
  hk : V.heap[ba]? = some (.cells #[.int .i64 k] 3 (0, 0))
  le : k ≤ s.size
theorem RS.ne {bt ba : Nat} {s : ByteArray} {k : Nat} {V : World} (h : RS bt ba s k V) : bt ≠ ba := by
  rintro rfl
  have h1 := h.hs
  rw [h.hk] at h1
  simp at h1
theorem RS.cells {bt ba : Nat} {s : ByteArray} {k : Nat} {V : World} (h : RS bt ba s k V) : V.cell? ⟨bt, 0, none⟩ = some (.string s) ∧ V.cell? ⟨ba, 0, none⟩ = some (.int .i64 k) ∧ V.frozen? ⟨ba, 0, none⟩ = false := by
  refine ⟨?_, ?_, ?_⟩
  · simp [World.cell?, h.hs]
  · simp [World.cell?, h.hk]
  · simp [World.frozen?, h.hk]
theorem RS.lt {bt ba : Nat} {s : ByteArray} {k : Nat} {V : World} (h : RS bt ba s k V) : bt < V.heap.size ∧ ba < V.heap.size := ⟨(Array.getElem?_eq_some_iff.1 h.hs).1, (Array.getElem?_eq_some_iff.1 h.hk).1⟩
theorem RS.below {bt ba : Nat} {s : ByteArray} {k : Nat} {V V' : World} (h : RS bt ba s k V) (hb : Below V.heap.size V V') : RS bt ba s k V' := ⟨(hb.block _ h.lt.1).trans h.hs, (hb.block _ h.lt.2).trans h.hk, h.le⟩
theorem grown_trans {row : Option Nat} {A B C : World} (h : A.grownBy B row) (k : B.grownBy C row) : A.grownBy C row :=
  ⟨k.os.trans h.os, k.tape.trans h.tape, k.output.trans h.output, Nat.le_trans h.size k.size, fun b hb hne => (k.block b (Nat.lt_of_lt_of_le hb h.size) hne).trans (h.block b hb hne)⟩
theorem grown_below {row : Option Nat} {A B : World} (h : Below A.heap.size A B) : A.grownBy B row := ⟨h.os, h.tape, h.output, h.size, fun b hb _ => h.block b hb⟩
theorem RS.put {bt ba : Nat} {s : ByteArray} {k : Nat} {V : World} (h : RS bt ba s k V) {n : Nat} (hn : n ≤ s.size) : RS bt ba s n (V.setCell ⟨ba, 0, none⟩ (.int .i64 n)) := by
  refine ⟨(Below.heap_setCell V ⟨ba, 0, none⟩ _ bt h.ne).trans h.hs, ?_, hn⟩
  simp [World.setCell, Array.getElem?_modify, h.hk]
theorem put_grown (V : World) (ba : Nat) (v : Value) : V.grownBy (V.setCell ⟨ba, 0, none⟩ v) (some ba) :=
  ⟨rfl, rfl, rfl, by simp [World.setCell], fun b hb hne => Below.heap_setCell V ⟨ba, 0, none⟩ v b (fun e => hne (by rw [e]))⟩
theorem RS.grown {bt ba : Nat} {s : ByteArray} {k : Nat} {V V' : World} (h : RS bt ba s k V) {row : Option Nat} (hg : V.grownBy V' row) (h1 : some bt ≠ row) (h2 : some ba ≠ row) : RS bt ba s k V' := ⟨(hg.block _ h.lt.1 h1).trans h.hs, (hg.block _ h.lt.2 h2).trans h.hk, h.le⟩
/-- What a call of the reader does. -/
def NextPost (bt ba : Nat) (s : ByteArray) (k n : Nat) (w : World) (e : Ending) (w' : World) : Prop := e = .returned (.string (s.extract k (k + n))) ∧ RS bt ba s (k + n) w' ∧ w.grownBy w' (some ba)
def SkipPost (bt ba : Nat) (s : ByteArray) (k n : Nat) (b : Bool) (w : World) (e : Ending) (w' : World) : Prop := e = .returned (.bool b) ∧ RS bt ba s (if b then k + n else k) w' ∧ w.grownBy w' (some ba)
set_option maxHeartbeats 2000000 in
theorem next_word (bt ba bs : Nat) (s : ByteArray) (hs : s.size ≤ 1000000) (k n : Nat) (hn : k + n ≤ s.size) (w : World) (H : Hid (RS bt ba s k w))
    (FC : Hid (Calls Try.prog 61 #[.string (s.extract k s.size)] w.drew fun e w' => e = .returned (.int .i64 n) ∧ w.drew = w')) :
    Calls Try.prog 64 #[.func (.func 61) #[] #[], .pointer (some ⟨ba, 0, none⟩), .pointer (some ⟨bt, 0, none⟩)] w (NextPost bt ba s k n w) := by
  obtain ⟨c0, c1, c2⟩ := H.out.cells
  obtain ⟨l0, l1⟩ := H.out.lt
  have hle := H.out.le
  have hp := RS.put H.out hn
  rw [Int.natCast_add] at hp
  have HP : Hid (RS bt ba s (k + n) ((w.setCell ⟨ba, 0, none⟩ (.int .i64 ((k : Int) + (n : Int)))).drew)) := ⟨hp.hs, hp.hk, hp.le⟩
  clear hp
  have HG := Lib.hid (put_grown w ba (.int .i64 ((k : Int) + (n : Int))))
  have hks : k ≤ s.size := hle
  have HS : Hid (w.drew.cell? ⟨bt, 0, none⟩ = some (.string s) ∧ w.drew.cell? ⟨ba, 0, none⟩ = some (.int .i64 k)) := ⟨c0, c1⟩
  have HSF : Hid (w.drew.frozen? ⟨ba, 0, none⟩ = false) := c2
  go_enter Try.func64, Try.ntmps64
  go_upto_region 2 with fail
  refine wp_region_held_drew (S := (fun V => V.cell? ⟨bt, 0, none⟩ = some (.string s))) (by kernel_rfl) HS.out.1 (fun hHeld => ?_)
  refine wpAnyH_take (i := 1) (v := _) rfl (by kernel_rfl) (by kernel_rfl) (by kernel_rfl) (fun _ _ _ h => h) (Or.inl ⟨by rfl, by intro w hSw; (try dsimp only at hSw); go_simp; try (with_reducible rfl)⟩) (by assumption) ?_
  try simp only [Act.put, List.setIfInBounds_toArray, List.set_cons_zero, List.set_cons_succ]
  refine wpAnyH_take (i := 2) (v := _) rfl (by kernel_rfl) (by kernel_rfl) (by kernel_rfl) (fun _ _ _ h => h) (Or.inl ⟨by rfl, by intro w hSw; (try dsimp only at hSw); go_simp; try (with_reducible rfl)⟩) (by assumption) ?_
  try simp only [Act.put, List.setIfInBounds_toArray, List.set_cons_zero, List.set_cons_succ]
  refine wpAnyH_take (i := 3) (v := _) rfl (by kernel_rfl) (by kernel_rfl) (by kernel_rfl) (fun _ _ _ h => h) (Or.inl ⟨by rfl, by intro w hSw; (try dsimp only at hSw); go_simp; try (with_reducible rfl)⟩) (by assumption) ?_
  try simp only [Act.put, List.setIfInBounds_toArray, List.set_cons_zero, List.set_cons_succ]
  refine wpAnyH_take (i := 4) (v := _) rfl (by kernel_rfl) (by kernel_rfl) (by kernel_rfl) (fun _ _ _ h => h) (Or.inl ⟨by rfl, by intro w hSw; (try dsimp only at hSw); go_simp; try (with_reducible rfl)⟩) (by assumption) ?_
  try simp only [Act.put, List.setIfInBounds_toArray, List.set_cons_zero, List.set_cons_succ]
  have HG2 : Hid (w.grownBy ((w.setCell ⟨ba, 0, none⟩ (.int .i64 ((k : Int) + (n : Int)))).drew) (some ba)) := ⟨HG.out.os, HG.out.tape, HG.out.output, HG.out.size, HG.out.block⟩
  have hw : IntKind.i64.wrap ((k : Int) + (n : Int)) = (k : Int) + (n : Int) := IntWalk.i64_in _ (by omega)
  refine wpAnyH_ready (rs := [0, 5]) (by kernel_rfl) (by simp) ?_
  refine AllReadyH.cons rfl (fun K hK => ?_) (AllReadyH.cons rfl (fun K hK => ?_) AllReadyH.nil)
  · skip
    have f1 := HS.out.2
    go_simp
    refine hK.out _ _ (by assumption) (fun hHeld => ?_)
    clear hK K f1
    try simp only [Act.put, List.setIfInBounds_toArray, List.set_cons_zero, List.set_cons_succ]
    refine wpAnyH_ready (rs := [5]) (by kernel_rfl) (by simp) ?_
    refine AllReadyH.cons rfl (fun K hK => ?_) AllReadyH.nil
    go_simp
    go_at_call 61
    with_reducible refine Calls.mono FC.out ?_
    rintro e wq ⟨rfl, rfl⟩
    refine hK.out _ _ (by assumption) (fun hHeld => ?_)
    clear hK K
    try simp only [Act.put, List.setIfInBounds_toArray, List.set_cons_zero, List.set_cons_succ]
    refine wpAnyH_ready (rs := [6]) (by kernel_rfl) (by simp) ?_
    refine AllReadyH.cons rfl (fun K hK => ?_) AllReadyH.nil
    go_simp
    refine hK.out _ _ (by assumption) (fun hHeld => ?_)
    clear hK K
    try simp only [Act.put, List.setIfInBounds_toArray, List.set_cons_zero, List.set_cons_succ]
    refine wpAnyH_ready (rs := [7]) (by kernel_rfl) (by simp) ?_
    refine AllReadyH.cons rfl (fun K hK => ?_) AllReadyH.nil
    have f0 := HSF.out
    have f1 := HS.out.2
    go_simp
    refine hK.out _ _ HP.out.cells.1 (fun hHeld => ?_)
    clear hK K f0 f1
    try simp only [Act.put, List.setIfInBounds_toArray, List.set_cons_zero, List.set_cons_succ]
    refine wpAnyH_done (by kernel_rfl) ?_ _
    obtain ⟨d0, d1, d2⟩ := HP.out.cells
    go_wp2
    go_ret
    exact ⟨rfl, HP.out, HG2.out⟩
  · skip
    go_simp
    go_at_call 61
    with_reducible refine Calls.mono FC.out ?_
    rintro e wq ⟨rfl, rfl⟩
    refine hK.out _ _ (by assumption) (fun hHeld => ?_)
    clear hK K
    try simp only [Act.put, List.setIfInBounds_toArray, List.set_cons_zero, List.set_cons_succ]
    refine wpAnyH_ready (rs := [0]) (by kernel_rfl) (by simp) ?_
    refine AllReadyH.cons rfl (fun K hK => ?_) AllReadyH.nil
    have f1 := HS.out.2
    go_simp
    refine hK.out _ _ (by assumption) (fun hHeld => ?_)
    clear hK K f1
    try simp only [Act.put, List.setIfInBounds_toArray, List.set_cons_zero, List.set_cons_succ]
    refine wpAnyH_ready (rs := [6]) (by kernel_rfl) (by simp) ?_
    refine AllReadyH.cons rfl (fun K hK => ?_) AllReadyH.nil
    go_simp
    refine hK.out _ _ (by assumption) (fun hHeld => ?_)
    clear hK K
    try simp only [Act.put, List.setIfInBounds_toArray, List.set_cons_zero, List.set_cons_succ]
    refine wpAnyH_ready (rs := [7]) (by kernel_rfl) (by simp) ?_
    refine AllReadyH.cons rfl (fun K hK => ?_) AllReadyH.nil
    have f0 := HSF.out
    have f1 := HS.out.2
    go_simp
    refine hK.out _ _ HP.out.cells.1 (fun hHeld => ?_)
    clear hK K f0 f1
    try simp only [Act.put, List.setIfInBounds_toArray, List.set_cons_zero, List.set_cons_succ]
    refine wpAnyH_done (by kernel_rfl) ?_ _
    obtain ⟨d0, d1, d2⟩ := HP.out.cells
    go_wp2
    go_ret
    exact ⟨rfl, HP.out, HG2.out⟩
set_option maxHeartbeats 2000000 in
theorem next_plain (bt ba bs : Nat) (s : ByteArray) (hs : s.size ≤ 1000000) (k n : Nat) (hn : k + n ≤ s.size) (w : World) (H : Hid (RS bt ba s k w))
    (FC : Hid (Calls Try.prog 77 #[.string (s.extract k s.size)] w.drew fun e w' => e = .returned (.int .i64 n) ∧ w.drew = w')) :
    Calls Try.prog 64 #[.func (.func 77) #[] #[], .pointer (some ⟨ba, 0, none⟩), .pointer (some ⟨bt, 0, none⟩)] w (NextPost bt ba s k n w) := by
  obtain ⟨c0, c1, c2⟩ := H.out.cells
  obtain ⟨l0, l1⟩ := H.out.lt
  have hle := H.out.le
  have hp := RS.put H.out hn
  rw [Int.natCast_add] at hp
  have HP : Hid (RS bt ba s (k + n) ((w.setCell ⟨ba, 0, none⟩ (.int .i64 ((k : Int) + (n : Int)))).drew)) := ⟨hp.hs, hp.hk, hp.le⟩
  clear hp
  have HG := Lib.hid (put_grown w ba (.int .i64 ((k : Int) + (n : Int))))
  have hks : k ≤ s.size := hle
  have HS : Hid (w.drew.cell? ⟨bt, 0, none⟩ = some (.string s) ∧ w.drew.cell? ⟨ba, 0, none⟩ = some (.int .i64 k)) := ⟨c0, c1⟩
  have HSF : Hid (w.drew.frozen? ⟨ba, 0, none⟩ = false) := c2
  go_enter Try.func64, Try.ntmps64
  go_upto_region 2 with fail
  refine wp_region_held_drew (S := (fun V => V.cell? ⟨bt, 0, none⟩ = some (.string s))) (by kernel_rfl) HS.out.1 (fun hHeld => ?_)
  refine wpAnyH_take (i := 1) (v := _) rfl (by kernel_rfl) (by kernel_rfl) (by kernel_rfl) (fun _ _ _ h => h) (Or.inl ⟨by rfl, by intro w hSw; (try dsimp only at hSw); go_simp; try (with_reducible rfl)⟩) (by assumption) ?_
  try simp only [Act.put, List.setIfInBounds_toArray, List.set_cons_zero, List.set_cons_succ]
  refine wpAnyH_take (i := 2) (v := _) rfl (by kernel_rfl) (by kernel_rfl) (by kernel_rfl) (fun _ _ _ h => h) (Or.inl ⟨by rfl, by intro w hSw; (try dsimp only at hSw); go_simp; try (with_reducible rfl)⟩) (by assumption) ?_
  try simp only [Act.put, List.setIfInBounds_toArray, List.set_cons_zero, List.set_cons_succ]
  refine wpAnyH_take (i := 3) (v := _) rfl (by kernel_rfl) (by kernel_rfl) (by kernel_rfl) (fun _ _ _ h => h) (Or.inl ⟨by rfl, by intro w hSw; (try dsimp only at hSw); go_simp; try (with_reducible rfl)⟩) (by assumption) ?_
  try simp only [Act.put, List.setIfInBounds_toArray, List.set_cons_zero, List.set_cons_succ]
  refine wpAnyH_take (i := 4) (v := _) rfl (by kernel_rfl) (by kernel_rfl) (by kernel_rfl) (fun _ _ _ h => h) (Or.inl ⟨by rfl, by intro w hSw; (try dsimp only at hSw); go_simp; try (with_reducible rfl)⟩) (by assumption) ?_
  try simp only [Act.put, List.setIfInBounds_toArray, List.set_cons_zero, List.set_cons_succ]
  have HG2 : Hid (w.grownBy ((w.setCell ⟨ba, 0, none⟩ (.int .i64 ((k : Int) + (n : Int)))).drew) (some ba)) := ⟨HG.out.os, HG.out.tape, HG.out.output, HG.out.size, HG.out.block⟩
  have hw : IntKind.i64.wrap ((k : Int) + (n : Int)) = (k : Int) + (n : Int) := IntWalk.i64_in _ (by omega)
  refine wpAnyH_ready (rs := [0, 5]) (by kernel_rfl) (by simp) ?_
  refine AllReadyH.cons rfl (fun K hK => ?_) (AllReadyH.cons rfl (fun K hK => ?_) AllReadyH.nil)
  · skip
    have f1 := HS.out.2
    go_simp
    refine hK.out _ _ (by assumption) (fun hHeld => ?_)
    clear hK K f1
    try simp only [Act.put, List.setIfInBounds_toArray, List.set_cons_zero, List.set_cons_succ]
    refine wpAnyH_ready (rs := [5]) (by kernel_rfl) (by simp) ?_
    refine AllReadyH.cons rfl (fun K hK => ?_) AllReadyH.nil
    go_simp
    go_at_call 77
    with_reducible refine Calls.mono FC.out ?_
    rintro e wq ⟨rfl, rfl⟩
    refine hK.out _ _ (by assumption) (fun hHeld => ?_)
    clear hK K
    try simp only [Act.put, List.setIfInBounds_toArray, List.set_cons_zero, List.set_cons_succ]
    refine wpAnyH_ready (rs := [6]) (by kernel_rfl) (by simp) ?_
    refine AllReadyH.cons rfl (fun K hK => ?_) AllReadyH.nil
    go_simp
    refine hK.out _ _ (by assumption) (fun hHeld => ?_)
    clear hK K
    try simp only [Act.put, List.setIfInBounds_toArray, List.set_cons_zero, List.set_cons_succ]
    refine wpAnyH_ready (rs := [7]) (by kernel_rfl) (by simp) ?_
    refine AllReadyH.cons rfl (fun K hK => ?_) AllReadyH.nil
    have f0 := HSF.out
    have f1 := HS.out.2
    go_simp
    refine hK.out _ _ HP.out.cells.1 (fun hHeld => ?_)
    clear hK K f0 f1
    try simp only [Act.put, List.setIfInBounds_toArray, List.set_cons_zero, List.set_cons_succ]
    refine wpAnyH_done (by kernel_rfl) ?_ _
    obtain ⟨d0, d1, d2⟩ := HP.out.cells
    go_wp2
    go_ret
    exact ⟨rfl, HP.out, HG2.out⟩
  · skip
    go_simp
    go_at_call 77
    with_reducible refine Calls.mono FC.out ?_
    rintro e wq ⟨rfl, rfl⟩
    refine hK.out _ _ (by assumption) (fun hHeld => ?_)
    clear hK K
    try simp only [Act.put, List.setIfInBounds_toArray, List.set_cons_zero, List.set_cons_succ]
    refine wpAnyH_ready (rs := [0]) (by kernel_rfl) (by simp) ?_
    refine AllReadyH.cons rfl (fun K hK => ?_) AllReadyH.nil
    have f1 := HS.out.2
    go_simp
    refine hK.out _ _ (by assumption) (fun hHeld => ?_)
    clear hK K f1
    try simp only [Act.put, List.setIfInBounds_toArray, List.set_cons_zero, List.set_cons_succ]
    refine wpAnyH_ready (rs := [6]) (by kernel_rfl) (by simp) ?_
    refine AllReadyH.cons rfl (fun K hK => ?_) AllReadyH.nil
    go_simp
    refine hK.out _ _ (by assumption) (fun hHeld => ?_)
    clear hK K
    try simp only [Act.put, List.setIfInBounds_toArray, List.set_cons_zero, List.set_cons_succ]
    refine wpAnyH_ready (rs := [7]) (by kernel_rfl) (by simp) ?_
    refine AllReadyH.cons rfl (fun K hK => ?_) AllReadyH.nil
    have f0 := HSF.out
    have f1 := HS.out.2
    go_simp
    refine hK.out _ _ HP.out.cells.1 (fun hHeld => ?_)
    clear hK K f0 f1
    try simp only [Act.put, List.setIfInBounds_toArray, List.set_cons_zero, List.set_cons_succ]
    refine wpAnyH_done (by kernel_rfl) ?_ _
    obtain ⟨d0, d1, d2⟩ := HP.out.cells
    go_wp2
    go_ret
    exact ⟨rfl, HP.out, HG2.out⟩
set_option maxHeartbeats 2000000 in
theorem next_all (bt ba bs : Nat) (s : ByteArray) (hs : s.size ≤ 1000000) (k n : Nat) (hn : k + n ≤ s.size) (w : World) (H : Hid (RS bt ba s k w))
    (FC : Hid (Calls Try.prog 46 #[.string (s.extract k s.size)] w.drew fun e w' => e = .returned (.int .i64 n) ∧ w.drew = w')) :
    Calls Try.prog 64 #[.func (.func 46) #[] #[], .pointer (some ⟨ba, 0, none⟩), .pointer (some ⟨bt, 0, none⟩)] w (NextPost bt ba s k n w) := by
  obtain ⟨c0, c1, c2⟩ := H.out.cells
  obtain ⟨l0, l1⟩ := H.out.lt
  have hle := H.out.le
  have hp := RS.put H.out hn
  rw [Int.natCast_add] at hp
  have HP : Hid (RS bt ba s (k + n) ((w.setCell ⟨ba, 0, none⟩ (.int .i64 ((k : Int) + (n : Int)))).drew)) := ⟨hp.hs, hp.hk, hp.le⟩
  clear hp
  have HG := Lib.hid (put_grown w ba (.int .i64 ((k : Int) + (n : Int))))
  have hks : k ≤ s.size := hle
  have HS : Hid (w.drew.cell? ⟨bt, 0, none⟩ = some (.string s) ∧ w.drew.cell? ⟨ba, 0, none⟩ = some (.int .i64 k)) := ⟨c0, c1⟩
  have HSF : Hid (w.drew.frozen? ⟨ba, 0, none⟩ = false) := c2
  go_enter Try.func64, Try.ntmps64
  go_upto_region 2 with fail
  refine wp_region_held_drew (S := (fun V => V.cell? ⟨bt, 0, none⟩ = some (.string s))) (by kernel_rfl) HS.out.1 (fun hHeld => ?_)
  refine wpAnyH_take (i := 1) (v := _) rfl (by kernel_rfl) (by kernel_rfl) (by kernel_rfl) (fun _ _ _ h => h) (Or.inl ⟨by rfl, by intro w hSw; (try dsimp only at hSw); go_simp; try (with_reducible rfl)⟩) (by assumption) ?_
  try simp only [Act.put, List.setIfInBounds_toArray, List.set_cons_zero, List.set_cons_succ]
  refine wpAnyH_take (i := 2) (v := _) rfl (by kernel_rfl) (by kernel_rfl) (by kernel_rfl) (fun _ _ _ h => h) (Or.inl ⟨by rfl, by intro w hSw; (try dsimp only at hSw); go_simp; try (with_reducible rfl)⟩) (by assumption) ?_
  try simp only [Act.put, List.setIfInBounds_toArray, List.set_cons_zero, List.set_cons_succ]
  refine wpAnyH_take (i := 3) (v := _) rfl (by kernel_rfl) (by kernel_rfl) (by kernel_rfl) (fun _ _ _ h => h) (Or.inl ⟨by rfl, by intro w hSw; (try dsimp only at hSw); go_simp; try (with_reducible rfl)⟩) (by assumption) ?_
  try simp only [Act.put, List.setIfInBounds_toArray, List.set_cons_zero, List.set_cons_succ]
  refine wpAnyH_take (i := 4) (v := _) rfl (by kernel_rfl) (by kernel_rfl) (by kernel_rfl) (fun _ _ _ h => h) (Or.inl ⟨by rfl, by intro w hSw; (try dsimp only at hSw); go_simp; try (with_reducible rfl)⟩) (by assumption) ?_
  try simp only [Act.put, List.setIfInBounds_toArray, List.set_cons_zero, List.set_cons_succ]
  have HG2 : Hid (w.grownBy ((w.setCell ⟨ba, 0, none⟩ (.int .i64 ((k : Int) + (n : Int)))).drew) (some ba)) := ⟨HG.out.os, HG.out.tape, HG.out.output, HG.out.size, HG.out.block⟩
  have hw : IntKind.i64.wrap ((k : Int) + (n : Int)) = (k : Int) + (n : Int) := IntWalk.i64_in _ (by omega)
  refine wpAnyH_ready (rs := [0, 5]) (by kernel_rfl) (by simp) ?_
  refine AllReadyH.cons rfl (fun K hK => ?_) (AllReadyH.cons rfl (fun K hK => ?_) AllReadyH.nil)
  · skip
    have f1 := HS.out.2
    go_simp
    refine hK.out _ _ (by assumption) (fun hHeld => ?_)
    clear hK K f1
    try simp only [Act.put, List.setIfInBounds_toArray, List.set_cons_zero, List.set_cons_succ]
    refine wpAnyH_ready (rs := [5]) (by kernel_rfl) (by simp) ?_
    refine AllReadyH.cons rfl (fun K hK => ?_) AllReadyH.nil
    go_simp
    go_at_call 46
    with_reducible refine Calls.mono FC.out ?_
    rintro e wq ⟨rfl, rfl⟩
    refine hK.out _ _ (by assumption) (fun hHeld => ?_)
    clear hK K
    try simp only [Act.put, List.setIfInBounds_toArray, List.set_cons_zero, List.set_cons_succ]
    refine wpAnyH_ready (rs := [6]) (by kernel_rfl) (by simp) ?_
    refine AllReadyH.cons rfl (fun K hK => ?_) AllReadyH.nil
    go_simp
    refine hK.out _ _ (by assumption) (fun hHeld => ?_)
    clear hK K
    try simp only [Act.put, List.setIfInBounds_toArray, List.set_cons_zero, List.set_cons_succ]
    refine wpAnyH_ready (rs := [7]) (by kernel_rfl) (by simp) ?_
    refine AllReadyH.cons rfl (fun K hK => ?_) AllReadyH.nil
    have f0 := HSF.out
    have f1 := HS.out.2
    go_simp
    refine hK.out _ _ HP.out.cells.1 (fun hHeld => ?_)
    clear hK K f0 f1
    try simp only [Act.put, List.setIfInBounds_toArray, List.set_cons_zero, List.set_cons_succ]
    refine wpAnyH_done (by kernel_rfl) ?_ _
    obtain ⟨d0, d1, d2⟩ := HP.out.cells
    go_wp2
    go_ret
    exact ⟨rfl, HP.out, HG2.out⟩
  · skip
    go_simp
    go_at_call 46
    with_reducible refine Calls.mono FC.out ?_
    rintro e wq ⟨rfl, rfl⟩
    refine hK.out _ _ (by assumption) (fun hHeld => ?_)
    clear hK K
    try simp only [Act.put, List.setIfInBounds_toArray, List.set_cons_zero, List.set_cons_succ]
    refine wpAnyH_ready (rs := [0]) (by kernel_rfl) (by simp) ?_
    refine AllReadyH.cons rfl (fun K hK => ?_) AllReadyH.nil
    have f1 := HS.out.2
    go_simp
    refine hK.out _ _ (by assumption) (fun hHeld => ?_)
    clear hK K f1
    try simp only [Act.put, List.setIfInBounds_toArray, List.set_cons_zero, List.set_cons_succ]
    refine wpAnyH_ready (rs := [6]) (by kernel_rfl) (by simp) ?_
    refine AllReadyH.cons rfl (fun K hK => ?_) AllReadyH.nil
    go_simp
    refine hK.out _ _ (by assumption) (fun hHeld => ?_)
    clear hK K
    try simp only [Act.put, List.setIfInBounds_toArray, List.set_cons_zero, List.set_cons_succ]
    refine wpAnyH_ready (rs := [7]) (by kernel_rfl) (by simp) ?_
    refine AllReadyH.cons rfl (fun K hK => ?_) AllReadyH.nil
    have f0 := HSF.out
    have f1 := HS.out.2
    go_simp
    refine hK.out _ _ HP.out.cells.1 (fun hHeld => ?_)
    clear hK K f0 f1
    try simp only [Act.put, List.setIfInBounds_toArray, List.set_cons_zero, List.set_cons_succ]
    refine wpAnyH_done (by kernel_rfl) ?_ _
    obtain ⟨d0, d1, d2⟩ := HP.out.cells
    go_wp2
    go_ret
    exact ⟨rfl, HP.out, HG2.out⟩
set_option maxHeartbeats 2000000 in
theorem next_skip (bt ba bs : Nat) (s : ByteArray) (hs : s.size ≤ 1000000) (k n : Nat) (hn : k + n ≤ s.size) (w : World) (H : Hid (RS bt ba s k w))
    (FC : Hid (Calls Try.prog 72 #[.string (s.extract k s.size), .pointer (some ⟨bs, 0, none⟩)] w.drew fun e w' => e = .returned (.int .i64 n) ∧ w.drew = w')) :
    Calls Try.prog 64 #[.func (.func 72) #[] #[.pointer (some ⟨bs, 0, none⟩)], .pointer (some ⟨ba, 0, none⟩), .pointer (some ⟨bt, 0, none⟩)] w (NextPost bt ba s k n w) := by
  obtain ⟨c0, c1, c2⟩ := H.out.cells
  obtain ⟨l0, l1⟩ := H.out.lt
  have hle := H.out.le
  have hp := RS.put H.out hn
  rw [Int.natCast_add] at hp
  have HP : Hid (RS bt ba s (k + n) ((w.setCell ⟨ba, 0, none⟩ (.int .i64 ((k : Int) + (n : Int)))).drew)) := ⟨hp.hs, hp.hk, hp.le⟩
  clear hp
  have HG := Lib.hid (put_grown w ba (.int .i64 ((k : Int) + (n : Int))))
  have hks : k ≤ s.size := hle
  have HS : Hid (w.drew.cell? ⟨bt, 0, none⟩ = some (.string s) ∧ w.drew.cell? ⟨ba, 0, none⟩ = some (.int .i64 k)) := ⟨c0, c1⟩
  have HSF : Hid (w.drew.frozen? ⟨ba, 0, none⟩ = false) := c2
  go_enter Try.func64, Try.ntmps64
  go_upto_region 2 with fail
  refine wp_region_held_drew (S := (fun V => V.cell? ⟨bt, 0, none⟩ = some (.string s))) (by kernel_rfl) HS.out.1 (fun hHeld => ?_)
  refine wpAnyH_take (i := 1) (v := _) rfl (by kernel_rfl) (by kernel_rfl) (by kernel_rfl) (fun _ _ _ h => h) (Or.inl ⟨by rfl, by intro w hSw; (try dsimp only at hSw); go_simp; try (with_reducible rfl)⟩) (by assumption) ?_
  try simp only [Act.put, List.setIfInBounds_toArray, List.set_cons_zero, List.set_cons_succ]
  refine wpAnyH_take (i := 2) (v := _) rfl (by kernel_rfl) (by kernel_rfl) (by kernel_rfl) (fun _ _ _ h => h) (Or.inl ⟨by rfl, by intro w hSw; (try dsimp only at hSw); go_simp; try (with_reducible rfl)⟩) (by assumption) ?_
  try simp only [Act.put, List.setIfInBounds_toArray, List.set_cons_zero, List.set_cons_succ]
  refine wpAnyH_take (i := 3) (v := _) rfl (by kernel_rfl) (by kernel_rfl) (by kernel_rfl) (fun _ _ _ h => h) (Or.inl ⟨by rfl, by intro w hSw; (try dsimp only at hSw); go_simp; try (with_reducible rfl)⟩) (by assumption) ?_
  try simp only [Act.put, List.setIfInBounds_toArray, List.set_cons_zero, List.set_cons_succ]
  refine wpAnyH_take (i := 4) (v := _) rfl (by kernel_rfl) (by kernel_rfl) (by kernel_rfl) (fun _ _ _ h => h) (Or.inl ⟨by rfl, by intro w hSw; (try dsimp only at hSw); go_simp; try (with_reducible rfl)⟩) (by assumption) ?_
  try simp only [Act.put, List.setIfInBounds_toArray, List.set_cons_zero, List.set_cons_succ]
  have HG2 : Hid (w.grownBy ((w.setCell ⟨ba, 0, none⟩ (.int .i64 ((k : Int) + (n : Int)))).drew) (some ba)) := ⟨HG.out.os, HG.out.tape, HG.out.output, HG.out.size, HG.out.block⟩
  have hw : IntKind.i64.wrap ((k : Int) + (n : Int)) = (k : Int) + (n : Int) := IntWalk.i64_in _ (by omega)
  refine wpAnyH_ready (rs := [0, 5]) (by kernel_rfl) (by simp) ?_
  refine AllReadyH.cons rfl (fun K hK => ?_) (AllReadyH.cons rfl (fun K hK => ?_) AllReadyH.nil)
  · skip
    have f1 := HS.out.2
    go_simp
    refine hK.out _ _ (by assumption) (fun hHeld => ?_)
    clear hK K f1
    try simp only [Act.put, List.setIfInBounds_toArray, List.set_cons_zero, List.set_cons_succ]
    refine wpAnyH_ready (rs := [5]) (by kernel_rfl) (by simp) ?_
    refine AllReadyH.cons rfl (fun K hK => ?_) AllReadyH.nil
    go_simp
    go_at_call 72
    with_reducible refine Calls.mono FC.out ?_
    rintro e wq ⟨rfl, rfl⟩
    refine hK.out _ _ (by assumption) (fun hHeld => ?_)
    clear hK K
    try simp only [Act.put, List.setIfInBounds_toArray, List.set_cons_zero, List.set_cons_succ]
    refine wpAnyH_ready (rs := [6]) (by kernel_rfl) (by simp) ?_
    refine AllReadyH.cons rfl (fun K hK => ?_) AllReadyH.nil
    go_simp
    refine hK.out _ _ (by assumption) (fun hHeld => ?_)
    clear hK K
    try simp only [Act.put, List.setIfInBounds_toArray, List.set_cons_zero, List.set_cons_succ]
    refine wpAnyH_ready (rs := [7]) (by kernel_rfl) (by simp) ?_
    refine AllReadyH.cons rfl (fun K hK => ?_) AllReadyH.nil
    have f0 := HSF.out
    have f1 := HS.out.2
    go_simp
    refine hK.out _ _ HP.out.cells.1 (fun hHeld => ?_)
    clear hK K f0 f1
    try simp only [Act.put, List.setIfInBounds_toArray, List.set_cons_zero, List.set_cons_succ]
    refine wpAnyH_done (by kernel_rfl) ?_ _
    obtain ⟨d0, d1, d2⟩ := HP.out.cells
    go_wp2
    go_ret
    exact ⟨rfl, HP.out, HG2.out⟩
  · skip
    go_simp
    go_at_call 72
    with_reducible refine Calls.mono FC.out ?_
    rintro e wq ⟨rfl, rfl⟩
    refine hK.out _ _ (by assumption) (fun hHeld => ?_)
    clear hK K
    try simp only [Act.put, List.setIfInBounds_toArray, List.set_cons_zero, List.set_cons_succ]
    refine wpAnyH_ready (rs := [0]) (by kernel_rfl) (by simp) ?_
    refine AllReadyH.cons rfl (fun K hK => ?_) AllReadyH.nil
    have f1 := HS.out.2
    go_simp
    refine hK.out _ _ (by assumption) (fun hHeld => ?_)
    clear hK K f1
    try simp only [Act.put, List.setIfInBounds_toArray, List.set_cons_zero, List.set_cons_succ]
    refine wpAnyH_ready (rs := [6]) (by kernel_rfl) (by simp) ?_
    refine AllReadyH.cons rfl (fun K hK => ?_) AllReadyH.nil
    go_simp
    refine hK.out _ _ (by assumption) (fun hHeld => ?_)
    clear hK K
    try simp only [Act.put, List.setIfInBounds_toArray, List.set_cons_zero, List.set_cons_succ]
    refine wpAnyH_ready (rs := [7]) (by kernel_rfl) (by simp) ?_
    refine AllReadyH.cons rfl (fun K hK => ?_) AllReadyH.nil
    have f0 := HSF.out
    have f1 := HS.out.2
    go_simp
    refine hK.out _ _ HP.out.cells.1 (fun hHeld => ?_)
    clear hK K f0 f1
    try simp only [Act.put, List.setIfInBounds_toArray, List.set_cons_zero, List.set_cons_succ]
    refine wpAnyH_done (by kernel_rfl) ?_ _
    obtain ⟨d0, d1, d2⟩ := HP.out.cells
    go_wp2
    go_ret
    exact ⟨rfl, HP.out, HG2.out⟩
end Go.Proofs.Ytbphhdmnfepbnaa.Lab
