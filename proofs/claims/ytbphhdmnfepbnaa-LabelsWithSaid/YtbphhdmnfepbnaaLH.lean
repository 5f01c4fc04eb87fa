/- Layer 5: With of the reference. -/
import Derived.Test.YtbphhdmnfepbnaaWords
set_option linter.unusedVariables false
set_option linter.unusedSimpArgs false
namespace Go.Proofs.Ytbphhdmnfepbnaa.Lab
open Go.RowKit
/-- How many labels at the beginning have a lesser name. -/
def lessN (s : ByteArray) : List Lb → Nat
  | [] => 0
  | x :: r => if Op.bytesLess x.n.toList s.toList = true then lessN s r + 1 else 0
theorem lessN_le (s : ByteArray) : ∀ l, lessN s l ≤ l.length
  | [] => Nat.le_refl _
  | x :: r => by
    have := lessN_le s r
    rw [lessN, List.length_cons]
    split <;> omega
/-- With. -/
def insL (m : List Lb) (k : Nat) (x : Lb) : List Lb := m.take k ++ x :: m.drop k
def withL (l : List Lb) (n v : ByteArray) : List Lb :=
  if v.toList.isEmpty = true then keepL false [n] l else insL (keepL false [n] l) (lessN n (keepL false [n] l)) ⟨n, v⟩
theorem withL_nil {l : List Lb} {n v : ByteArray} (h : v.toList.isEmpty = true) : withL l n v = keepL false [n] l := if_pos h
theorem withL_ins {l : List Lb} {n v : ByteArray} (h : v.toList.isEmpty = false) : withL l n v = insL (keepL false [n] l) (lessN n (keepL false [n] l)) ⟨n, v⟩ := if_neg (by simp [h])
structure Less (s : ByteArray) (m : List Lb) (k : Nat) : Prop where
  eq : lessN s m = k + lessN s (m.drop k)
theorem Less.start (s : ByteArray) (m : List Lb) : Less s m 0 := ⟨by simp⟩
theorem Less.next {s : ByteArray} {m : List Lb} {k : Nat} (H : Less s m k) (hk : k < m.length) (h : Op.bytesLess m[k].n.toList s.toList = true) : Less s m (k + 1) := by
  refine ⟨?_⟩
  rw [H.eq, drop_at hk, lessN, if_pos h]
  omega
theorem Less.stop {s : ByteArray} {m : List Lb} {k : Nat} (H : Less s m k) (hk : k < m.length) (h : Op.bytesLess m[k].n.toList s.toList = false) : lessN s m = k := by
  rw [H.eq, drop_at hk, lessN, if_neg (by simp [h])]
  rfl
theorem Less.done {s : ByteArray} {m : List Lb} (H : Less s m m.length) : lessN s m = m.length := by
  rw [H.eq, List.drop_of_length_le (Nat.le_refl _)]
  rfl
theorem names_one (w : World) (n : ByteArray) : SS (w.alloc (.cells #[.string n] 9)) (w.heap.size + 1) (some ⟨w.heap.size, 0, none⟩) [n] := fun _ => by
  refine ⟨_, 0, rfl, by omega, fun j hj => ?_⟩
  have : j = 0 := by simpa using hj
  subst this
  go_simp
theorem insL_cells (m : List Lb) (k : Nat) (x : Lb) : cellsL (insL m k x) = (cellsL m).take (k * 2) ++ [.string x.n, .string x.v] ++ (cellsL m).drop (k * 2) := by
  unfold insL
  rw [cellsL_append, show x :: m.drop k = [x] ++ m.drop k from rfl, cellsL_append, cellsL_one, cellsL_take, cellsL_drop, List.append_assoc]
theorem insL_len {m : List Lb} {k : Nat} (x : Lb) (hk : k ≤ m.length) : (insL m k x).length = m.length + 1 := by
  unfold insL
  rw [List.length_append, List.length_cons, List.length_take, List.length_drop]
  omega
theorem one_of {l : List Value} (h : ∀ u ∈ l, u.oneCell' = true) (k : Nat) : ∀ u ∈ l.take k, u.oneCell' = true := fun u hu => h u (List.mem_of_mem_take hu)
theorem one_ofd {l : List Value} (h : ∀ u ∈ l, u.oneCell' = true) (k : Nat) : ∀ u ∈ l.drop k, u.oneCell' = true := fun u hu => h u (List.mem_of_mem_drop hu)
theorem add_lit (b off i : Nat) : (⟨b, off, none⟩ : Addr).add i = ⟨b, off + i, none⟩ := by cases i <;> simp [Addr.add]
theorem app_below {B : Nat} {a w w' : World} {row : Option Nat} (h : Below B a w) (hg : w.grownBy w' row) (hB : B ≤ w.heap.size) (hr : ∀ g, row = some g → B ≤ g) : Below B a w' := h.grown hg hB hr
theorem row_ge {v v' : Value} {N B : Nat} (h : v'.ownBlock = v.ownBlock ∨ v'.ownBlock = some N) (hv : ∀ g, v.ownBlock = some g → B ≤ g) (hN : B ≤ N) : ∀ g, v'.ownBlock = some g → B ≤ g := fun g hg => by
  rcases h with h | h
  · exact hv g (h.symm.trans hg)
  · rw [h] at hg; cases hg; exact hN
theorem ins_own {W : World} {B : Nat} {v : Value} {m : List Lb} {k : Nat} {n s : ByteArray} (hk : k ≤ m.length) (h : W.ownsRow B 29 2 v (0 + k + 1 + (m.length - k)) ([] ++ (cellsL m).take (k * 2) ++ [.string n, .string s] ++ (cellsL m).drop (k * 2))) : Own5 W B v (insL m k ⟨n, s⟩) := by
  unfold Own5
  rw [insL_cells, insL_len _ hk]
  rw [show m.length + 1 = 0 + k + 1 + (m.length - k) by omega]
  exact h
def InsPost (m : List Lb) (k : Nat) (x : Lb) (B : Nat) (w : World) (e : Ending) (w' : World) : Prop := ∃ v, e = .returned v ∧ Own5 w' B v (insL m k x) ∧ Below B w w'
set_option maxHeartbeats 4000000 in
theorem refWith_any (l : List Lb) (hl : l.length ≤ 100000) (A : Option Addr) (c : Nat) (n v : ByteArray) (w : World) (hA : LS w w.heap.size A l) :
    Calls Try.prog 16 #[.slice A l.length c, .string n, .string v] w (OwnPost (withL l n v) w) := by
  obtain ⟨i0, hi, hz0, hz1, hz2⟩ := info_parts info29
  have hA1 : LS (w.alloc (.cells #[.string n] 9)) (w.alloc (.cells #[.string n] 9)).heap.size A l := (hA.below ((Below.refl _ _).alloc (Nat.le_refl _) _)).more (by simp)
  have DD : Hid (Calls Try.prog 22 #[.slice A l.length c, .slice (some ⟨w.heap.size, 0, none⟩) 1 1] (w.alloc (.cells #[.string n] 9)) (OwnPost (keepL false [n] l) (w.alloc (.cells #[.string n] 9)))) := (refDrop_any l hl A c [n] (by unfold maxLen; simp) (some ⟨w.heap.size, 0, none⟩) 1 (w.alloc (.cells #[.string n] 9)) hA1 ((names_one w n).more (by simp)))
  have B0 : Hid (Below w.heap.size w (w.alloc (.cells #[.string n] 9))) := (Below.refl _ _).alloc (Nat.le_refl _) _
  have hml := Nat.le_trans (keepL_len false [n] l) hl
  have HM := Lib.hid hml
  clear hA hA1 hml
  cases he : v.toList.isEmpty with
  | true =>
    have HE := Lib.hid (withL_nil (l := l) (n := n) he)
    go_enter Try.func16, Try.ntmps16
    go_wp2_with (go_at_call 22; (with_reducible refine DD.out.mono ?_); rintro e w1 ⟨vm, rfl, hO, hB⟩; have HO := Lib.hid hO; have HB := Lib.hid hB; clear hO hB)
    go_ret
    rw [HE.out]
    exact ⟨_, rfl, HO.out.more (by simp), B0.out.trans (HB.out.mono (by simp))⟩
  | false =>
    have HE := Lib.hid (withL_ins (l := l) (n := n) he)
    generalize withL l n v = res at *
    generalize keepL false [n] l = m at *
    go_enter Try.func16, Try.ntmps16
    go_wp2_with (go_at_call 22; (with_reducible refine DD.out.mono ?_); rintro e w1 ⟨vm, rfl, hO, hB⟩; have HO := Lib.hid hO; have HB := Lib.hid (B0.out.trans (hB.mono (by simp))); obtain ⟨Am, cm, rfl, hLm⟩ := hO.form; have HL := Lib.hid hLm; clear hO hB hLm)
    have HM2 := HM.out
    have HS := Lib.hid (Less.start n m)
    go_loop [7] (fun i => ∃ k : Nat, k ≤ m.length ∧ i = .int .i64 k ∧ Hid (Less n m k)) (fun i => m.length - (intOf i).toNat)
    case atStart => exact ⟨0, by omega, rfl, HS⟩
    case round =>
      clear HS
      obtain ⟨k, hk, rfl, H⟩ := hrel
      have hstop : (k < m.length → ∀ (hk : k < m.length), Op.bytesLess m[k].n.toList n.toList = true → False) → Hid (lessN n m = k) := fun h => by
        by_cases hlt : k < m.length
        · exact H.out.stop hlt (by rw [← Bool.not_eq_true]; exact h hlt hlt)
        · obtain rfl : k = m.length := by omega
          exact H.out.done
      have HST := Lib.hid hstop
      clear hstop
      by_cases hgo : ∃ hk : k < m.length, Op.bytesLess m[k].n.toList n.toList = true
      · obtain ⟨hlt, hb⟩ := hgo
        obtain ⟨bl, off, rfl, hbl, h1, h2⟩ := HL.out.at_ hlt
        have HE2 := Lib.hid (H.out.next hlt hb)
        clear H HST
        go_wp2
        go_round
        case rel => exact ⟨k + 1, by omega, by go_num, HE2⟩
        case measure => simp [intOf]; omega
      · have HK := HST.out (fun _ hk hb => hgo ⟨hk, hb⟩)
        have HR : Hid (Own5 w1 w.heap.size (.slice Am m.length cm) m) := HO.out.more (by simp)
        have HRd := Lib.hid HL.out.reads
        have hcm : m.length ≤ cm := by
          rcases HO.out.2 with ⟨h1, h0⟩ | ⟨g, cap, cur, h1, _, _, h2, _⟩
          · rw [h0]; exact Nat.zero_le _
          · injection h1 with _ _ h3; rw [h3]; exact h2
        have hfin : ∀ (V : World) (vr : Value), Own5 V w.heap.size vr (insL m k ⟨n, v⟩) → Below w.heap.size w V → OwnPost res w (.returned vr) V := fun V vr h hb => by
          rw [HE.out, HK.out]
          exact ⟨_, rfl, h, hb⟩
        have HF := Lib.hid hfin
        have hS0 : ∀ (hk : k < m.length), Op.bytesLess m[k].n.toList n.toList = false := fun hk => by
          rw [← Bool.not_eq_true]; exact fun h => hgo ⟨hk, h⟩
        clear hfin HK hgo H HST HE DD
        have HSZ := Lib.hid HB.out.size
        have B1 : Hid (Below w.heap.size w (w1.alloc (.cells #[] 29))) := HB.out.alloc HB.out.size _
        have O1 : Hid ((w1.alloc (.cells #[] 29)).ownsRow w.heap.size 29 2 (.slice (some ⟨w1.heap.size, 0, none⟩) 0 0) 0 []) := World.ownsRow_made w1 #[] 0 HB.out.size (by unfold maxLen; omega) (by simp)
        have R1 : Hid (Reads (w1.alloc (.cells #[] 29)) w1.heap.size 2 Am m.length (cellsL m)) := HRd.out.alloc (Nat.le_refl _) _
        have tk := Lib.hid (cellsL_one' m)
        have tl := Lib.hid (cellsL_length m)
        by_cases hlt : k < m.length
        · obtain ⟨bl, off, rfl, hbl, h1, h2⟩ := HL.out.at_ hlt
          have hb0 := hS0 hlt
          have RC : Hid (∀ wb, Below w1.heap.size w1 wb → Reads wb w1.heap.size 2 (some ⟨bl, off + k * 2, none⟩) (m.length - k) ((cellsL m).drop (k * 2))) := fun wb hb => by
            have h := ((HRd.out.below hb).cut (cap := cm) hk hcm)
            rw [if_neg (by omega), Option.map_some, add_lit] at h
            exact h
          clear hS0 HL HO HRd HR
          go_wp2_with (first
            | (at_builtin; refine wpList_append_any _ rfl (.tmp 31) (.tmp 34) 22 rfl w.heap.size 29 i0 _ 2 32 Try.underlying22 hi hz0 hz1 hz2 rfl (by decide) (.slice (some ⟨w1.heap.size, 0, none⟩) 0 0) 0 [] rfl O1.out w1.heap.size (some ⟨bl, off, none⟩) k _ _ rfl (R1.out.take hk) (one_of tk.out _) (by simp only [maxLen]; omega) (by omega) (by have := HSZ.out; simp; omega) ?_; intro va wa hoa hga hata; have HOA := Lib.hid hoa; have BA := Lib.hid (app_below ((Below.refl _ w1).alloc (Nat.le_refl _) _) hga (by simp) (fun g e => by cases e; exact Nat.le_refl _)); have HTA := Lib.hid (row_ge (v := .slice (some ⟨w1.heap.size, 0, none⟩) 0 0) (B := w1.heap.size) hata (fun g e => by cases e; exact Nat.le_refl _) (by simp)); clear hoa hga hata)
            | (at_builtin; refine wpList_append_any _ rfl (.tmp 35) (.tmp 39) 22 rfl w.heap.size 29 i0 _ 2 32 Try.underlying22 hi hz0 hz1 hz2 rfl (by decide) va _ _ rfl (HOA.out.alloc _) (wa.heap.size + 1) (some ⟨wa.heap.size, 0, none⟩) 1 1 [.string n, .string v] rfl ⟨rfl, fun _ => ⟨_, rfl, by simp, cell_two_new _ _ _ _⟩⟩ (by simp [Value.oneCell']) (by simp only [maxLen]; omega) (by omega) (by have := HSZ.out; have := BA.out.size; simp; omega) ?_; intro vb wb hob hgb hatb; have HOB := Lib.hid hob; have BB := Lib.hid (app_below (BA.out.alloc BA.out.size _) hgb (by have := BA.out.size; simp; omega) HTA.out); have HTB := Lib.hid (row_ge (B := w1.heap.size) hatb HTA.out (by have := BA.out.size; simp; omega)); clear hob hgb hatb)
            | (at_builtin; refine wpList_append_any _ rfl (.tmp 41) (.tmp 44) 22 rfl w.heap.size 29 i0 _ 2 32 Try.underlying22 hi hz0 hz1 hz2 rfl (by decide) vb _ _ rfl HOB.out w1.heap.size (some ⟨bl, off + k * 2, none⟩) (m.length - k) _ _ rfl (RC.out wb BB.out) (one_ofd tk.out _) (by simp only [maxLen]; omega) (by omega) (by have := HSZ.out; have := BB.out.size; omega) ?_; intro vc wc hoc hgc hatc; have HOC := Lib.hid hoc; have BC := Lib.hid (app_below BB.out hgc BB.out.size HTB.out); clear hoc hgc hatc))
          go_ret
          exact HF.out _ _ (ins_own hk HOC.out) (HB.out.trans (BC.out.mono HSZ.out))
        · have HKm : Hid (k = m.length) := by
            have : k = m.length := by omega
            exact this
          clear hS0
          rcases HO.out.2 with ⟨hv, h0⟩ | ⟨g, cap, cur, hv, _, _, hnc, _⟩
          · obtain ⟨rfl, -, rfl⟩ : Am = none ∧ m.length = 0 ∧ cm = 0 := by simpa using hv
            have RC : Hid (∀ wb, Below w1.heap.size w1 wb → Reads wb w1.heap.size 2 none (m.length - k) ((cellsL m).drop (k * 2))) := fun wb hb => by
              have h := ((HRd.out.below hb).cut (cap := 0) hk hcm)
              simpa using h
            have hk0 : k ≤ 0 := by omega
            clear hv h0 HL HO HRd HR
            go_wp2_with (first
              | (at_builtin; refine wpList_append_any _ rfl (.tmp 31) (.tmp 34) 22 rfl w.heap.size 29 i0 _ 2 32 Try.underlying22 hi hz0 hz1 hz2 rfl (by decide) (.slice (some ⟨w1.heap.size, 0, none⟩) 0 0) 0 [] rfl O1.out w1.heap.size none 0 _ _ rfl (R1.out.take (Nat.zero_le _)) (one_of tk.out _) (by simp only [maxLen]; omega) (by omega) (by have := HSZ.out; simp; omega) ?_; intro va wa hoa hga hata; have HOA := Lib.hid hoa; have BA := Lib.hid (app_below ((Below.refl _ w1).alloc (Nat.le_refl _) _) hga (by simp) (fun g e => by cases e; exact Nat.le_refl _)); have HTA := Lib.hid (row_ge (v := .slice (some ⟨w1.heap.size, 0, none⟩) 0 0) (B := w1.heap.size) hata (fun g e => by cases e; exact Nat.le_refl _) (by simp)); clear hoa hga hata)
              | (at_builtin; refine wpList_append_any _ rfl (.tmp 35) (.tmp 39) 22 rfl w.heap.size 29 i0 _ 2 32 Try.underlying22 hi hz0 hz1 hz2 rfl (by decide) va _ _ rfl (HOA.out.alloc _) (wa.heap.size + 1) (some ⟨wa.heap.size, 0, none⟩) 1 1 [.string n, .string v] rfl ⟨rfl, fun _ => ⟨_, rfl, by simp, cell_two_new _ _ _ _⟩⟩ (by simp [Value.oneCell']) (by simp only [maxLen]; omega) (by omega) (by have := HSZ.out; have := BA.out.size; simp; omega) ?_; intro vb wb hob hgb hatb; have HOB := Lib.hid hob; have BB := Lib.hid (app_below (BA.out.alloc BA.out.size _) hgb (by have := BA.out.size; simp; omega) HTA.out); have HTB := Lib.hid (row_ge (B := w1.heap.size) hatb HTA.out (by have := BA.out.size; simp; omega)); clear hob hgb hatb)
              | (at_builtin; refine wpList_append_any _ rfl (.tmp 41) (.tmp 44) 22 rfl w.heap.size 29 i0 _ 2 32 Try.underlying22 hi hz0 hz1 hz2 rfl (by decide) vb _ _ rfl HOB.out w1.heap.size none (m.length - k) _ _ rfl (RC.out wb BB.out) (one_ofd tk.out _) (by simp only [maxLen]; omega) (by omega) (by have := HSZ.out; have := BB.out.size; omega) ?_; intro vc wc hoc hgc hatc; have HOC := Lib.hid hoc; have BC := Lib.hid (app_below BB.out hgc BB.out.size HTB.out); clear hoc hgc hatc))
            go_ret
            obtain rfl : k = 0 := by omega
            exact HF.out _ _ (ins_own hk HOC.out) (HB.out.trans (BC.out.mono HSZ.out))
          · obtain ⟨rfl, -, rfl⟩ : Am = some ⟨g, 0, none⟩ ∧ True ∧ cm = cap := by simpa using hv
            by_cases hck : cm = k
            · have RC : Hid (∀ wb, Below w1.heap.size w1 wb → Reads wb w1.heap.size 2 (some ⟨g, 0, none⟩) (m.length - k) ((cellsL m).drop (k * 2))) := fun wb hb => by
                have h := ((HRd.out.below hb).cut (cap := cm) hk hcm)
                rw [if_pos hck] at h
                exact h
              clear hv HL HO HRd HR
              go_wp2_with (first
                | (at_builtin; refine wpList_append_any _ rfl (.tmp 31) (.tmp 34) 22 rfl w.heap.size 29 i0 _ 2 32 Try.underlying22 hi hz0 hz1 hz2 rfl (by decide) (.slice (some ⟨w1.heap.size, 0, none⟩) 0 0) 0 [] rfl O1.out w1.heap.size (some ⟨g, 0, none⟩) k _ _ rfl (R1.out.take hk) (one_of tk.out _) (by simp only [maxLen]; omega) (by omega) (by have := HSZ.out; simp; omega) ?_; intro va wa hoa hga hata; have HOA := Lib.hid hoa; have BA := Lib.hid (app_below ((Below.refl _ w1).alloc (Nat.le_refl _) _) hga (by simp) (fun g e => by cases e; exact Nat.le_refl _)); have HTA := Lib.hid (row_ge (v := .slice (some ⟨w1.heap.size, 0, none⟩) 0 0) (B := w1.heap.size) hata (fun g e => by cases e; exact Nat.le_refl _) (by simp)); clear hoa hga hata)
                | (at_builtin; refine wpList_append_any _ rfl (.tmp 35) (.tmp 39) 22 rfl w.heap.size 29 i0 _ 2 32 Try.underlying22 hi hz0 hz1 hz2 rfl (by decide) va _ _ rfl (HOA.out.alloc _) (wa.heap.size + 1) (some ⟨wa.heap.size, 0, none⟩) 1 1 [.string n, .string v] rfl ⟨rfl, fun _ => ⟨_, rfl, by simp, cell_two_new _ _ _ _⟩⟩ (by simp [Value.oneCell']) (by simp only [maxLen]; omega) (by omega) (by have := HSZ.out; have := BA.out.size; simp; omega) ?_; intro vb wb hob hgb hatb; have HOB := Lib.hid hob; have BB := Lib.hid (app_below (BA.out.alloc BA.out.size _) hgb (by have := BA.out.size; simp; omega) HTA.out); have HTB := Lib.hid (row_ge (B := w1.heap.size) hatb HTA.out (by have := BA.out.size; simp; omega)); clear hob hgb hatb)
                | (at_builtin; refine wpList_append_any _ rfl (.tmp 41) (.tmp 44) 22 rfl w.heap.size 29 i0 _ 2 32 Try.underlying22 hi hz0 hz1 hz2 rfl (by decide) vb _ _ rfl HOB.out w1.heap.size (some ⟨g, 0, none⟩) (m.length - k) _ _ rfl (RC.out wb BB.out) (one_ofd tk.out _) (by simp only [maxLen]; omega) (by omega) (by have := HSZ.out; have := BB.out.size; omega) ?_; intro vc wc hoc hgc hatc; have HOC := Lib.hid hoc; have BC := Lib.hid (app_below BB.out hgc BB.out.size HTB.out); clear hoc hgc hatc))
              go_ret
              exact HF.out _ _ (ins_own hk HOC.out) (HB.out.trans (BC.out.mono HSZ.out))
            · have RC : Hid (∀ wb, Below w1.heap.size w1 wb → Reads wb w1.heap.size 2 (some ⟨g, k * 2, none⟩) (m.length - k) ((cellsL m).drop (k * 2))) := fun wb hb => by
                have h := ((HRd.out.below hb).cut (cap := cm) hk hcm)
                rw [if_neg hck, Option.map_some, add_lit, Nat.zero_add] at h
                exact h
              clear hv HL HO HRd HR
              go_wp2_with (first
                | (at_builtin; refine wpList_append_any _ rfl (.tmp 31) (.tmp 34) 22 rfl w.heap.size 29 i0 _ 2 32 Try.underlying22 hi hz0 hz1 hz2 rfl (by decide) (.slice (some ⟨w1.heap.size, 0, none⟩) 0 0) 0 [] rfl O1.out w1.heap.size (some ⟨g, 0, none⟩) k _ _ rfl (R1.out.take hk) (one_of tk.out _) (by simp only [maxLen]; omega) (by omega) (by have := HSZ.out; simp; omega) ?_; intro va wa hoa hga hata; have HOA := Lib.hid hoa; have BA := Lib.hid (app_below ((Below.refl _ w1).alloc (Nat.le_refl _) _) hga (by simp) (fun g e => by cases e; exact Nat.le_refl _)); have HTA := Lib.hid (row_ge (v := .slice (some ⟨w1.heap.size, 0, none⟩) 0 0) (B := w1.heap.size) hata (fun g e => by cases e; exact Nat.le_refl _) (by simp)); clear hoa hga hata)
                | (at_builtin; refine wpList_append_any _ rfl (.tmp 35) (.tmp 39) 22 rfl w.heap.size 29 i0 _ 2 32 Try.underlying22 hi hz0 hz1 hz2 rfl (by decide) va _ _ rfl (HOA.out.alloc _) (wa.heap.size + 1) (some ⟨wa.heap.size, 0, none⟩) 1 1 [.string n, .string v] rfl ⟨rfl, fun _ => ⟨_, rfl, by simp, cell_two_new _ _ _ _⟩⟩ (by simp [Value.oneCell']) (by simp only [maxLen]; omega) (by omega) (by have := HSZ.out; have := BA.out.size; simp; omega) ?_; intro vb wb hob hgb hatb; have HOB := Lib.hid hob; have BB := Lib.hid (app_below (BA.out.alloc BA.out.size _) hgb (by have := BA.out.size; simp; omega) HTA.out); have HTB := Lib.hid (row_ge (B := w1.heap.size) hatb HTA.out (by have := BA.out.size; simp; omega)); clear hob hgb hatb)
                | (at_builtin; refine wpList_append_any _ rfl (.tmp 41) (.tmp 44) 22 rfl w.heap.size 29 i0 _ 2 32 Try.underlying22 hi hz0 hz1 hz2 rfl (by decide) vb _ _ rfl HOB.out w1.heap.size (some ⟨g, k * 2, none⟩) (m.length - k) _ _ rfl (RC.out wb BB.out) (one_ofd tk.out _) (by simp only [maxLen]; omega) (by omega) (by have := HSZ.out; have := BB.out.size; omega) ?_; intro vc wc hoc hgc hatc; have HOC := Lib.hid hoc; have BC := Lib.hid (app_below BB.out hgc BB.out.size HTB.out); clear hoc hgc hatc))
              go_ret
              exact HF.out _ _ (ins_own hk HOC.out) (HB.out.trans (BC.out.mono HSZ.out))
end Go.Proofs.Ytbphhdmnfepbnaa.Lab
