
/- Layer 6: the reference's smallest functions. Layer 6: the reference's nodes in memory. Layer 6: the reference's nodes of bytes; items; escapes. Layer 6: escapes of the reference. Layer 6: the escape for words of the reference. Layer 6: classes of the reference. -/
import Derived.Test.YtdeppcddknakjaaGreatDoorCS
import Derived.Deep.DeepCutAuto
set_option maxRecDepth 100000
set_option linter.unusedVariables false
set_option linter.unusedSimpArgs false
namespace Go.Proofs.YtdeppcddknakjaaGreatDoor.Rx
open Go.RowKit
theorem u8_beq (c : UInt8) (k : Nat) (hk : k < 256) : (((c.toNat : Nat) : Int) == (k : Int)) = (c == UInt8.ofNat k) := by
 rw [Bool.eq_iff_iff, beq_iff_eq, beq_iff_eq, ← UInt8.toNat_inj]
 have : (UInt8.ofNat k).toNat = k := by simp; omega
 rw [this]
 omega
set_option maxHeartbeats 4000000 in
set_option maxRecDepth 100000 in
theorem special_any (c : UInt8) (w : World) : Calls Tryz.prog 176 #[.int .u8 (c.toNat : Int)] w (SameP (special c) w) := by
 have h1 : (((c.toNat : Nat) : Int) == 46) = (c == 46) := u8_beq c 46 (by decide)
 have h2 : (((c.toNat : Nat) : Int) == 91) = (c == 91) := u8_beq c 91 (by decide)
 have h3 : (((c.toNat : Nat) : Int) == 93) = (c == 93) := u8_beq c 93 (by decide)
 have h4 : (((c.toNat : Nat) : Int) == 40) = (c == 40) := u8_beq c 40 (by decide)
 have h5 : (((c.toNat : Nat) : Int) == 41) = (c == 41) := u8_beq c 41 (by decide)
 have h6 : (((c.toNat : Nat) : Int) == 124) = (c == 124) := u8_beq c 124 (by decide)
 have h7 : (((c.toNat : Nat) : Int) == 42) = (c == 42) := u8_beq c 42 (by decide)
 have h8 : (((c.toNat : Nat) : Int) == 43) = (c == 43) := u8_beq c 43 (by decide)
 have h9 : (((c.toNat : Nat) : Int) == 63) = (c == 63) := u8_beq c 63 (by decide)
 have h0 : (((c.toNat : Nat) : Int) == 92) = (c == 92) := u8_beq c 92 (by decide)
 have HS : Hid (special c = (c == 46 || c == 91 || c == 93 || c == 40 || c == 41 || c == 124 || c == 42 || c == 43 || c == 63 || c == 92)) := rfl
 generalize special c = sp at *
 generalize (c == 46) = b1 at *
 generalize (c == 91) = b2 at *
 generalize (c == 93) = b3 at *
 generalize (c == 40) = b4 at *
 generalize (c == 41) = b5 at *
 generalize (c == 124) = b6 at *
 generalize (c == 42) = b7 at *
 generalize (c == 43) = b8 at *
 generalize (c == 63) = b9 at *
 generalize (c == 92) = b0 at *
 generalize ((c.toNat : Nat) : Int) = n at *
 go_enter Tryz.func176, Tryz.ntmps176
 go_wp2
 all_goals
  go_ret
  refine ⟨?_, rfl⟩
  rw [HS.out]
  simp_all
set_option maxHeartbeats 4000000 in
set_option maxRecDepth 100000 in
theorem alnum_any (c : UInt8) (w : World) : Calls Tryz.prog 192 #[.int .u8 (c.toNat : Int)] w (SameP (alnum c) w) := by
 have HS : Hid (∀ n : Nat, c.toNat = n → alnum c = (decide (((97 : Int) ≤ n ∧ (n : Int) ≤ 122) ∨ ((65 : Int) ≤ n ∧ (n : Int) ≤ 90)) || decide ((48 : Int) ≤ n ∧ (n : Int) ≤ 57))) := fun n hn => by
  unfold alnum digit
  rw [hn, Bool.eq_iff_iff]
  simp only [Bool.or_eq_true, decide_eq_true_iff]
  omega
 obtain ⟨n, hn⟩ : ∃ n, c.toNat = n := ⟨_, rfl⟩
 have hlt : n < 256 := by rw [← hn]; exact c.toNat_lt
 have HE := Lib.hid (HS.out n hn)
 rw [hn]
 generalize alnum c = sp at *
 clear HS hn
 go_enter Tryz.func192, Tryz.ntmps192
 go_wp2
 all_goals
  go_ret
  refine ⟨ret_bool ?_, rfl⟩
  rw [HE.out, Bool.eq_iff_iff]
  simp only [Bool.or_eq_true, Bool.and_eq_true, decide_eq_true_iff, true_iff, iff_true, Bool.false_eq_true, false_iff]
  omega
def EsdP (c : UInt8) (w : World) (e : Ending) (w' : World) : Prop := ∃ (x : UInt8) (b : Bool), e = .returned (.tuple #[.int .u8 (x.toNat : Int), .bool b]) ∧ Hid (esc c = if b = true then some x else none) ∧ w = w'
set_option maxHeartbeats 4000000 in
set_option maxRecDepth 100000 in
theorem escaped_any (c : UInt8) (w : World) : Calls Tryz.prog 191 #[.int .u8 (c.toNat : Int)] w (EsdP c w) := by
 have h1 : (((c.toNat : Nat) : Int) == 110) = (c == 110) := u8_beq c 110 (by decide)
 have h2 : (((c.toNat : Nat) : Int) == 116) = (c == 116) := u8_beq c 116 (by decide)
 have KA := Lib.hid (fun V => alnum_any c V)
 cases e1 : (c == 110) with
 | true =>
  rw [e1] at h1
  have HE : Hid (esc c = some 10) := by rw [eq_of_beq e1]; rfl
  clear e1 h2
  go_enter Tryz.func191, Tryz.ntmps191
  go_wp2
  go_ret2
  exact ⟨10, true, rfl, HE.out, rfl⟩
 | false =>
  rw [e1] at h1
  cases e2 : (c == 116) with
  | true =>
   rw [e2] at h2
   have HE : Hid (esc c = some 9) := by rw [eq_of_beq e2]; rfl
   clear e1 e2
   go_enter Tryz.func191, Tryz.ntmps191
   go_wp2
   go_ret2
   exact ⟨9, true, rfl, HE.out, rfl⟩
  | false =>
   rw [e2] at h2
   have HE : Hid (esc c = if (!alnum c) = true then some c else none) := by
    show _ = _
    have n1 : c ≠ 110 := fun h => by rw [h] at e1; exact absurd e1 (by decide)
    have n2 : c ≠ 116 := fun h => by rw [h] at e2; exact absurd e2 (by decide)
    unfold esc
    rw [if_neg n1, if_neg n2]
    cases alnum c <;> rfl
   clear e1 e2
   generalize alnum c = al at *
   go_enter Tryz.func191, Tryz.ntmps191
   go_wp2_with (go_at_call 192; (with_reducible refine (KA.out _).mono ?_); rintro e wz ⟨rfl, rfl⟩)
   go_ret2
   exact ⟨c, _, rfl, HE.out, rfl⟩
end Go.Proofs.YtdeppcddknakjaaGreatDoor.Rx
namespace Go.Proofs.YtdeppcddknakjaaGreatDoor.Rx
open Go.RowKit
/-- The cells of a node. -/
def nodL (k : Int) (f : UInt8 → Bool) (s : Bool) (v : Value) : List Value := .int .i64 k :: (clsC f ++ [.bool s, v])
theorem nodL_len (k : Int) (f : UInt8 → Bool) (s : Bool) (v : Value) : (nodL k f s v).length = 259 := by unfold nodL; rw [List.length_cons, List.length_append, clsC_len]; rfl
theorem nodL_0 (k : Int) (f : UInt8 → Bool) (s : Bool) (v : Value) : (nodL k f s v)[0]? = some (.int .i64 k) := rfl
theorem nodL_set (k : Int) (f : UInt8 → Bool) (s : Bool) (v : Value) {j : Nat} (h : j < 256) : (nodL k f s v)[1 + j]? = some (.bool (f (UInt8.ofNat j))) := by
 unfold nodL
 rw [Nat.add_comm, List.getElem?_cons_succ, List.getElem?_append_left (by rw [clsC_len]; exact h)]
 exact clsC_at f h
theorem nodL_tl (k : Int) (f : UInt8 → Bool) (s : Bool) (v : Value) : (nodL k f s v)[257]? = some (.bool s) ∧ (nodL k f s v)[258]? = some v := by
 have h : ∀ j, (nodL k f s v)[257 + j]? = [Value.bool s, v][j]? := fun j => by
  unfold nodL
  rw [show 257 + j = 256 + j + 1 by omega, List.getElem?_cons_succ, List.getElem?_append_right (by rw [clsC_len]; omega), clsC_len, Nat.add_sub_cancel_left]
 exact ⟨h 0, h 1⟩
theorem nodL_one (k : Int) (f : UInt8 → Bool) (s : Bool) {v : Value} (h : v.oneCell' = true) : ∀ u ∈ nodL k f s v, u.oneCell' = true := by
 intro u hu
 unfold nodL at hu
 rcases List.mem_cons.1 hu with rfl | hu
 ·rfl
 ·rcases List.mem_append.1 hu with hu | hu
  ·exact clsC_one f u hu
  ·simp only [List.mem_cons, List.not_mem_nil, or_false] at hu
   rcases hu with rfl | rfl
   ·rfl
   ·exact h
theorem nodL_w0 (k k' : Int) (f : UInt8 → Bool) (s : Bool) (v : Value) : (nodL k f s v).set 0 (.int .i64 k') = nodL k' f s v := rfl
theorem nodL_wj (k : Int) (f : UInt8 → Bool) (s : Bool) (v : Value) {j : Nat} (h : j < 256) (b : Bool) : (nodL k f s v).set (1 + j) (.bool b) = nodL k (fun x => if x.toNat = j then b else f x) s v := by
 unfold nodL
 rw [Nat.add_comm, List.set_cons_succ, List.set_append, if_pos (by rw [clsC_len]; exact h), clsC_set f h]
theorem nodL_w1 (k : Int) (f : UInt8 → Bool) (s s' : Bool) (v : Value) : (nodL k f s v).set 257 (.bool s') = nodL k f s' v := by
 unfold nodL
 rw [List.set_cons_succ, List.set_append, if_neg (by rw [clsC_len]; omega), clsC_len]
 rfl
theorem nodL_w2 (k : Int) (f : UInt8 → Bool) (s : Bool) (v v' : Value) : (nodL k f s v).set 258 v' = nodL k f s v' := by
 unfold nodL
 rw [List.set_cons_succ, List.set_append, if_neg (by rw [clsC_len]; omega), clsC_len]
 rfl
theorem nodL_ext {f g : UInt8 → Bool} (h : ∀ x, f x = g x) (k : Int) (s : Bool) (v : Value) : nodL k f s v = nodL k g s v := by rw [show f = g from funext h]
theorem zero50 : (Tryz.prog.info? 102).map (·.zero) = some (some (.agg (nodL 0 none_ false (.slice none 0 0)).toArray)) := by kernel_rfl
theorem size50 : (Tryz.prog.info? 102).map (·.size) = some 259 := by kernel_rfl
theorem size44 : (Tryz.prog.info? 99).map (·.size) = some 256 := by kernel_rfl
theorem built50 (vs : List (Nat × Value)) : Tryz.prog.built 102 vs = Instr.fill (#[(0, 1), (1, 256), (257, 1), (258, 1)][·]?) (nodL 0 none_ false (.slice none 0 0)).toArray vs := by kernel_rfl
theorem built_kind (k : Int) : Tryz.prog.built 102 [(0, .int .i64 k)] = some (nodL k none_ false (.slice none 0 0)).toArray := by
 rw [built50, fill_cell (off := 0) rfl rfl (by rw [nodL_len]; omega), fill_nil, nodL_w0]
theorem built_none50 : Tryz.prog.built 102 [] = some (nodL 0 none_ false (.slice none 0 0)).toArray := by rw [built50, fill_nil]
theorem built_single (k : Int) : Tryz.prog.built 102 [(0, .int .i64 k), (2, .bool true)] = some (nodL k none_ true (.slice none 0 0)).toArray := by
 rw [built50, fill_cell (off := 0) rfl rfl (by rw [nodL_len]; omega), nodL_w0, fill_cell (off := 257) rfl rfl (by rw [nodL_len]; omega), fill_nil, nodL_w1]
theorem built_args (k : Int) {v : Value} (hv : v.cells = #[v]) : Tryz.prog.built 102 [(0, .int .i64 k), (3, v)] = some (nodL k none_ false v).toArray := by
 rw [built50, fill_cell (off := 0) rfl rfl (by rw [nodL_len]; omega), nodL_w0, fill_cell (off := 258) rfl hv (by rw [nodL_len]; omega), fill_nil, nodL_w2]
mutual
/-- The cells of a node, and what they lead to, in the blocks of T. -/
def ReV (w : World) (T : Nat → Prop) (C : List Value) : Re → Prop
 | .byte c => C = nodL 1 (fun x => x == c) true (.slice none 0 0)
 | .cls f => C = nodL 1 f false (.slice none 0 0)
 | .cat l => ∃ A cap, C = nodL 2 none_ false (.slice A l.length cap) ∧ l.length ≤ 1001 ∧ (l ≠ [] → ∃ g, A = some ⟨g, 0, none⟩ ∧ T g ∧ RsV w T g 0 l)
 | .alt l => ∃ A cap, C = nodL 3 none_ false (.slice A l.length cap) ∧ l.length ≤ 1001 ∧ (l ≠ [] → ∃ g, A = some ⟨g, 0, none⟩ ∧ T g ∧ RsV w T g 0 l)
 | .star r => ∃ g, C = nodL 4 none_ false (.slice (some ⟨g, 0, none⟩) 1 1) ∧ T g ∧ ∃ D, w.rangeAt g 0 D ∧ ReV w T D r
 | .plus r => ∃ g, C = nodL 5 none_ false (.slice (some ⟨g, 0, none⟩) 1 1) ∧ T g ∧ ∃ D, w.rangeAt g 0 D ∧ ReV w T D r
/-- The nodes from place k of block b on. -/
def RsV (w : World) (T : Nat → Prop) (b : Nat) : Nat → List Re → Prop
 | _, [] => True
 | k, r :: l => (∃ C, w.rangeAt b (k * 259) C ∧ ReV w T C r) ∧ RsV w T b (k + 1) l
end
/-- A slice that reads as nodes. -/
def NsV (w : World) (T : Nat → Prop) (A : Option Addr) (l : List Re) : Prop := l ≠ [] → ∃ g, A = some ⟨g, 0, none⟩ ∧ T g ∧ RsV w T g 0 l
mutual
theorem ReV.keep {w w' : World} {T T' : Nat → Prop} {C : List Value} (hT : ∀ k, T k → T' k) (hk : ∀ b j, T b → w'.cell? ⟨b, j, none⟩ = w.cell? ⟨b, j, none⟩) : ∀ {r : Re}, ReV w T C r → ReV w' T' C r
 | .byte c, h => by rw [ReV] at h ⊢; exact h
 | .cls f, h => by rw [ReV] at h ⊢; exact h
 | .cat l, h => by
  rw [ReV] at h ⊢
  obtain ⟨A, cap, h1, h0, h2⟩ := h
  refine ⟨A, cap, h1, h0, fun hl => ?_⟩
  obtain ⟨g, h3, h4, h5⟩ := h2 hl
  exact ⟨g, h3, hT g h4, RsV.keep hT hk (hk g · h4) h5⟩
 | .alt l, h => by
  rw [ReV] at h ⊢
  obtain ⟨A, cap, h1, h0, h2⟩ := h
  refine ⟨A, cap, h1, h0, fun hl => ?_⟩
  obtain ⟨g, h3, h4, h5⟩ := h2 hl
  exact ⟨g, h3, hT g h4, RsV.keep hT hk (hk g · h4) h5⟩
 | .star r, h => by
  rw [ReV] at h ⊢
  obtain ⟨g, h1, h2, D, h3, h4⟩ := h
  exact ⟨g, h1, hT g h2, D, rangeAt_keep h3 (hk g · h2), ReV.keep hT hk h4⟩
 | .plus r, h => by
  rw [ReV] at h ⊢
  obtain ⟨g, h1, h2, D, h3, h4⟩ := h
  exact ⟨g, h1, hT g h2, D, rangeAt_keep h3 (hk g · h2), ReV.keep hT hk h4⟩
theorem RsV.keep {w w' : World} {T T' : Nat → Prop} {b : Nat} (hT : ∀ k, T k → T' k) (hk : ∀ b j, T b → w'.cell? ⟨b, j, none⟩ = w.cell? ⟨b, j, none⟩) (hb : ∀ j, w'.cell? ⟨b, j, none⟩ = w.cell? ⟨b, j, none⟩) : ∀ {k : Nat} {l : List Re}, RsV w T b k l → RsV w' T' b k l
 | k, [], h => by rw [RsV]; trivial
 | k, r :: l, h => by
  rw [RsV] at h ⊢
  obtain ⟨⟨C, h1, h2⟩, h3⟩ := h
  exact ⟨⟨C, rangeAt_keep h1 hb, ReV.keep hT hk h2⟩, RsV.keep hT hk hb h3⟩
end
theorem NsV.keep {w w' : World} {T T' : Nat → Prop} {A : Option Addr} {l : List Re} (h : NsV w T A l) (hT : ∀ k, T k → T' k) (hk : ∀ b j, T b → w'.cell? ⟨b, j, none⟩ = w.cell? ⟨b, j, none⟩) : NsV w' T' A l := fun ha => by
 obtain ⟨g, h4, h5, h6⟩ := h ha
 exact ⟨g, h4, hT g h5, RsV.keep hT hk (hk g · h5) h6⟩
theorem RsV.at_ {w : World} {T : Nat → Prop} {b : Nat} : ∀ {k : Nat} {l : List Re}, RsV w T b k l → ∀ j (hj : j < l.length), ∃ C, w.rangeAt b ((k + j) * 259) C ∧ ReV w T C l[j]
 | k, [], h, j, hj => by simp at hj
 | k, p :: l, h, 0, hj => by rw [RsV] at h; exact h.1
 | k, p :: l, h, j + 1, hj => by
  rw [RsV] at h
  have := RsV.at_ h.2 j (by simpa using hj)
  rw [show k + (j + 1) = k + 1 + j by omega]
  exact this
theorem RsV.of {w : World} {T : Nat → Prop} {b : Nat} : ∀ {k : Nat} {l : List Re}, (∀ j (hj : j < l.length), ∃ C, w.rangeAt b ((k + j) * 259) C ∧ ReV w T C l[j]) → RsV w T b k l
 | k, [], h => by rw [RsV]; trivial
 | k, p :: l, h => by
  rw [RsV]
  refine ⟨h 0 (by simp), RsV.of fun j hj => ?_⟩
  have := h (j + 1) (by simpa using hj)
  rw [show k + (j + 1) = k + 1 + j by omega] at this
  exact this
theorem ReV.len {w : World} {T : Nat → Prop} {C : List Value} {r : Re} (h : ReV w T C r) : C.length = 259 ∧ ∀ v ∈ C, v.oneCell' = true := by
 cases r with
 | byte c => rw [ReV] at h; subst h; exact ⟨nodL_len _ _ _ _, nodL_one _ _ _ rfl⟩
 | cls f => rw [ReV] at h; subst h; exact ⟨nodL_len _ _ _ _, nodL_one _ _ _ rfl⟩
 | cat l => rw [ReV] at h; obtain ⟨A, cap, rfl, _⟩ := h; exact ⟨nodL_len _ _ _ _, nodL_one _ _ _ rfl⟩
 | alt l => rw [ReV] at h; obtain ⟨A, cap, rfl, _⟩ := h; exact ⟨nodL_len _ _ _ _, nodL_one _ _ _ rfl⟩
 | star r => rw [ReV] at h; obtain ⟨g, rfl, _⟩ := h; exact ⟨nodL_len _ _ _ _, nodL_one _ _ _ rfl⟩
 | plus r => rw [ReV] at h; obtain ⟨g, rfl, _⟩ := h; exact ⟨nodL_len _ _ _ _, nodL_one _ _ _ rfl⟩
/-- Nodes as one list of cells. -/
def NodL (w : World) (T : Nat → Prop) (xs : List Value) (l : List Re) : Prop := xs.length = l.length * 259 ∧ ∀ j (hj : j < l.length), ∃ C, (∀ i v, C[i]? = some v → xs[j * 259 + i]? = some v) ∧ ReV w T C l[j]
theorem NodL.nil (w : World) (T : Nat → Prop) : NodL w T [] [] := ⟨rfl, fun j hj => by simp at hj⟩
theorem NodL.keep {w w' : World} {T T' : Nat → Prop} {xs : List Value} {l : List Re} (h : NodL w T xs l) (hT : ∀ k, T k → T' k) (hk : ∀ b j, T b → w'.cell? ⟨b, j, none⟩ = w.cell? ⟨b, j, none⟩) : NodL w' T' xs l :=
 ⟨h.1, fun j hj => by
  obtain ⟨C, h1, h2⟩ := h.2 j hj
  exact ⟨C, h1, ReV.keep hT hk h2⟩⟩
theorem NodL.snoc {w : World} {T : Nat → Prop} {xs C : List Value} {l : List Re} {p : Re} (h : NodL w T xs l) (hp : ReV w T C p) : NodL w T (xs ++ C) (l ++ [p]) := by
 refine ⟨by rw [List.length_append, h.1, hp.len.1, List.length_append, List.length_singleton, Nat.add_mul], fun j hj => ?_⟩
 rw [List.length_append, List.length_singleton] at hj
 rcases Nat.lt_or_ge j l.length with hlt | hge
 ·obtain ⟨D, h1, h2⟩ := h.2 j hlt
  refine ⟨D, fun i v hv => ?_, by rw [List.getElem_append_left hlt]; exact h2⟩
  have h3 := h1 i v hv
  rw [List.getElem?_append_left (List.getElem?_eq_some_iff.1 h3).1]
  exact h3
 ·obtain rfl : j = l.length := by omega
  refine ⟨C, fun i v hv => ?_, by rw [List.getElem_append_right (Nat.le_refl _)]; simpa using hp⟩
  rw [List.getElem?_append_right (by rw [h.1]; omega), h.1, Nat.add_sub_cancel_left]
  exact hv
theorem NsV.of_own {w : World} {T : Nat → Prop} {B : Nat} {e : TypeId} {v : Value} {xs : List Value} {l : List Re} (h : w.ownsRow B e 259 v l.length xs) (hl : NodL w T xs l) (hT : ∀ g, v.ownBlock = some g → T g) : ∃ A cap, v = .slice A l.length cap ∧ NsV w T A l := by
 rcases h.2 with ⟨rfl, h0⟩ | ⟨g, cap, cur, rfl, hr⟩
 ·exact ⟨none, 0, by rw [h0], fun hne => absurd (List.length_eq_zero_iff.1 h0) hne⟩
 ·refine ⟨_, _, rfl, fun hne => ⟨g, rfl, hT g rfl, RsV.of fun j hj => ?_⟩⟩
  obtain ⟨C, h1, h2⟩ := hl.2 j hj
  refine ⟨C, fun i u hu => ?_, h2⟩
  have hc := World.ownsRow.cells (g := g) h rfl _ _ (h1 i u hu)
  have e : ∀ i, (⟨g, 0, none⟩ : Addr).add i = ⟨g, 0 + i, none⟩ := fun i => by cases i <;> simp [Addr.add]
  rw [e, Nat.zero_add] at hc
  rw [Nat.zero_add]
  exact hc
end Go.Proofs.YtdeppcddknakjaaGreatDoor.Rx
namespace Go.Proofs.YtdeppcddknakjaaGreatDoor.Rx
open Go.RowKit
theorem size4 : (Tryz.prog.info? 4).map (·.size) = some 1 := by kernel_rfl
def Z50 : List Value := nodL 0 none_ false (.slice none 0 0)
theorem Z50_len : Z50.length = 259 := nodL_len _ _ _ _
theorem zero50' : (Tryz.prog.info? 102).map (·.zero) = some (some (.agg Z50.toArray)) := zero50
theorem built_zero50 : Tryz.prog.built 102 [] = some Z50.toArray := built_none50
/-- What a function returns that makes a node. -/
def NodP (C : List Value) (w : World) (e : Ending) (w' : World) : Prop := e = .returned (.agg C.toArray) ∧ Hid (Below w.heap.size w w')
theorem byte_fun (c : UInt8) : ∀ x : UInt8, (if x.toNat = c.toNat then true else none_ x) = (x == c) := fun x => by
 by_cases h : x = c
 ·subst h; simp
 ·have h' : ¬ x.toNat = c.toNat := fun e => h (UInt8.toNat_inj.1 e)
  rw [if_neg h']
  simp [none_, h]
set_option maxHeartbeats 4000000 in
set_option maxRecDepth 100000 in
theorem single_any (c : UInt8) (w : World) : Calls Tryz.prog 177 #[.int .u8 (c.toNat : Int)] w (NodP (nodL 1 (fun x => x == c) true (.slice none 0 0)) w) := by
 obtain ⟨L1, hL1⟩ : ∃ L1, L1 = nodL 1 none_ true (.slice none 0 0) := ⟨_, rfl⟩
 obtain ⟨L2, hL2⟩ : ∃ L2, L2 = nodL 1 (fun x => x == c) true (.slice none 0 0) := ⟨_, rfl⟩
 have BL : Hid (Tryz.prog.built 102 [(0, .int .i64 1), (2, .bool true)] = some L1.toArray) := by rw [hL1]; exact built_single _
 have H1 : Hid (L1.length = 259) := by rw [hL1]; exact nodL_len _ _ _ _
 have H2 : Hid (L2.length = 259) := by rw [hL2]; exact nodL_len _ _ _ _
 have O1 : Hid (∀ v ∈ L1, v.oneCell' = true) := by rw [hL1]; exact nodL_one _ _ _ rfl
 have O2 : Hid (∀ v ∈ L2, v.oneCell' = true) := by rw [hL2]; exact nodL_one _ _ _ rfl
 have HLT : Hid (c.toNat < 256) := c.toNat_lt
 have HW2 : L1.set (1 + c.toNat) (.bool true) = L2 := by
  rw [hL1, hL2, nodL_wj _ _ _ _ HLT.out]
  exact nodL_ext (byte_fun c) _ _ _
 have CK : Hid (∀ (V : World) (g : Nat), Blk V g 102 (L1.set (1 + c.toNat) (.bool true)) → Blk V g 102 L2) := fun V g h => by rw [HW2] at h; exact h
 have ZL := Lib.hid Z50_len
 have ZZ := Lib.hid zero50'
 generalize Z50 = Z at ZL ZZ
 unfold NodP
 rw [← hL2]
 clear hL1 hL2 HW2
 have hc0 : (0 : Int) ≤ (c.toNat : Int) := Int.natCast_nonneg _
 have hc1 : (c.toNat : Int) < 256 := by have := HLT.out; omega
 go_enter Tryz.func177, Tryz.ntmps177
 go_wp2_with (first
  | ((with_reducible refine wpList_alloc_abs (o := ⟨some 2, .alloc 102, _, _, _, _⟩) rfl 102 rfl Z ZZ.out ?_); intro g1 w1 e1 k1 b1 s1)
  | ((with_reducible refine wpList_build_abs (o := ⟨_, .build 102 _, _, _, _, _⟩) rfl 102 _ rfl [(0, .int .i64 1), (2, .bool true)] ?_ L1 BL.out ?_); (· first | (simp; done) | (simp; rfl) | (simp; exact ⟨rfl, rfl⟩)))
  | ((with_reducible refine wpList_alloc_abs (o := ⟨some 3, .alloc 102, _, _, _, _⟩) rfl 102 rfl Z ZZ.out ?_); intro g2 w2 e2 k2 b2 s2)
  | ((with_reducible refine wpList_store_abs (o := ⟨_, .store 102 (.tmp 3) (.tmp 4), _, _, _, _⟩) rfl 102 _ _ rfl rfl g2 L1 ?_ ?_ 102 Z k2.out 259 size50 H1.out ZL.out O1.out ?_); (· rfl); (· rfl); intro w3 k3 b3 s3)
  | ((with_reducible refine wpList_store_cell (o := ⟨_, .store 4 (.tmp 7) (.const (.bool true)), _, _, _, _⟩) rfl 4 _ _ rfl rfl g2 (1 + c.toNat) (.bool true) ?_ ?_ rfl 102 L1 k3.out (by rw [H1.out]; have := HLT.out; omega) size4 ?_); (· rfl); (· rfl); intro w4 k4 b4 s4)
  | ((with_reducible refine wpList_load_abs (o := ⟨_, .load 102 (.tmp 3), _, _, _, _⟩) rfl 102 _ rfl g2 0 ?_ L2 ((CK.out _ _ k4.out).range) _ Tryz.underlying102 rfl 259 size50 H2.out ?_); (· rfl))
  | ((with_reducible refine wpList_store_abs (o := ⟨_, .store 102 (.tmp 2) (.tmp 8), _, _, _, _⟩) rfl 102 _ _ rfl rfl g1 L2 ?_ ?_ 102 Z (((k1.out.below b2.out k1.out.lt).but b3.out (by have := e2.out; have := k1.out.lt; omega)).but b4.out (by have := e2.out; have := k1.out.lt; omega)) 259 size50 H2.out ZL.out O2.out ?_); (· rfl); (· rfl); intro w5 k5 b5 s5))
 refine bodyPost_ret (results_cell_row rfl _ _ g1 102 L2.toArray (0, 0) _ rfl k5.out Tryz.underlying102 rfl (by simpa [H2.out] using size50)) rfl ⟨rfl, ?_⟩
 have h1 := e1.out
 have h2 := e2.out
 have h3 := s1.out
 have h4 := b2.out.size
 have h5 := b3.out.size
 have h6 := b4.out.size
 exact b1.out.trans ((b2.out.mono (by omega)).trans ((b3.out.below (by omega) (fun n hn => by omega)).trans ((b4.out.below (by omega) (fun n hn => by omega)).trans (b5.out.below (by omega) (fun n hn => by omega)))))
/-- What item returns. -/
def ItmP (p : ByteArray) (i : Nat) (w : World) (e : Ending) (w' : World) : Prop := ∃ (x : UInt8) (k : Nat) (b : Bool), e = .returned (.tuple #[.int .u8 (x.toNat : Int), .int .i64 (k : Int), .bool b]) ∧ Hid (b = true → item (p.data.toList.drop i) = some (x, p.data.toList.drop k) ∧ i < k ∧ k ≤ p.size) ∧ Hid (b = false → item (p.data.toList.drop i) = none) ∧ Hid (i ≤ k ∧ k ≤ i + 2) ∧ w = w'
theorem drop_end {p : ByteArray} {i : Nat} (h : p.size ≤ i) : p.data.toList.drop i = [] := List.drop_of_length_le (by rw [size_len]; exact h)
theorem beq_u8 {c : UInt8} {k : Nat} (hk : k < 256) (h : c = UInt8.ofNat k) : (((c.toNat : Nat) : Int) == (k : Int)) = true := by rw [u8_beq c k hk, h]; simp
theorem bne_u8 {c : UInt8} {k : Nat} (hk : k < 256) (h : ¬ c = UInt8.ofNat k) : (((c.toNat : Nat) : Int) == (k : Int)) = false := by rw [u8_beq c k hk]; simpa using h
set_option maxHeartbeats 4000000 in
set_option maxRecDepth 100000 in
theorem item_ref (p : ByteArray) (hp : p.size ≤ 1000) (i : Nat) (hi : i ≤ 2000) (w : World) : Calls Tryz.prog 193 #[.string p, .int .i64 (i : Int)] w (ItmP p i w) := by
 have hi0 : (0 : Int) ≤ (i : Int) := Int.natCast_nonneg _
 by_cases hlt : i < p.size
 ·have hlt' : (i : Int) < (p.size : Int) := by omega
  have HD := Lib.hid (drop_cons_ p hlt)
  by_cases h93 : p[i] = 93
  ·have e93 : (((p[i].toNat : Nat) : Int) == 93) = true := beq_u8 (k := 93) (by decide) h93
   have HN : Hid (item (p.data.toList.drop i) = none) := by
    show _ = _
    rw [HD.out, item, if_pos h93]
   clear HD h93
   go_enter Tryz.func193, Tryz.ntmps193
   go_wp2_with fail
   go_ret3
   exact ⟨0, i, false, rfl, fun h => (by cases h), fun _ => HN.out, ⟨Nat.le_refl _, by omega⟩, rfl⟩
  ·have e93 : (((p[i].toNat : Nat) : Int) == 93) = false := bne_u8 (k := 93) (by decide) h93
   by_cases h92 : p[i] = 92
   ·have e92 : (((p[i].toNat : Nat) : Int) == 92) = true := beq_u8 (k := 92) (by decide) h92
    have HN : Hid (item (p.data.toList.drop i) = escAt (p.data.toList.drop (i + 1))) := by
     show _ = _
     rw [HD.out, item, if_neg h93, if_pos h92]
    clear HD h93 h92
    by_cases hlt2 : i + 1 < p.size
    ·have hlt2' : (i : Int) + 1 < (p.size : Int) := by omega
     have HD2 := Lib.hid (drop_cons_ p hlt2)
     have KE := Lib.hid (fun V => escaped_any p[i + 1] V)
     go_enter Tryz.func193, Tryz.ntmps193
     go_wp2_with (go_at_call 191; (with_reducible refine (KE.out _).mono ?_); rintro e wz ⟨x, b, rfl, hx, rfl⟩)
     go_ret3
     refine ⟨x, i + 2, b, rfl, fun h => ?_, fun h => ?_, ⟨by omega, Nat.le_refl _⟩, rfl⟩
     ·rw [HN.out, HD2.out, escAt, hx.out, if_pos h]
      exact ⟨rfl, by omega, by omega⟩
     ·rw [HN.out, HD2.out, escAt, hx.out, if_neg (by rw [h]; decide)]
      rfl
    ·have hlt2' : ¬ ((i : Int) + 1 < (p.size : Int)) := by omega
     have HE : Hid (item (p.data.toList.drop i) = none) := by
      show _ = _
      rw [HN.out, drop_end (by omega)]
      rfl
     clear HN
     go_enter Tryz.func193, Tryz.ntmps193
     go_wp2_with fail
     go_ret3
     exact ⟨0, i, false, rfl, fun h => (by cases h), fun _ => HE.out, ⟨Nat.le_refl _, by omega⟩, rfl⟩
   ·have e92 : (((p[i].toNat : Nat) : Int) == 92) = false := bne_u8 (k := 92) (by decide) h92
    have HN : Hid (item (p.data.toList.drop i) = some (p[i], p.data.toList.drop (i + 1))) := by
     show _ = _
     rw [HD.out, item, if_neg h93, if_neg h92]
    clear HD h93 h92
    go_enter Tryz.func193, Tryz.ntmps193
    go_wp2_with fail
    go_ret3
    exact ⟨p[i], i + 1, true, rfl, fun _ => ⟨HN.out, by omega, by omega⟩, fun h => (by cases h), ⟨by omega, by omega⟩, rfl⟩
 ·have hlt' : ¬ ((i : Int) < (p.size : Int)) := by omega
  have HN : Hid (item (p.data.toList.drop i) = none) := by
   show _ = _
   rw [drop_end (by omega)]
   rfl
  go_enter Tryz.func193, Tryz.ntmps193
  go_wp2_with fail
  go_ret3
  exact ⟨0, i, false, rfl, fun h => (by cases h), fun _ => HN.out, ⟨Nat.le_refl _, by omega⟩, rfl⟩
end Go.Proofs.YtdeppcddknakjaaGreatDoor.Rx
namespace Go.Proofs.YtdeppcddknakjaaGreatDoor.Rx
open Go.RowKit
theorem res_node2 {fn : Func} {p u : Tmp} (h : fn.results = #[.cell p 102, .tmp u]) {tmps : Array Value} {V : World} {g : Nat} {C : List Value} {z : Value} (hp : tmps.getD p undef = .pointer (some ⟨g, 0, none⟩)) (hz : tmps.getD u undef = z) (hg : Blk V g 102 C) (hl : C.length = 259) :
  (results fn tmps).run Tryz.prog V = .ok (.tuple #[.agg C.toArray, z]) V := by
 have hl2 := run_loadVar_row (P := Tryz.prog) V g 102 102 C.toArray (0, 0) _ hg Tryz.underlying102 rfl (by simpa [hl] using size50)
 rw [results_cell_tmp h, hp, hz]
 simp [asAddr, hl2, Result.andThen]
theorem res_node3 {fn : Func} {p u v : Tmp} (h : fn.results = #[.cell p 102, .tmp u, .tmp v]) {tmps : Array Value} {V : World} {g : Nat} {C : List Value} {z y : Value} (hp : tmps.getD p undef = .pointer (some ⟨g, 0, none⟩)) (hz : tmps.getD u undef = z) (hy : tmps.getD v undef = y) (hg : Blk V g 102 C) (hl : C.length = 259) :
  (results fn tmps).run Tryz.prog V = .ok (.tuple #[.agg C.toArray, z, y]) V := by
 have hl2 := run_loadVar_row (P := Tryz.prog) V g 102 102 C.toArray (0, 0) _ hg Tryz.underlying102 rfl (by simpa [hl] using size50)
 rw [Array.getD_eq_getD_getElem?] at hp hz hy
 simp only [results, h]
 simp [Sem.run_bind, asAddr, hl2, Result.andThen, hp, hz, hy]
theorem neq_u8 {c : UInt8} {k : Nat} (hk : k < 256) (h : ¬ c = UInt8.ofNat k) : (((c.toNat : Nat) : Int) != (k : Int)) = true := by unfold bne; rw [bne_u8 hk h]; rfl
theorem eq_u8 {c : UInt8} {k : Nat} (hk : k < 256) (h : c = UInt8.ofNat k) : (((c.toNat : Nat) : Int) != (k : Int)) = false := by unfold bne; rw [beq_u8 hk h]; rfl
/-- What escape returns. -/
def EscP' (c : UInt8) (w : World) (e : Ending) (w' : World) : Prop := ∃ (C : List Value) (b : Bool), e = .returned (.tuple #[.agg C.toArray, .bool b]) ∧ Hid (C.length = 259 ∧ ∀ v ∈ C, v.oneCell' = true) ∧ Hid (b = true → ∃ n, escRe c = some n ∧ ReV w' (Fresh w w') C n) ∧ Hid (b = false → escRe c = none) ∧ Hid (Below w.heap.size w w')
set_option maxHeartbeats 4000000 in
set_option maxRecDepth 100000 in
theorem escape_one (c : UInt8) (h1 : c ≠ 100) (h2 : c ≠ 119) (w : World) : Calls Tryz.prog 178 #[.int .u8 (c.toNat : Int)] w (EscP' c w) := by
 obtain ⟨L1, hL1⟩ : ∃ L1, L1 = nodL 1 none_ false (.slice none 0 0) := ⟨_, rfl⟩
 have BL : Hid (Tryz.prog.built 102 [(0, .int .i64 1)] = some L1.toArray) := by rw [hL1]; exact built_kind _
 have H1 : Hid (L1.length = 259) := by rw [hL1]; exact nodL_len _ _ _ _
 have O1 : Hid (∀ v ∈ L1, v.oneCell' = true) := by rw [hL1]; exact nodL_one _ _ _ rfl
 have ZL := Lib.hid Z50_len
 have ZZ := Lib.hid zero50'
 generalize Z50 = Z at ZL ZZ
 clear hL1
 have e1' : (((c.toNat : Nat) : Int) != 100) = true := neq_u8 (k := 100) (by decide) h1
 have e2' : (((c.toNat : Nat) : Int) != 119) = true := neq_u8 (k := 119) (by decide) h2
 have HE : Hid (escRe c = (esc c).map .byte) := by show _ = _; unfold escRe; rw [if_neg h1, if_neg h2]
 have KE := Lib.hid (fun V => escaped_any c V)
 have KS := Lib.hid (fun x V => single_any x V)
 clear h1 h2
 generalize ((c.toNat : Nat) : Int) = n at *
 go_enter Tryz.func178, Tryz.ntmps178
 go_wp2_with (first
  | ((with_reducible refine wpList_alloc_abs (o := ⟨some 2, .alloc 102, _, _, _, _⟩) rfl 102 rfl Z ZZ.out ?_); intro g1 w1 e1 k1 b1 s1)
  | ((with_reducible refine wpList_build_abs (o := ⟨_, .build 102 _, _, _, _, _⟩) rfl 102 _ rfl [(0, .int .i64 1)] ?_ L1 BL.out ?_); (· first | (simp; done) | (simp; rfl) | (simp; exact ⟨rfl, rfl⟩)))
  | ((with_reducible refine wpList_alloc_abs (o := ⟨some 4, .alloc 102, _, _, _, _⟩) rfl 102 rfl Z ZZ.out ?_); intro g2 w2 e2 k2 b2 s2)
  | ((with_reducible refine wpList_store_abs (o := ⟨_, .store 102 (.tmp 4) (.tmp 9), _, _, _, _⟩) rfl 102 _ _ rfl rfl g2 L1 ?_ ?_ 102 Z (k2.out) 259 size50 H1.out ZL.out O1.out ?_); (· rfl); (· rfl); intro w3 k3 b3 s3)
  | (go_at_call 191; (with_reducible refine (KE.out _).mono ?_); rintro e wz ⟨x, b, rfl, hx, rfl⟩; obtain ⟨LB, hLB⟩ : ∃ LB, LB = nodL 1 (fun y => y == x) true (.slice none 0 0) := ⟨_, rfl⟩; have HB : Hid (LB.length = 259 ∧ ∀ v ∈ LB, v.oneCell' = true) := (by rw [hLB]; exact ⟨nodL_len _ _ _ _, nodL_one _ _ _ rfl⟩); have HR : Hid (LB = nodL 1 (fun y => y == x) true (.slice none 0 0)) := hLB; clear hLB)
  | (go_at_call 177; (with_reducible refine (KS.out x _).mono ?_); rintro e w4 ⟨he, b4⟩; rw [← HR.out] at he; subst he)
  | ((with_reducible refine wpList_store_abs (o := ⟨_, .store 102 (.tmp 2) (.tmp 22), _, _, _, _⟩) rfl 102 _ _ rfl rfl g1 LB ?_ ?_ 102 Z (((k1.out.below b2.out k1.out.lt).but b3.out (by have := e2.out; have := k1.out.lt; omega)).below b4.out (by have := s3.out; have := s2.out; have := e2.out; have := k1.out.lt; omega)) 259 size50 HB.out.1 ZL.out HB.out.2 ?_); (· rfl); (· rfl); intro w5 k5 b5 s5))
 refine bodyPost_ret (res_node2 rfl rfl rfl k5.out HB.out.1) rfl ?_
 have h1 := e1.out
 have h2 := e2.out
 have h3 := s1.out
 have h4 := b2.out.size
 have h5 := b3.out.size
 have h6 := b4.out.size
 refine ⟨LB, b, rfl, HB.out, fun h => ⟨.byte x, ?_, ?_⟩, fun h => ?_, b1.out.trans ((b2.out.mono (by omega)).trans ((b3.out.below (by omega) (fun n hn => by omega)).trans ((b4.out.mono (by omega)).trans (b5.out.below (by omega) (fun n hn => by omega)))))⟩
 ·rw [HE.out, hx.out, if_pos h]
  rfl
 ·rw [ReV]
  exact HR.out
 ·rw [HE.out, hx.out, if_neg (by rw [h]; decide)]
  rfl
/-- The bytes below k that are in F. -/
def upTo (k : Nat) (F : UInt8 → Bool) (x : UInt8) : Bool := decide (x.toNat < k) && F x
theorem upTo_zero (F : UInt8 → Bool) : ∀ x, upTo 0 F x = none_ x := fun x => by simp [upTo, none_]
theorem upTo_all (F : UInt8 → Bool) : ∀ x, upTo 256 F x = F x := fun x => by have := x.toNat_lt; simp [upTo, this]
theorem upTo_step {k : Nat} (hk : k < 256) (F : UInt8 → Bool) (x : UInt8) : (if x.toNat = k then F (UInt8.ofNat k) else upTo k F x) = upTo (k + 1) F x := by
 have e : (UInt8.ofNat k).toNat = k := by simp; omega
 by_cases h : x.toNat = k
 ·have hx : x = UInt8.ofNat k := UInt8.toNat_inj.1 (by rw [h, e])
  rw [if_pos h, ← hx]
  simp [upTo, h]
 ·rw [if_neg h]
  unfold upTo
  have : decide (x.toNat < k) = decide (x.toNat < k + 1) := by
   rw [Bool.eq_iff_iff, decide_eq_true_iff, decide_eq_true_iff]
   omega
  rw [this]
theorem up_set {F : UInt8 → Bool} {k : Nat} {b : Bool} (n : Int) (v : Value) (hk : k < 256) (hb : F (UInt8.ofNat k) = b) : (nodL n (upTo k F) false v).set (1 + k) (.bool b) = nodL n (upTo (k + 1) F) false v := by
 rw [nodL_wj _ _ _ _ hk, ← hb]
 exact nodL_ext (upTo_step hk F) _ _ _
theorem ofNat_lt {k : Nat} (hk : k < 256) : (UInt8.ofNat k).toNat = k := by simp; omega
set_option maxHeartbeats 4000000 in
set_option maxRecDepth 100000 in
theorem escape_d (w : World) : Calls Tryz.prog 178 #[.int .u8 100] w (EscP' 100 w) := by
 obtain ⟨L1, hL1⟩ : ∃ L1, L1 = nodL 1 none_ false (.slice none 0 0) := ⟨_, rfl⟩
 have BL : Hid (Tryz.prog.built 102 [(0, .int .i64 1)] = some L1.toArray) := by rw [hL1]; exact built_kind _
 have H1 : Hid (L1.length = 259) := by rw [hL1]; exact nodL_len _ _ _ _
 have O1 : Hid (∀ v ∈ L1, v.oneCell' = true) := by rw [hL1]; exact nodL_one _ _ _ rfl
 have E1 : Hid (L1 = nodL 1 (upTo 0 digit) false (.slice none 0 0)) := by rw [hL1]; exact nodL_ext (fun x => (upTo_zero _ x).symm) _ _ _
 have ZL := Lib.hid Z50_len
 have ZZ := Lib.hid zero50'
 generalize Z50 = Z at ZL ZZ
 clear hL1
 go_enter Tryz.func178, Tryz.ntmps178
 go_wp2_with (first
  | ((with_reducible refine wpList_alloc_abs (o := ⟨some 2, .alloc 102, _, _, _, _⟩) rfl 102 rfl Z ZZ.out ?_); intro g1 w1 e1 k1 b1 s1)
  | ((with_reducible refine wpList_build_abs (o := ⟨_, .build 102 _, _, _, _, _⟩) rfl 102 _ rfl [(0, .int .i64 1)] ?_ L1 BL.out ?_); (· first | (simp; done) | (simp; rfl) | (simp; exact ⟨rfl, rfl⟩)))
  | ((with_reducible refine wpList_alloc_abs (o := ⟨some 4, .alloc 102, _, _, _, _⟩) rfl 102 rfl Z ZZ.out ?_); intro g2 w2 e2 k2 b2 s2)
  | ((with_reducible refine wpList_store_abs (o := ⟨_, .store 102 (.tmp 4) (.tmp 9), _, _, _, _⟩) rfl 102 _ _ rfl rfl g2 L1 ?_ ?_ 102 Z (k2.out) 259 size50 H1.out ZL.out O1.out ?_); (· rfl); (· rfl); intro w3 k3 b3 s3))
 have G1 : Hid (w.heap.size ≤ g1 ∧ g1 < g2 ∧ g2 < w3.heap.size) := ⟨by have := e1.out; omega, by have := e2.out; have := k1.out.lt; omega, k3.out.lt⟩
 have B3 : Hid (Below w.heap.size w w3) := b1.out.trans ((b2.out.mono b1.out.size).trans (b3.out.below (by have := b1.out.size; have := b2.out.size; omega) (fun n hn => by have := G1.out; omega)))
 have K1 : Hid (Blk w3 g1 102 Z) := (k1.out.below b2.out k1.out.lt).but b3.out (by have := G1.out; omega)
 have K3 : Hid (Blk w3 g2 102 (nodL 1 (upTo 0 digit) false (.slice none 0 0))) := by rw [← E1.out]; exact k3.out
 clear e1 k1 b1 s1 e2 k2 b2 s2 k3 b3 s3 E1
 go_loopw [7] (fun vi wr => ∃ k : Nat, k ≤ 256 ∧ vi = .int .i64 k ∧ Hid (Blk wr g2 102 (nodL 1 (upTo k digit) false (.slice none 0 0))) ∧ Hid (Blk wr g1 102 Z) ∧ Hid (Below w.heap.size w wr)) (fun vi _ => 256 - (intOf vi).toNat)
 case atStart => exact ⟨0, by omega, rfl, K3, K1, B3⟩
 case round =>
  clear K1 K3 B3
  obtain ⟨k, hk, rfl, K3, K1, B3⟩ := hrel
  have hk0 : (0 : Int) ≤ (k : Int) := Int.natCast_nonneg _
  by_cases hlt : k < 256
  ·have hlt' : (k : Int) < 256 := by omega
   obtain ⟨L, hL⟩ : ∃ L, L = nodL 1 (upTo k digit) false (.slice none 0 0) := ⟨_, rfl⟩
   have KL : Hid (Blk wr g2 102 L) := by rw [hL]; exact K3.out
   have HL : Hid (L.length = 259) := by rw [hL]; exact nodL_len _ _ _ _
   have CK : Hid (∀ (b : Bool), digit (UInt8.ofNat k) = b → ∀ V, Blk V g2 102 (L.set (1 + k) (.bool b)) → Blk V g2 102 (nodL 1 (upTo (k + 1) digit) false (.slice none 0 0))) := fun b hb V h => by rw [hL, up_set 1 _ hlt hb] at h; exact h
   have HN := Lib.hid (ofNat_lt hlt)
   have KA : Hid (∀ V, Calls Tryz.prog 192 #[.int .u8 (k : Int)] V (SameP (alnum (UInt8.ofNat k)) V)) := fun V => by have h := alnum_any (UInt8.ofNat k) V; rw [HN.out] at h; exact h
   clear hL K3
   by_cases d1 : 48 ≤ k
   ·have d1' : (48 : Int) ≤ (k : Int) := by omega
    by_cases d2 : k ≤ 57
    ·have d2' : (k : Int) ≤ 57 := by omega
     have HF : Hid (digit (UInt8.ofNat k) = true) := by
      show _ = _
      unfold digit; rw [HN.out]; simp only [decide_eq_true_iff, decide_eq_false_iff_not]; omega
     go_wp2_with (first
      | (go_at_call 192; (with_reducible refine (KA.out _).mono ?_); rintro e wz ⟨rfl, rfl⟩)
      | ((with_reducible refine wpList_store_cell (o := ⟨_, .store 4 (.tmp 50) _, _, _, _, _⟩) rfl 4 _ _ rfl rfl g2 (1 + k) (.bool true) ?_ ?_ rfl 102 L (KL.out) (by rw [HL.out]; omega) size4 ?_); (· rfl); (· rfl); intro w4 k4 b4 s4))
     go_roundw
     case rel => exact ⟨k + 1, by omega, by go_num, CK.out true HF.out _ k4.out, K1.out.but b4.out (by have := G1.out; omega), B3.out.trans (b4.out.below (by have := B3.out.size; omega) (fun n hn => by have := G1.out; omega))⟩
     case measure => simp [intOf]; omega
    ·have d2' : ¬ ((k : Int) ≤ 57) := by omega
     have HF : Hid (digit (UInt8.ofNat k) = false) := by
      show _ = _
      unfold digit; rw [HN.out]; simp only [decide_eq_true_iff, decide_eq_false_iff_not]; omega
     go_wp2_with (first
      | (go_at_call 192; (with_reducible refine (KA.out _).mono ?_); rintro e wz ⟨rfl, rfl⟩)
      | ((with_reducible refine wpList_store_cell (o := ⟨_, .store 4 (.tmp 50) _, _, _, _, _⟩) rfl 4 _ _ rfl rfl g2 (1 + k) (.bool false) ?_ ?_ rfl 102 L (KL.out) (by rw [HL.out]; omega) size4 ?_); (· rfl); (· rfl); intro w4 k4 b4 s4))
     go_roundw
     case rel => exact ⟨k + 1, by omega, by go_num, CK.out false HF.out _ k4.out, K1.out.but b4.out (by have := G1.out; omega), B3.out.trans (b4.out.below (by have := B3.out.size; omega) (fun n hn => by have := G1.out; omega))⟩
     case measure => simp [intOf]; omega
   ·have d1' : ¬ ((48 : Int) ≤ (k : Int)) := by omega
    by_cases d2 : True
    ·skip
     have HF : Hid (digit (UInt8.ofNat k) = false) := by
      show _ = _
      unfold digit; rw [HN.out]; simp only [decide_eq_true_iff, decide_eq_false_iff_not]; omega
     go_wp2_with (first
      | (go_at_call 192; (with_reducible refine (KA.out _).mono ?_); rintro e wz ⟨rfl, rfl⟩)
      | ((with_reducible refine wpList_store_cell (o := ⟨_, .store 4 (.tmp 50) _, _, _, _, _⟩) rfl 4 _ _ rfl rfl g2 (1 + k) (.bool false) ?_ ?_ rfl 102 L (KL.out) (by rw [HL.out]; omega) size4 ?_); (· rfl); (· rfl); intro w4 k4 b4 s4))
     go_roundw
     case rel => exact ⟨k + 1, by omega, by go_num, CK.out false HF.out _ k4.out, K1.out.but b4.out (by have := G1.out; omega), B3.out.trans (b4.out.below (by have := B3.out.size; omega) (fun n hn => by have := G1.out; omega))⟩
     case measure => simp [intOf]; omega
    ·exact absurd trivial d2
  ·obtain rfl : k = 256 := by omega
   obtain ⟨L, hL⟩ : ∃ L, L = nodL 1 digit false (.slice none 0 0) := ⟨_, rfl⟩
   have KL : Hid (Blk wr g2 102 L) := by rw [hL, ← nodL_ext (upTo_all digit)]; exact K3.out
   have HL : Hid (L.length = 259 ∧ ∀ v ∈ L, v.oneCell' = true) := by rw [hL]; exact ⟨nodL_len _ _ _ _, nodL_one _ _ _ rfl⟩
   have HR := Lib.hid hL
   clear hL K3
   go_wp2_with (first
    | ((with_reducible refine wpList_load_abs (o := ⟨_, .load 102 (.tmp 4), _, _, _, _⟩) rfl 102 _ rfl g2 0 ?_ L (KL.out.range) _ Tryz.underlying102 rfl 259 size50 HL.out.1 ?_); (· rfl))
    | ((with_reducible refine wpList_store_abs (o := ⟨_, .store 102 (.tmp 2) (.tmp 51), _, _, _, _⟩) rfl 102 _ _ rfl rfl g1 L ?_ ?_ 102 Z (K1.out) 259 size50 HL.out.1 ZL.out HL.out.2 ?_); (· rfl); (· rfl); intro w5 k5 b5 s5))
   refine bodyPost_ret (res_node2 rfl rfl rfl k5.out HL.out.1) rfl ?_
   refine ⟨L, true, rfl, HL.out, fun _ => ⟨.cls digit, rfl, ?_⟩, fun h => (by cases h), B3.out.trans (b5.out.below (by have := B3.out.size; omega) (fun n hn => by have := G1.out; omega))⟩
   rw [ReV]
   exact HR.out
end Go.Proofs.YtdeppcddknakjaaGreatDoor.Rx
namespace Go.Proofs.YtdeppcddknakjaaGreatDoor.Rx
open Go.RowKit
set_option maxHeartbeats 4000000 in
set_option maxRecDepth 100000 in
theorem escape_w (w : World) : Calls Tryz.prog 178 #[.int .u8 119] w (EscP' 119 w) := by
 obtain ⟨L1, hL1⟩ : ∃ L1, L1 = nodL 1 none_ false (.slice none 0 0) := ⟨_, rfl⟩
 have BL : Hid (Tryz.prog.built 102 [(0, .int .i64 1)] = some L1.toArray) := by rw [hL1]; exact built_kind _
 have H1 : Hid (L1.length = 259) := by rw [hL1]; exact nodL_len _ _ _ _
 have O1 : Hid (∀ v ∈ L1, v.oneCell' = true) := by rw [hL1]; exact nodL_one _ _ _ rfl
 have E1 : Hid (L1 = nodL 1 (upTo 0 word) false (.slice none 0 0)) := by rw [hL1]; exact nodL_ext (fun x => (upTo_zero _ x).symm) _ _ _
 have ZL := Lib.hid Z50_len
 have ZZ := Lib.hid zero50'
 generalize Z50 = Z at ZL ZZ
 clear hL1
 go_enter Tryz.func178, Tryz.ntmps178
 go_wp2_with (first
  | ((with_reducible refine wpList_alloc_abs (o := ⟨some 2, .alloc 102, _, _, _, _⟩) rfl 102 rfl Z ZZ.out ?_); intro g1 w1 e1 k1 b1 s1)
  | ((with_reducible refine wpList_build_abs (o := ⟨_, .build 102 _, _, _, _, _⟩) rfl 102 _ rfl [(0, .int .i64 1)] ?_ L1 BL.out ?_); (· first | (simp; done) | (simp; rfl) | (simp; exact ⟨rfl, rfl⟩)))
  | ((with_reducible refine wpList_alloc_abs (o := ⟨some 4, .alloc 102, _, _, _, _⟩) rfl 102 rfl Z ZZ.out ?_); intro g2 w2 e2 k2 b2 s2)
  | ((with_reducible refine wpList_store_abs (o := ⟨_, .store 102 (.tmp 4) (.tmp 9), _, _, _, _⟩) rfl 102 _ _ rfl rfl g2 L1 ?_ ?_ 102 Z (k2.out) 259 size50 H1.out ZL.out O1.out ?_); (· rfl); (· rfl); intro w3 k3 b3 s3))
 have G1 : Hid (w.heap.size ≤ g1 ∧ g1 < g2 ∧ g2 < w3.heap.size) := ⟨by have := e1.out; omega, by have := e2.out; have := k1.out.lt; omega, k3.out.lt⟩
 have B3 : Hid (Below w.heap.size w w3) := b1.out.trans ((b2.out.mono b1.out.size).trans (b3.out.below (by have := b1.out.size; have := b2.out.size; omega) (fun n hn => by have := G1.out; omega)))
 have K1 : Hid (Blk w3 g1 102 Z) := (k1.out.below b2.out k1.out.lt).but b3.out (by have := G1.out; omega)
 have K3 : Hid (Blk w3 g2 102 (nodL 1 (upTo 0 word) false (.slice none 0 0))) := by rw [← E1.out]; exact k3.out
 clear e1 k1 b1 s1 e2 k2 b2 s2 k3 b3 s3 E1
 go_loopw [7] (fun vi wr => ∃ k : Nat, k ≤ 256 ∧ vi = .int .i64 k ∧ Hid (Blk wr g2 102 (nodL 1 (upTo k word) false (.slice none 0 0))) ∧ Hid (Blk wr g1 102 Z) ∧ Hid (Below w.heap.size w wr)) (fun vi _ => 256 - (intOf vi).toNat)
 case atStart => exact ⟨0, by omega, rfl, K3, K1, B3⟩
 case round =>
  clear K1 K3 B3
  obtain ⟨k, hk, rfl, K3, K1, B3⟩ := hrel
  have hk0 : (0 : Int) ≤ (k : Int) := Int.natCast_nonneg _
  by_cases hlt : k < 256
  ·have hlt' : (k : Int) < 256 := by omega
   obtain ⟨L, hL⟩ : ∃ L, L = nodL 1 (upTo k word) false (.slice none 0 0) := ⟨_, rfl⟩
   have KL : Hid (Blk wr g2 102 L) := by rw [hL]; exact K3.out
   have HL : Hid (L.length = 259) := by rw [hL]; exact nodL_len _ _ _ _
   have CK : Hid (∀ (b : Bool), word (UInt8.ofNat k) = b → ∀ V, Blk V g2 102 (L.set (1 + k) (.bool b)) → Blk V g2 102 (nodL 1 (upTo (k + 1) word) false (.slice none 0 0))) := fun b hb V h => by rw [hL, up_set 1 _ hlt hb] at h; exact h
   have HN := Lib.hid (ofNat_lt hlt)
   have KA : Hid (∀ V, Calls Tryz.prog 192 #[.int .u8 (k : Int)] V (SameP (alnum (UInt8.ofNat k)) V)) := fun V => by have h := alnum_any (UInt8.ofNat k) V; rw [HN.out] at h; exact h
   clear hL K3
   by_cases d1 : 48 ≤ k
   ·have d1' : (48 : Int) ≤ (k : Int) := by omega
    by_cases d2 : k ≤ 57
    ·have d2' : (k : Int) ≤ 57 := by omega
     have HF : Hid (word (UInt8.ofNat k) = true) := by
      show _ = _
      unfold word alnum digit; rw [HN.out, decide_eq_true (show 48 ≤ k ∧ k ≤ 57 from ⟨d1, d2⟩)]; simp
     go_wp2_with (first
      | (go_at_call 192; (with_reducible refine (KA.out _).mono ?_); rintro e wz ⟨rfl, rfl⟩)
      | ((with_reducible refine wpList_store_cell (o := ⟨_, .store 4 (.tmp 50) _, _, _, _, _⟩) rfl 4 _ _ rfl rfl g2 (1 + k) (.bool true) ?_ ?_ rfl 102 L (KL.out) (by rw [HL.out]; omega) size4 ?_); (· rfl); (· rfl); intro w4 k4 b4 s4))
     go_roundw
     case rel => exact ⟨k + 1, by omega, by go_num, CK.out true HF.out _ k4.out, K1.out.but b4.out (by have := G1.out; omega), B3.out.trans (b4.out.below (by have := B3.out.size; omega) (fun n hn => by have := G1.out; omega))⟩
     case measure => simp [intOf]; omega
    ·have d2' : ¬ ((k : Int) ≤ 57) := by omega
     cases ha : alnum (UInt8.ofNat k) with
     | true =>
      rw [ha] at KA
      have HF : Hid (word (UInt8.ofNat k) = true) := by show _ = _; unfold word; rw [ha]; rfl
      clear ha
      go_wp2_with (first
       | (go_at_call 192; (with_reducible refine (KA.out _).mono ?_); rintro e wz ⟨rfl, rfl⟩)
       | ((with_reducible refine wpList_store_cell (o := ⟨_, .store 4 (.tmp 50) _, _, _, _, _⟩) rfl 4 _ _ rfl rfl g2 (1 + k) (.bool true) ?_ ?_ rfl 102 L (KL.out) (by rw [HL.out]; omega) size4 ?_); (· rfl); (· rfl); intro w4 k4 b4 s4))
      go_roundw
      case rel => exact ⟨k + 1, by omega, by go_num, CK.out true HF.out _ k4.out, K1.out.but b4.out (by have := G1.out; omega), B3.out.trans (b4.out.below (by have := B3.out.size; omega) (fun n hn => by have := G1.out; omega))⟩
      case measure => simp [intOf]; omega
     | false =>
      rw [ha] at KA
      by_cases h5 : k = 95
      ·have HF : Hid (word (UInt8.ofNat k) = true) := by show _ = _; unfold word; rw [ha, h5]; rfl
       subst h5
       clear ha
       have KA : Hid (∀ V, Calls Tryz.prog 192 #[.int .u8 95] V (SameP false V)) := KA
       go_wp2_with (first
        | (go_at_call 192; (with_reducible refine (KA.out _).mono ?_); rintro e wz ⟨rfl, rfl⟩)
        | ((with_reducible refine wpList_store_cell (o := ⟨_, .store 4 (.tmp 50) _, _, _, _, _⟩) rfl 4 _ _ rfl rfl g2 (1 + 95) (.bool true) ?_ ?_ rfl 102 L (KL.out) (by rw [HL.out]; omega) size4 ?_); (· rfl); (· rfl); intro w4 k4 b4 s4))
       go_roundw
       case rel => exact ⟨95 + 1, by omega, by go_num, CK.out true HF.out _ k4.out, K1.out.but b4.out (by have := G1.out; omega), B3.out.trans (b4.out.below (by have := B3.out.size; omega) (fun n hn => by have := G1.out; omega))⟩
       case measure => first | (simp [intOf]; done) | (simp [intOf]; omega)
      ·have HF : Hid (word (UInt8.ofNat k) = false) := by
        show _ = _
        unfold word
        rw [ha, Bool.false_or]
        refine beq_false_of_ne (fun e => h5 ?_)
        rw [← HN.out, e]
        rfl
       have h5' : ((k : Int) == 95) = false := beq_false_of_ne (by omega)
       clear ha
       go_wp2_with (first
        | (go_at_call 192; (with_reducible refine (KA.out _).mono ?_); rintro e wz ⟨rfl, rfl⟩)
        | ((with_reducible refine wpList_store_cell (o := ⟨_, .store 4 (.tmp 50) _, _, _, _, _⟩) rfl 4 _ _ rfl rfl g2 (1 + k) (.bool false) ?_ ?_ rfl 102 L (KL.out) (by rw [HL.out]; omega) size4 ?_); (· rfl); (· rfl); intro w4 k4 b4 s4))
       go_roundw
       case rel => exact ⟨k + 1, by omega, by go_num, CK.out false HF.out _ k4.out, K1.out.but b4.out (by have := G1.out; omega), B3.out.trans (b4.out.below (by have := B3.out.size; omega) (fun n hn => by have := G1.out; omega))⟩
       case measure => simp [intOf]; omega
   ·have d1' : ¬ ((48 : Int) ≤ (k : Int)) := by omega
    by_cases d2 : True
    ·skip
     cases ha : alnum (UInt8.ofNat k) with
     | true =>
      rw [ha] at KA
      have HF : Hid (word (UInt8.ofNat k) = true) := by show _ = _; unfold word; rw [ha]; rfl
      clear ha
      go_wp2_with (first
       | (go_at_call 192; (with_reducible refine (KA.out _).mono ?_); rintro e wz ⟨rfl, rfl⟩)
       | ((with_reducible refine wpList_store_cell (o := ⟨_, .store 4 (.tmp 50) _, _, _, _, _⟩) rfl 4 _ _ rfl rfl g2 (1 + k) (.bool true) ?_ ?_ rfl 102 L (KL.out) (by rw [HL.out]; omega) size4 ?_); (· rfl); (· rfl); intro w4 k4 b4 s4))
      go_roundw
      case rel => exact ⟨k + 1, by omega, by go_num, CK.out true HF.out _ k4.out, K1.out.but b4.out (by have := G1.out; omega), B3.out.trans (b4.out.below (by have := B3.out.size; omega) (fun n hn => by have := G1.out; omega))⟩
      case measure => simp [intOf]; omega
     | false =>
      rw [ha] at KA
      by_cases h5 : k = 95
      ·exact absurd h5 (by omega)
      ·have HF : Hid (word (UInt8.ofNat k) = false) := by
        show _ = _
        unfold word
        rw [ha, Bool.false_or]
        refine beq_false_of_ne (fun e => h5 ?_)
        rw [← HN.out, e]
        rfl
       have h5' : ((k : Int) == 95) = false := beq_false_of_ne (by omega)
       clear ha
       go_wp2_with (first
        | (go_at_call 192; (with_reducible refine (KA.out _).mono ?_); rintro e wz ⟨rfl, rfl⟩)
        | ((with_reducible refine wpList_store_cell (o := ⟨_, .store 4 (.tmp 50) _, _, _, _, _⟩) rfl 4 _ _ rfl rfl g2 (1 + k) (.bool false) ?_ ?_ rfl 102 L (KL.out) (by rw [HL.out]; omega) size4 ?_); (· rfl); (· rfl); intro w4 k4 b4 s4))
       go_roundw
       case rel => exact ⟨k + 1, by omega, by go_num, CK.out false HF.out _ k4.out, K1.out.but b4.out (by have := G1.out; omega), B3.out.trans (b4.out.below (by have := B3.out.size; omega) (fun n hn => by have := G1.out; omega))⟩
       case measure => simp [intOf]; omega
    ·exact absurd trivial d2
  ·obtain rfl : k = 256 := by omega
   obtain ⟨L, hL⟩ : ∃ L, L = nodL 1 word false (.slice none 0 0) := ⟨_, rfl⟩
   have KL : Hid (Blk wr g2 102 L) := by rw [hL, ← nodL_ext (upTo_all word)]; exact K3.out
   have HL : Hid (L.length = 259 ∧ ∀ v ∈ L, v.oneCell' = true) := by rw [hL]; exact ⟨nodL_len _ _ _ _, nodL_one _ _ _ rfl⟩
   have HR := Lib.hid hL
   clear hL K3
   go_wp2_with (first
    | ((with_reducible refine wpList_load_abs (o := ⟨_, .load 102 (.tmp 4), _, _, _, _⟩) rfl 102 _ rfl g2 0 ?_ L (KL.out.range) _ Tryz.underlying102 rfl 259 size50 HL.out.1 ?_); (· rfl))
    | ((with_reducible refine wpList_store_abs (o := ⟨_, .store 102 (.tmp 2) (.tmp 51), _, _, _, _⟩) rfl 102 _ _ rfl rfl g1 L ?_ ?_ 102 Z (K1.out) 259 size50 HL.out.1 ZL.out HL.out.2 ?_); (· rfl); (· rfl); intro w5 k5 b5 s5))
   refine bodyPost_ret (res_node2 rfl rfl rfl k5.out HL.out.1) rfl ?_
   refine ⟨L, true, rfl, HL.out, fun _ => ⟨.cls word, rfl, ?_⟩, fun h => (by cases h), B3.out.trans (b5.out.below (by have := B3.out.size; omega) (fun n hn => by have := G1.out; omega))⟩
   rw [ReV]
   exact HR.out
theorem escape_any_ref (c : UInt8) (w : World) : Calls Tryz.prog 178 #[.int .u8 (c.toNat : Int)] w (EscP' c w) := by
 by_cases h1 : c = 100
 ·subst h1
  exact escape_d w
 ·by_cases h2 : c = 119
  ·subst h2
   exact escape_w w
  ·exact escape_one c h1 h2 w
end Go.Proofs.YtdeppcddknakjaaGreatDoor.Rx
namespace Go.Proofs.YtdeppcddknakjaaGreatDoor.Rx
open Go.RowKit
/-- What brackets returns. -/
def BrkP (p : ByteArray) (i : Nat) (inv : Bool) (w : World) (e : Ending) (w' : World) : Prop := ∃ (C : List Value) (k : Nat) (b : Bool), e = .returned (.tuple #[.agg C.toArray, .int .i64 (k : Int), .bool b]) ∧ Hid (C.length = 259 ∧ ∀ v ∈ C, v.oneCell' = true) ∧ Hid (b = true → ∃ f, bx none_ true (p.data.toList.drop i) = some (f, p.data.toList.drop k) ∧ C = nodL 1 (fun x => f x != inv) false (.slice none 0 0) ∧ i ≤ k ∧ k ≤ p.size) ∧ Hid (b = false → bx none_ true (p.data.toList.drop i) = none) ∧ Hid (Below w.heap.size w w')
def mixed (f : UInt8 → Bool) (inv : Bool) (j : Nat) (x : UInt8) : Bool := if x.toNat < j then (f x != inv) else f x
theorem mixed_zero (f : UInt8 → Bool) (inv : Bool) (x : UInt8) : mixed f inv 0 x = f x := by unfold mixed; rw [if_neg (by omega)]
theorem mixed_all (f : UInt8 → Bool) (inv : Bool) (x : UInt8) : mixed f inv 256 x = (f x != inv) := by unfold mixed; rw [if_pos x.toNat_lt]
theorem mixed_at (f : UInt8 → Bool) (inv : Bool) {k : Nat} (hk : k < 256) : mixed f inv k (UInt8.ofNat k) = f (UInt8.ofNat k) := by unfold mixed; rw [ofNat_lt hk, if_neg (by omega)]
theorem mixed_step (f : UInt8 → Bool) (inv : Bool) {k : Nat} (hk : k < 256) (x : UInt8) : (if x.toNat = k then (f (UInt8.ofNat k) != inv) else mixed f inv k x) = mixed f inv (k + 1) x := by
 unfold mixed
 by_cases h : x.toNat = k
 ·have hx : x = UInt8.ofNat k := UInt8.toNat_inj.1 (by rw [h, ofNat_lt hk])
  rw [if_pos h, if_pos (by omega), ← hx]
 ·rw [if_neg h]
  by_cases h2 : x.toNat < k
  ·rw [if_pos h2, if_pos (by omega)]
  ·rw [if_neg h2, if_neg (by omega)]
theorem nod_ok (k : Int) (f : UInt8 → Bool) (s : Bool) : (nodL k f s (.slice none 0 0)).length = 259 ∧ ∀ v ∈ nodL k f s (.slice none 0 0), v.oneCell' = true := ⟨nodL_len _ _ _ _, nodL_one _ _ _ rfl⟩
theorem bool_is (P : Prop) : ∃ m : Bool, (m = true ↔ P) := by
 by_cases h : P
 ·exact ⟨true, by simp [h]⟩
 ·exact ⟨false, by simp [h]⟩
theorem rng_yes {p : ByteArray} {kn : Nat} (x : UInt8) (h1 : kn + 1 < p.size) (h2 : p[kn] = 45) (h3 : p[kn + 1] ≠ 93) : rangeEnd x (p.data.toList.drop kn) = item (p.data.toList.drop (kn + 1)) := by
 rw [drop_cons_ p (show kn < p.size by omega), drop_cons_ p h1, rangeEnd, if_pos ⟨h2, h3⟩]
theorem rng_no {p : ByteArray} {kn : Nat} (x : UInt8) (hk : kn ≤ p.size) (h : ∀ (h1 : kn + 1 < p.size), p[kn] = 45 → p[kn + 1] = 93) : rangeEnd x (p.data.toList.drop kn) = some (x, p.data.toList.drop kn) := by
 rcases Nat.lt_or_ge kn p.size with h1 | h1
 ·rcases Nat.lt_or_ge (kn + 1) p.size with h2 | h2
  ·rw [drop_cons_ p h1, drop_cons_ p h2, rangeEnd, if_neg (fun e => e.2 (h h2 e.1))]
  ·rw [drop_cons_ p h1, drop_end h2]
   rfl
 ·rw [drop_end h1]
  rfl
def RngS (p : ByteArray) (x : UInt8) (kn : Nat) (y : UInt8) (km : Nat) (b : Bool) : Prop := (b = true → rangeEnd x (p.data.toList.drop kn) = some (y, p.data.toList.drop km) ∧ kn ≤ km ∧ km ≤ p.size) ∧ (b = false → rangeEnd x (p.data.toList.drop kn) = none)
set_option maxHeartbeats 4000000 in
set_option maxRecDepth 100000 in
theorem brackets_any (p : ByteArray) (hp : p.size ≤ 1000) (i0 : Nat) (hi : i0 ≤ p.size) (inv : Bool) (w : World) : Calls Tryz.prog 179 #[.string p, .int .i64 (i0 : Int), .bool inv] w (BrkP p i0 inv w) := by
 obtain ⟨L1, hL1⟩ : ∃ L1, L1 = nodL 1 none_ false (.slice none 0 0) := ⟨_, rfl⟩
 have BL : Hid (Tryz.prog.built 102 [(0, .int .i64 1)] = some L1.toArray) := by rw [hL1]; exact built_kind _
 have H1 : Hid (L1.length = 259 ∧ ∀ v ∈ L1, v.oneCell' = true) := by rw [hL1]; exact nod_ok _ _ _
 have E1 := Lib.hid hL1
 have ZL := Lib.hid Z50_len
 have ZZ := Lib.hid zero50'
 generalize Z50 = Z at ZL ZZ
 have KI := Lib.hid (fun k hk V => item_ref p hp k hk V)
 clear hL1
 go_enter Tryz.func179, Tryz.ntmps179
 go_wp2_with (first
  | ((with_reducible refine wpList_alloc_abs (o := ⟨some 6, .alloc 102, _, _, _, _⟩) rfl 102 rfl Z ZZ.out ?_); intro g1 w1 e1 k1 b1 s1)
  | ((with_reducible refine wpList_build_abs (o := ⟨_, .build 102 _, _, _, _, _⟩) rfl 102 _ rfl [(0, .int .i64 1)] ?_ L1 BL.out ?_); (· first | (simp; done) | (simp; rfl) | (simp; exact ⟨rfl, rfl⟩)))
  | ((with_reducible refine wpList_alloc_abs (o := ⟨some 9, .alloc 102, _, _, _, _⟩) rfl 102 rfl Z ZZ.out ?_); intro g2 w2 e2 k2 b2 s2)
  | ((with_reducible refine wpList_store_abs (o := ⟨_, .store 102 (.tmp 9) (.tmp 17), _, _, _, _⟩) rfl 102 _ _ rfl rfl g2 L1 ?_ ?_ 102 Z (k2.out) 259 size50 H1.out.1 ZL.out H1.out.2 ?_); (· rfl); (· rfl); intro w3 k3 b3 s3))
 have G1 : Hid (w.heap.size ≤ g1 ∧ g1 < g2 ∧ g2 < w3.heap.size) := ⟨by have := e1.out; omega, by have := e2.out; have := k1.out.lt; omega, k3.out.lt⟩
 have B3 : Hid (Below w.heap.size w w3) := b1.out.trans ((b2.out.mono b1.out.size).trans (b3.out.below (by have := b1.out.size; have := b2.out.size; omega) (fun n hn => by have := G1.out; omega)))
 have K1 : Hid (Blk w3 g1 102 Z) := (k1.out.below b2.out k1.out.lt).but b3.out (by have := G1.out; omega)
 have K3 : Hid (Blk w3 g2 102 (nodL 1 none_ false (.slice none 0 0))) := by rw [← E1.out]; exact k3.out
 clear e1 k1 b1 s1 e2 k2 b2 s2 k3 b3 s3 E1 H1 BL
 go_loopw [1] (fun vi wr => ∃ (k : Nat) (f : UInt8 → Bool), i0 ≤ k ∧ k ≤ p.size ∧ vi = .int .i64 k ∧ Hid (bx none_ true (p.data.toList.drop i0) = bx f (decide (k = i0)) (p.data.toList.drop k)) ∧ Hid (Blk wr g2 102 (nodL 1 f false (.slice none 0 0))) ∧ Hid (Blk wr g1 102 Z) ∧ Hid (Below w.heap.size w wr)) (fun vi _ => 1001 - (intOf vi).toNat)
 case atStart => exact ⟨i0, none_, Nat.le_refl _, hi, rfl, by (show _ = _; rw [decide_eq_true rfl]), K3, K1, B3⟩
 case round =>
  clear K1 K3 B3
  obtain ⟨k, f, hik, hks, rfl, HX, K3, K1, B3⟩ := hrel
  have hk0 : (0 : Int) ≤ (k : Int) := Int.natCast_nonneg _
  by_cases hlt : k < p.size
  ·have hlt' : (k : Int) < (p.size : Int) := by omega
   have HD := Lib.hid (drop_cons_ p hlt)
   by_cases h93 : p[k] = 93
   ·have e93 : (((p[k].toNat : Nat) : Int) != 93) = false := eq_u8 (k := 93) (by decide) h93
    by_cases hke : k = i0
    ·subst hke
     have HE : Hid (bx none_ true (p.data.toList.drop k) = none) := by
      show _ = _
      rw [HX.out, HD.out, h93, bx_end, decide_eq_true rfl]
      rfl
     obtain ⟨L, hL⟩ : ∃ L, L = nodL 1 f false (.slice none 0 0) := ⟨_, rfl⟩
     have KL : Hid (Blk wr g2 102 L) := by rw [hL]; exact K3.out
     have HL : Hid (L.length = 259 ∧ ∀ v ∈ L, v.oneCell' = true) := by rw [hL]; exact nod_ok _ _ _
     clear hL K3 HX HD h93
     go_wp2_with (first
      | ((with_reducible refine wpList_load_abs (o := ⟨_, .load 102 (.tmp 9), _, _, _, _⟩) rfl 102 _ rfl g2 0 ?_ L (KL.out.range) _ Tryz.underlying102 rfl 259 size50 HL.out.1 ?_); (· rfl))
             | ((with_reducible refine wpList_store_abs (o := ⟨_, .store 102 (.tmp 6) (.tmp 96), _, _, _, _⟩) rfl 102 _ _ rfl rfl g1 L ?_ ?_ 102 Z (K1.out) 259 size50 HL.out.1 ZL.out HL.out.2 ?_); (· rfl); (· rfl); intro w5 k5 b5 s5))
     refine bodyPost_ret (res_node3 rfl rfl rfl rfl k5.out HL.out.1) rfl ?_
     exact ⟨L, k, false, rfl, HL.out, fun h => (by cases h), fun _ => HE.out, B3.out.trans (b5.out.below (by have := B3.out.size; omega) (fun n hn => by have := G1.out; omega))⟩
    ·have hke' : ((k : Int) == (i0 : Int)) = false := beq_false_of_ne (by omega)
     have HE : Hid (bx none_ true (p.data.toList.drop i0) = some (f, p.data.toList.drop (k + 1))) := by
      show _ = _
      rw [HX.out, HD.out, h93, bx_end, decide_eq_false hke]
      rfl
     have K4 : Hid (Blk wr g2 102 (nodL 1 (mixed f inv 0) false (.slice none 0 0))) := by rw [nodL_ext (mixed_zero f inv)]; exact K3.out
     clear K3 HX HD h93
     go_wp2_with fail
     go_loopw [16] (fun vj wr => ∃ j : Nat, j ≤ 256 ∧ vj = .int .i64 j ∧ Hid (Blk wr g2 102 (nodL 1 (mixed f inv j) false (.slice none 0 0))) ∧ Hid (Blk wr g1 102 Z) ∧ Hid (Below w.heap.size w wr)) (fun vj _ => 256 - (intOf vj).toNat)
     case atStart => exact ⟨0, by omega, rfl, K4, K1, B3⟩
     case round =>
      clear K4 K1 B3
      obtain ⟨j, hj, rfl, K4, K1, B3⟩ := hrel
      have hj0 : (0 : Int) ≤ (j : Int) := Int.natCast_nonneg _
      by_cases hlj : j < 256
      ·have hlj' : (j : Int) < 256 := by omega
       have cj : wr.cell? ⟨g2, 1 + j, none⟩ = some (.bool (f (UInt8.ofNat j))) := (K4.out.cell (1 + j)).trans ((nodL_set _ _ _ _ hlj).trans (by rw [mixed_at f inv hlj]))
       obtain ⟨L, hL⟩ : ∃ L, L = nodL 1 (mixed f inv j) false (.slice none 0 0) := ⟨_, rfl⟩
       have KL : Hid (Blk wr g2 102 L) := by rw [hL]; exact K4.out
       have HL : Hid (L.length = 259) := by rw [hL]; exact nodL_len _ _ _ _
       have CK : Hid (∀ (b : Bool), (f (UInt8.ofNat j) != inv) = b → ∀ V, Blk V g2 102 (L.set (1 + j) (.bool b)) → Blk V g2 102 (nodL 1 (mixed f inv (j + 1)) false (.slice none 0 0))) := fun b hb V h => by
        rw [hL, nodL_wj _ _ _ _ hlj, ← hb, nodL_ext (mixed_step f inv hlj)] at h
        exact h
       clear hL K4
       generalize f (UInt8.ofNat j) = bc at *
       cases bc with
       | false =>
        cases inv with
        | false =>
         go_wp2_with (first
          | ((with_reducible refine wpList_store_cell (o := ⟨_, .store 4 (.tmp 110) (.tmp 108), _, _, _, _⟩) rfl 4 _ _ rfl rfl g2 (1 + j) (.bool false) ?_ ?_ rfl 102 L (KL.out) (by rw [HL.out]; omega) size4 ?_); (· rfl); (· rfl); intro w5 k5 b5 s5))
         go_roundw
         case rel => exact ⟨j + 1, by omega, by go_num, CK.out false rfl _ k5.out, K1.out.but b5.out (by have := G1.out; omega), B3.out.trans (b5.out.below (by have := B3.out.size; omega) (fun n hn => by have := G1.out; omega))⟩
         case measure => simp [intOf]; omega
        | true =>
         go_wp2_with (first
          | ((with_reducible refine wpList_store_cell (o := ⟨_, .store 4 (.tmp 110) (.tmp 108), _, _, _, _⟩) rfl 4 _ _ rfl rfl g2 (1 + j) (.bool true) ?_ ?_ rfl 102 L (KL.out) (by rw [HL.out]; omega) size4 ?_); (· rfl); (· rfl); intro w5 k5 b5 s5))
         go_roundw
         case rel => exact ⟨j + 1, by omega, by go_num, CK.out true rfl _ k5.out, K1.out.but b5.out (by have := G1.out; omega), B3.out.trans (b5.out.below (by have := B3.out.size; omega) (fun n hn => by have := G1.out; omega))⟩
         case measure => simp [intOf]; omega
       | true =>
        cases inv with
        | false =>
         go_wp2_with (first
          | ((with_reducible refine wpList_store_cell (o := ⟨_, .store 4 (.tmp 110) (.tmp 108), _, _, _, _⟩) rfl 4 _ _ rfl rfl g2 (1 + j) (.bool true) ?_ ?_ rfl 102 L (KL.out) (by rw [HL.out]; omega) size4 ?_); (· rfl); (· rfl); intro w5 k5 b5 s5))
         go_roundw
         case rel => exact ⟨j + 1, by omega, by go_num, CK.out true rfl _ k5.out, K1.out.but b5.out (by have := G1.out; omega), B3.out.trans (b5.out.below (by have := B3.out.size; omega) (fun n hn => by have := G1.out; omega))⟩
         case measure => simp [intOf]; omega
        | true =>
         go_wp2_with (first
          | ((with_reducible refine wpList_store_cell (o := ⟨_, .store 4 (.tmp 110) (.tmp 108), _, _, _, _⟩) rfl 4 _ _ rfl rfl g2 (1 + j) (.bool false) ?_ ?_ rfl 102 L (KL.out) (by rw [HL.out]; omega) size4 ?_); (· rfl); (· rfl); intro w5 k5 b5 s5))
         go_roundw
         case rel => exact ⟨j + 1, by omega, by go_num, CK.out false rfl _ k5.out, K1.out.but b5.out (by have := G1.out; omega), B3.out.trans (b5.out.below (by have := B3.out.size; omega) (fun n hn => by have := G1.out; omega))⟩
         case measure => simp [intOf]; omega
      ·obtain rfl : j = 256 := by omega
       obtain ⟨L, hL⟩ : ∃ L, L = nodL 1 (fun x => f x != inv) false (.slice none 0 0) := ⟨_, rfl⟩
       have KL : Hid (Blk wr g2 102 L) := by rw [hL, ← nodL_ext (mixed_all f inv)]; exact K4.out
       have HL : Hid (L.length = 259 ∧ ∀ v ∈ L, v.oneCell' = true) := by rw [hL]; exact nod_ok _ _ _
       have HR := Lib.hid hL
       clear hL K4
       go_wp2_with (first
        | ((with_reducible refine wpList_load_abs (o := ⟨_, .load 102 (.tmp 9), _, _, _, _⟩) rfl 102 _ rfl g2 0 ?_ L (KL.out.range) _ Tryz.underlying102 rfl 259 size50 HL.out.1 ?_); (· rfl))
             | ((with_reducible refine wpList_store_abs (o := ⟨_, .store 102 (.tmp 6) (.tmp 111), _, _, _, _⟩) rfl 102 _ _ rfl rfl g1 L ?_ ?_ 102 Z (K1.out) 259 size50 HL.out.1 ZL.out HL.out.2 ?_); (· rfl); (· rfl); intro w5 k5 b5 s5))
       refine bodyPost_ret (res_node3 rfl rfl rfl rfl k5.out HL.out.1) rfl ?_
       exact ⟨L, k + 1, true, rfl, HL.out, fun _ => ⟨f, HE.out, HR.out, by omega, by omega⟩, fun h => (by cases h), B3.out.trans (b5.out.below (by have := B3.out.size; omega) (fun n hn => by have := G1.out; omega))⟩
   ·have e93 : (((p[k].toNat : Nat) : Int) != 93) = true := neq_u8 (k := 93) (by decide) h93
    go_upto_region 6 with (go_at_call 193; (with_reducible refine (KI.out k (by omega) _).mono ?_); rintro e wz ⟨x, kn, b, rfl, hT, hF, hB, rfl⟩)
    clear e93
    cases b with
    | false =>
     have HE : Hid (bx none_ true (p.data.toList.drop i0) = none) := by
      show _ = _
      have h := hF.out rfl
      rw [HD.out] at h
      rw [HX.out, HD.out, bx_item h93 h]
     clear hT hF hB HD h93
     obtain ⟨L, hL⟩ : ∃ L, L = nodL 1 f false (.slice none 0 0) := ⟨_, rfl⟩
     have KL : Hid (Blk wr g2 102 L) := by rw [hL]; exact K3.out
     have HL : Hid (L.length = 259 ∧ ∀ v ∈ L, v.oneCell' = true) := by rw [hL]; exact nod_ok _ _ _
     clear hL K3 HX
     go_wp2_with (first
      | ((with_reducible refine wpList_load_abs (o := ⟨_, .load 102 (.tmp 9), _, _, _, _⟩) rfl 102 _ rfl g2 0 ?_ L (KL.out.range) _ Tryz.underlying102 rfl 259 size50 HL.out.1 ?_); (· rfl))
             | ((with_reducible refine wpList_store_abs (o := ⟨_, .store 102 (.tmp 6) (.tmp 73), _, _, _, _⟩) rfl 102 _ _ rfl rfl g1 L ?_ ?_ 102 Z (K1.out) 259 size50 HL.out.1 ZL.out HL.out.2 ?_); (· rfl); (· rfl); intro w5 k5 b5 s5))
     refine bodyPost_ret (res_node3 rfl rfl rfl rfl k5.out HL.out.1) rfl ?_
     exact ⟨L, k, false, rfl, HL.out, fun h => (by cases h), fun _ => HE.out, B3.out.trans (b5.out.below (by have := B3.out.size; omega) (fun n hn => by have := G1.out; omega))⟩
    | true =>
     obtain ⟨hit, hkn, hkn2⟩ := hT.out rfl
     have HIT := Lib.hid hit
     have HN3 := Lib.hid h93
     obtain ⟨rg, hrg⟩ := bool_is (∃ (h1 : kn + 1 < p.size), p[kn] = 45 ∧ p[kn + 1] ≠ 93)
     have HRG := Lib.hid hrg
     have hkn0 : (0 : Int) ≤ (kn : Int) := Int.natCast_nonneg _
     clear hT hF hB hit hrg h93
     go_cut [57] (fun c wx => c = .bool rg ∧ wx = wr)
     case first =>
      by_cases h1 : kn + 1 < p.size
      ·have h1' : (kn : Int) + 1 < (p.size : Int) := by omega
       by_cases h2 : p[kn] = 45
       ·have h2' : (((p[kn].toNat : Nat) : Int) == 45) = true := beq_u8 (k := 45) (by decide) h2
        by_cases h3 : p[kn + 1] = 93
        ·have h3' : (((p[kn + 1].toNat : Nat) : Int) != 93) = false := eq_u8 (k := 93) (by decide) h3
         obtain rfl : rg = false := by
          cases rg with
          | false => rfl
          | true => obtain ⟨_, _, h⟩ := HRG.out.1 rfl; exact absurd h3 h
         clear h2 h3
         go_wp2_with fail
         go_meet
         case rel => exact ⟨rfl, rfl⟩
        ·have h3' : (((p[kn + 1].toNat : Nat) : Int) != 93) = true := neq_u8 (k := 93) (by decide) h3
         obtain rfl : rg = true := HRG.out.2 ⟨h1, h2, h3⟩
         clear h2 h3
         go_wp2_with fail
         go_meet
         case rel => exact ⟨rfl, rfl⟩
       ·have h2' : (((p[kn].toNat : Nat) : Int) == 45) = false := bne_u8 (k := 45) (by decide) h2
        obtain rfl : rg = false := by
         cases rg with
         | false => rfl
         | true => obtain ⟨_, h, _⟩ := HRG.out.1 rfl; exact absurd h h2
        clear h2
        go_wp2_with fail
        go_meet
        case rel => exact ⟨rfl, rfl⟩
      ·have h1' : ¬ ((kn : Int) + 1 < (p.size : Int)) := by omega
       obtain rfl : rg = false := by
        cases rg with
        | false => rfl
        | true => obtain ⟨h, _⟩ := HRG.out.1 rfl; exact absurd h h1
       go_wp2_with fail
       go_meet
       case rel => exact ⟨rfl, rfl⟩
     case rest =>
      obtain ⟨rfl, rfl⟩ := hcut
      go_upto_if 57 with fail
      go_cut [12, 13, 14] (fun a b c wx => ∃ (y : UInt8) (km : Nat) (bb : Bool), a = .int .i64 (km : Int) ∧ b = .bool bb ∧ c = .int .u8 (y.toNat : Int) ∧ Hid (RngS p x kn y km bb) ∧ wx = wc)
      case first =>
       cases hr : rg with
       | true =>
        obtain ⟨h1, h2, h3⟩ := HRG.out.1 hr
        have HR := Lib.hid (rng_yes x h1 h2 h3)
        have KJ : Hid (∀ V, Calls Tryz.prog 193 #[.string p, .int .i64 ((kn : Int) + 1)] V (ItmP p (kn + 1) V)) := fun V => KI.out (kn + 1) (by omega) V
        clear h1 h2 h3 hr
        go_wp2_with (go_at_call 193; (with_reducible refine (KJ.out _).mono ?_); rintro e wz ⟨y, km, bb, rfl, hT, hF, hB, rfl⟩)
        go_meet
        case rel => exact ⟨y, km, bb, rfl, rfl, rfl, ⟨fun h => by rw [HR.out]; have := hT.out h; exact ⟨this.1, by omega, this.2.2⟩, fun h => by rw [HR.out]; exact hF.out h⟩, rfl⟩
       | false =>
        have HR := Lib.hid (rng_no x hkn2 (fun h1 h2 => by
         apply Classical.byContradiction
         intro h3
         rw [HRG.out.2 ⟨h1, h2, h3⟩] at hr
         cases hr))
        clear hr
        go_wp2_with fail
        go_meet
        case rel => exact ⟨x, kn, true, rfl, rfl, rfl, ⟨fun _ => ⟨HR.out, Nat.le_refl _, hkn2⟩, fun h => (by cases h)⟩, rfl⟩
      case rest =>
       obtain ⟨y, km, bb, rfl, rfl, rfl, HR, rfl⟩ := hcut
       cases bb with
       | false =>
        have HE : Hid (bx none_ true (p.data.toList.drop i0) = none) := by
         show _ = _
         have h := HIT.out
         rw [HD.out] at h
         rw [HX.out, HD.out, bx_range HN3.out h (HR.out.2 rfl)]
        clear HR HIT HN3 HD HRG
        obtain ⟨L, hL⟩ : ∃ L, L = nodL 1 f false (.slice none 0 0) := ⟨_, rfl⟩
        have KL : Hid (Blk wc g2 102 L) := by rw [hL]; exact K3.out
        have HL : Hid (L.length = 259 ∧ ∀ v ∈ L, v.oneCell' = true) := by rw [hL]; exact nod_ok _ _ _
        clear hL K3 HX
        go_wp2_with (first
         | ((with_reducible refine wpList_load_abs (o := ⟨_, .load 102 (.tmp 9), _, _, _, _⟩) rfl 102 _ rfl g2 0 ?_ L (KL.out.range) _ Tryz.underlying102 rfl 259 size50 HL.out.1 ?_); (· rfl))
             | ((with_reducible refine wpList_store_abs (o := ⟨_, .store 102 (.tmp 6) (.tmp 73), _, _, _, _⟩) rfl 102 _ _ rfl rfl g1 L ?_ ?_ 102 Z (K1.out) 259 size50 HL.out.1 ZL.out HL.out.2 ?_); (· rfl); (· rfl); intro w5 k5 b5 s5))
        refine bodyPost_ret (res_node3 rfl rfl rfl rfl k5.out HL.out.1) rfl ?_
        exact ⟨L, k, false, rfl, HL.out, fun h => (by cases h), fun _ => HE.out, B3.out.trans (b5.out.below (by have := B3.out.size; omega) (fun n hn => by have := G1.out; omega))⟩
       | true =>
        obtain ⟨hre, hkm1, hkm2⟩ := HR.out.1 rfl
        have HRE := Lib.hid hre
        have hy0 : (0 : Int) ≤ (y.toNat : Int) := Int.natCast_nonneg _
        have hx0 : (0 : Int) ≤ (x.toNat : Int) := Int.natCast_nonneg _
        have hy1 := y.toNat_lt
        have hx1 := x.toNat_lt
        clear HR hre
        by_cases hyx : y.toNat < x.toNat
        ·have hyx' : (y.toNat : Int) < (x.toNat : Int) := by omega
         have HE : Hid (bx none_ true (p.data.toList.drop i0) = none) := by
          show _ = _
          have h := HIT.out
          rw [HD.out] at h
          rw [HX.out, HD.out, bx_less HN3.out h HRE.out hyx]
         clear HRE HIT HN3 HD HRG
         obtain ⟨L, hL⟩ : ∃ L, L = nodL 1 f false (.slice none 0 0) := ⟨_, rfl⟩
         have KL : Hid (Blk wc g2 102 L) := by rw [hL]; exact K3.out
         have HL : Hid (L.length = 259 ∧ ∀ v ∈ L, v.oneCell' = true) := by rw [hL]; exact nod_ok _ _ _
         clear hL K3 HX
         go_wp2_with (first
          | ((with_reducible refine wpList_load_abs (o := ⟨_, .load 102 (.tmp 9), _, _, _, _⟩) rfl 102 _ rfl g2 0 ?_ L (KL.out.range) _ Tryz.underlying102 rfl 259 size50 HL.out.1 ?_); (· rfl))
             | ((with_reducible refine wpList_store_abs (o := ⟨_, .store 102 (.tmp 6) (.tmp 73), _, _, _, _⟩) rfl 102 _ _ rfl rfl g1 L ?_ ?_ 102 Z (K1.out) 259 size50 HL.out.1 ZL.out HL.out.2 ?_); (· rfl); (· rfl); intro w5 k5 b5 s5))
         refine bodyPost_ret (res_node3 rfl rfl rfl rfl k5.out HL.out.1) rfl ?_
         exact ⟨L, k, false, rfl, HL.out, fun h => (by cases h), fun _ => HE.out, B3.out.trans (b5.out.below (by have := B3.out.size; omega) (fun n hn => by have := G1.out; omega))⟩
        ·have hyx' : ¬ ((y.toNat : Int) < (x.toNat : Int)) := by omega
         have HE : Hid (bx none_ true (p.data.toList.drop i0) = bx (addR f x y) (decide (km = i0)) (p.data.toList.drop km)) := by
          show _ = _
          have h := HIT.out
          rw [HD.out] at h
          rw [HX.out, HD.out, bx_step HN3.out h HRE.out hyx, decide_eq_false (by omega)]
         have K4 : Hid (Blk wc g2 102 (nodL 1 (upto f x.toNat x.toNat) false (.slice none 0 0))) := by rw [nodL_ext (upto_zero f x.toNat)]; exact K3.out
         clear HRE HIT HN3 HD HRG HX K3
         go_wp2_with fail
         go_loopw [15] (fun vc wr => ∃ c : Nat, x.toNat ≤ c ∧ c ≤ y.toNat + 1 ∧ vc = .int .i64 (c : Int) ∧ Hid (Blk wr g2 102 (nodL 1 (upto f x.toNat c) false (.slice none 0 0))) ∧ Hid (Blk wr g1 102 Z) ∧ Hid (Below w.heap.size w wr)) (fun vc _ => 257 - (intOf vc).toNat)
         case atStart => exact ⟨x.toNat, Nat.le_refl _, by omega, rfl, K4, K1, B3⟩
         case round =>
          clear K4 K1 B3
          obtain ⟨c, hc1, hc2, rfl, K4, K1, B3⟩ := hrel
          have hc0 : (0 : Int) ≤ (c : Int) := Int.natCast_nonneg _
          by_cases hcy : c ≤ y.toNat
          ·have hcy' : (c : Int) ≤ (y.toNat : Int) := by omega
           have hc256 : (c : Int) < 256 := by omega
           obtain ⟨L, hL⟩ : ∃ L, L = nodL 1 (upto f x.toNat c) false (.slice none 0 0) := ⟨_, rfl⟩
           have KL : Hid (Blk wr g2 102 L) := by rw [hL]; exact K4.out
           have HL : Hid (L.length = 259) := by rw [hL]; exact nodL_len _ _ _ _
           have CK : Hid (∀ V, Blk V g2 102 (L.set (1 + c) (.bool true)) → Blk V g2 102 (nodL 1 (upto f x.toNat (c + 1)) false (.slice none 0 0))) := fun V h => by
            rw [hL, nodL_wj _ _ _ _ (by omega), nodL_ext (upto_step f hc1)] at h
            exact h
           clear hL K4
           go_wp2_with (first
            | ((with_reducible refine wpList_store_cell (o := ⟨_, .store 4 (.tmp 85) (.const (.bool true)), _, _, _, _⟩) rfl 4 _ _ rfl rfl g2 (1 + c) (.bool true) ?_ ?_ rfl 102 L (KL.out) (by rw [HL.out]; omega) size4 ?_); (· rfl); (· rfl); intro w5 k5 b5 s5))
           go_roundw
           case rel => exact ⟨c + 1, by omega, by omega, by go_num, CK.out _ k5.out, K1.out.but b5.out (by have := G1.out; omega), B3.out.trans (b5.out.below (by have := B3.out.size; omega) (fun n hn => by have := G1.out; omega))⟩
           case measure => simp [intOf]; omega
          ·obtain rfl : c = y.toNat + 1 := by omega
           have hcy' : ¬ (((y.toNat + 1 : Nat) : Int) ≤ (y.toNat : Int)) := by omega
           have K5 : Hid (Blk wr g2 102 (nodL 1 (addR f x y) false (.slice none 0 0))) := by rw [← nodL_ext (upto_end f (.inl rfl))]; exact K4.out
           clear K4
           go_wp2_with fail
           go_roundw
           case rel => exact ⟨km, addR f x y, by omega, hkm2, rfl, HE, K5, K1, B3⟩
           case measure => simp [intOf]; omega
  ·obtain rfl : k = p.size := by omega
   have HE : Hid (bx none_ true (p.data.toList.drop i0) = none) := by
    show _ = _
    rw [HX.out, drop_end (Nat.le_refl _), bx_nil]
   have hge : ¬ ((p.size : Int) < (p.size : Int)) := by omega
   obtain ⟨L, hL⟩ : ∃ L, L = nodL 1 f false (.slice none 0 0) := ⟨_, rfl⟩
   have KL : Hid (Blk wr g2 102 L) := by rw [hL]; exact K3.out
   have HL : Hid (L.length = 259 ∧ ∀ v ∈ L, v.oneCell' = true) := by rw [hL]; exact nod_ok _ _ _
   clear hL K3 HX
   go_wp2_with (first
    | ((with_reducible refine wpList_load_abs (o := ⟨_, .load 102 (.tmp 9), _, _, _, _⟩) rfl 102 _ rfl g2 0 ?_ L (KL.out.range) _ Tryz.underlying102 rfl 259 size50 HL.out.1 ?_); (· rfl))
             | ((with_reducible refine wpList_store_abs (o := ⟨_, .store 102 (.tmp 6) (.tmp 96), _, _, _, _⟩) rfl 102 _ _ rfl rfl g1 L ?_ ?_ 102 Z (K1.out) 259 size50 HL.out.1 ZL.out HL.out.2 ?_); (· rfl); (· rfl); intro w5 k5 b5 s5))
   refine bodyPost_ret (res_node3 rfl rfl rfl rfl k5.out HL.out.1) rfl ?_
   exact ⟨L, p.size, false, rfl, HL.out, fun h => (by cases h), fun _ => HE.out, B3.out.trans (b5.out.below (by have := B3.out.size; omega) (fun n hn => by have := G1.out; omega))⟩
end Go.Proofs.YtdeppcddknakjaaGreatDoor.Rx
