
/- Layer 6: Empty of the program. Layer 6: Quote of the program. Layer 6: what the laws ask beside: great, HasPrefix, awake. Layer 6: awake. -/
import Derived.ChangeKeysEq
import Derived.Test.YtdeppcddknakjaaGreatDoorCR
import Derived.Lib.QuietBelow
import Derived.BigQuiet
set_option maxRecDepth 100000
set_option linter.unusedVariables false
set_option linter.unusedSimpArgs false
namespace Go.Proofs.YtdeppcddknakjaaGreatDoor.Rx
open Go.RowKit
section
variable {P : Program}
theorem part_bool (w : World) {e : TypeId} {i : TypeInfo} (hu : P.underlying e = some .bool) (f : UInt8 → Bool) (k : Nat) (hk : k < 256) : (part e (clsC f).toArray (k * 1)).run P w = .ok (.bool (f (UInt8.ofNat k))) w := by
 have h := clsC_at f hk
 simp [part, isAgg, run_underlying hu, h]
theorem eqItems_sets (w : World) (d : Nat) {e : TypeId} {i : TypeInfo} (hu : P.underlying e = some .bool) (hi : P.info? e = some i) (f g : UInt8 → Bool) : ∀ is : List Nat, (∀ k ∈ is, k < 256) →
  (Op.eqItems (d + 1) e 1 (clsC f).toArray (clsC g).toArray is).run P w = .ok (is.all fun k => f (UInt8.ofNat k) == g (UInt8.ofNat k)) w
 | [], _ => by simp [Op.eqItems]
 | k :: is, h => by
  have hk := h k (by simp)
  have pe : (Op.equalIn (d + 1) e (.bool (f (UInt8.ofNat k))) (.bool (g (UInt8.ofNat k)))).run P w = .ok (f (UInt8.ofNat k) == g (UInt8.ofNat k)) w := by simp [Op.equalIn, run_underlying hu]
  simp only [Op.eqItems, Sem.run_bind, part_bool (i := i) w hu f k hk, part_bool (i := i) w hu g k hk, pe, Result.andThen_ok, List.all_cons]
  cases hb : (f (UInt8.ofNat k) == g (UInt8.ofNat k))
  ·simp
  ·simp only [Bool.not_true, Bool.false_eq_true, if_false, Bool.true_and]
   exact eqItems_sets w d hu hi f g is (fun k hk => h k (by simp [hk]))
end
theorem eql_sets {t : TypeId} (ht : Tryz.prog.underlying t = some (.array 256 4)) (w : World) (f : UInt8 → Bool) : (Op.equalIn 10000 t (.agg (clsC f).toArray) (.agg (clsC none_).toArray)).run Tryz.prog w = .ok (noneIn f) w := by
 obtain ⟨i, hi⟩ : ∃ i, Tryz.prog.info? 4 = some i := by
  cases h : Tryz.prog.info? 4 with
  | none =>
   have : (Tryz.prog.info? 4).isSome = true := by kernel_rfl
   rw [h] at this
   cases this
  | some i => exact ⟨i, rfl⟩
 rw [run_equalIn_array w 9999 _ _ ht hi, show Tryz.prog.cellsOf 4 = 1 by kernel_rfl]
 have e : noneIn f = (List.range 256).all fun k => f (UInt8.ofNat k) == none_ (UInt8.ofNat k) := congrArg (List.all (List.range 256)) (funext fun k => by simp [none_])
 rw [e]
 exact eqItems_sets w 9998 Tryz.underlying4 hi f none_ _ (fun k hk => List.mem_range.1 hk)
theorem built_none45 : Tryz.prog.built 162 [] = some (clsC none_).toArray := by kernel_rfl
/-! What the program asks of a factor. -/
theorem fac_skip {w : World} {T : Nat → Prop} {C : List Value} {p : Pe} (h : PeV w T C p) (hp : p.rp = .star ∨ p.rp = .opt) : emptyR (reF p) = false := by
 cases p <;> simp only [Pe.rp] at hp <;> rcases hp with rfl | rfl <;> simp [reF, withRep, emptyR, allE, anyE]
theorem noneIn_byte (c : UInt8) : noneIn (fun x => x == c) = false := by
 cases h : noneIn (fun x => x == c) with
 | false => rfl
 | true =>
  have := noneIn_iff h c
  simp at this
/-- What is left of a factor. -/
theorem fac_kind {w : World} {T : Nat → Prop} {C : List Value} {p : Pe} (h : PeV w T C p) (hp : ¬ (p.rp = .star ∨ p.rp = .opt)) :
  (C[256]? = some (.slice none 0 0) ∧ ∃ f tl, C = clsC f ++ tl ∧ emptyR (reF p) = noneIn f) ∨
  (∃ e b cap, C[256]? = some (.slice (some ⟨b, 0, none⟩) e.length cap) ∧ ExV w T (.slice (some ⟨b, 0, none⟩) e.length cap) e ∧ emptyR (reF p) = allE (reE e) ∧ wE e < wF p) := by
 cases p with
 | byte c r =>
  rw [PeV] at h
  subst h
  refine .inl ⟨(facL_at _ _ _ _ _).1, _, _, rfl, ?_⟩
  rw [noneIn_byte]
  cases r <;> simp [Pe.rp] at hp <;> simp [reF, withRep, emptyR]
 | cls f r =>
  rw [PeV] at h
  subst h
  refine .inl ⟨(facL_at _ _ _ _ _).1, _, _, rfl, ?_⟩
  cases r <;> simp [Pe.rp] at hp <;> simp [reF, withRep, emptyR]
 | sub e r =>
  rw [PeV] at h
  obtain ⟨h1, b, cap, rfl, h2, h3⟩ := h
  refine .inr ⟨e, b, cap, (facL_at _ _ _ _ _).1, ⟨h1, b, cap, rfl, h2, h3⟩, ?_, by rw [wF]; omega⟩
  cases r <;> simp [Pe.rp] at hp <;> simp [reF, withRep, emptyR]
theorem rp_star {p : Pe} : (p.rp = .star ∨ p.rp = .opt) ↔ (p.rp.b = 42 ∨ p.rp.b = 63) := by cases p.rp <;> simp [Rp.b]
/-- What a test of emptiness returns. -/
def EmpP (b : Bool) (w : World) (e : Ending) (w' : World) : Prop := e = .returned (.bool b) ∧ Hid (Below w.heap.size w w')
def Emp32 (n : Nat) : Prop := ∀ (x : List (List Pe)) (v : Value) (w : World) (T : Nat → Prop), wE x ≤ n → ExV w T v x → (∀ k, T k → k < w.heap.size) → Calls Tryz.prog 146 #[v] w (EmpP (allE (reE x)) w)
def Emp55 (n : Nat) : Prop := ∀ (p : Pe) (C : List Value) (w : World) (T : Nat → Prop), wF p ≤ n → PeV w T C p → (∀ k, T k → k < w.heap.size) → Calls Tryz.prog 186 #[.agg C.toArray] w (EmpP (emptyR (reF p)) w)
def Emp42 (n : Nat) : Prop := ∀ (a : List Pe) (A : Option Addr) (cap : Nat) (w : World) (T : Nat → Prop), wA a ≤ n → FsV w T A a → (∀ k, T k → k < w.heap.size) → Calls Tryz.prog 168 #[.slice A a.length cap] w (EmpP (anyE (reA a)) w)
set_option maxHeartbeats 4000000 in
set_option maxRecDepth 100000 in
theorem factor_empty (n : Nat) (IH : ∀ m, m < n → Emp32 m) : Emp55 n := by
 intro p C w T hn hpe hT
 have HCL := Lib.hid hpe.len
 have k1 : Hid (Blk (w.alloc (.cells C.toArray 164)) w.heap.size 164 C) := Blk.new w 164 C
 have b1 : Hid (Below w.heap.size w (w.alloc (.cells C.toArray 164))) := (Below.refl _ _).alloc (Nat.le_refl _) _
 have c9 : (w.alloc (.cells C.toArray 164)).cell? ⟨w.heap.size, 259, none⟩ = some (.int .u8 (p.rp.b.toNat : Int)) := (k1.out.cell 259).trans hpe.rp
 have heq := fun (wx : World) (A : Option Addr) (n c : Nat) => run_neq_slice_nil_any (P := Tryz.prog) wx 95 _ A n c 0 0 Tryz.underlying95
 by_cases hs : p.rp = .star ∨ p.rp = .opt
 ·have HE := Lib.hid (fac_skip hpe hs)
  rcases hs with hs | hs
  all_goals
   rw [hs] at c9
   have c9 : (w.alloc (.cells C.toArray 164)).cell? ⟨w.heap.size, 259, none⟩ = some (.int .u8 _) := c9
   clear IH hpe hT hs
   simp only [Rp.b] at c9
   go_enter Tryz.func186, Tryz.ntmps186
   go_wp2_with fail
   go_ret
   exact ⟨by rw [HE.out]; rfl, b1.out⟩
 ·have hr42 : ((p.rp.b.toNat : Int) == 42) = false := by
   rw [rp_star] at hs
   refine beq_false_of_ne (fun e => hs (.inl ?_))
   apply UInt8.toNat_inj.1
   show _ = 42
   omega
  have hr63 : ((p.rp.b.toNat : Int) == 63) = false := by
   rw [rp_star] at hs
   refine beq_false_of_ne (fun e => hs (.inr ?_))
   apply UInt8.toNat_inj.1
   show _ = 63
   omega
  rcases fac_kind hpe hs with ⟨h6, f, tl, hC, hE⟩ | ⟨e, b, cap, h6, hv, hE, hw⟩
  ·have c6 : (w.alloc (.cells C.toArray 164)).cell? ⟨w.heap.size, 256, none⟩ = some (.slice none 0 0) := (k1.out.cell 256).trans h6
   obtain ⟨D, hD⟩ : ∃ D, D = clsC f := ⟨_, rfl⟩
   obtain ⟨Z, hZ⟩ : ∃ Z, Z = clsC none_ := ⟨_, rfl⟩
   have HDL : Hid (D.length = 256) := by rw [hD]; exact clsC_len _
   have RG : Hid ((w.alloc (.cells C.toArray 164)).rangeAt w.heap.size 0 D) := k1.out.part (by rw [hC, hD])
   have HEQ : ∀ wx : World, (Op.equalIn 10000 162 (.agg D.toArray) (.agg Z.toArray)).run Tryz.prog wx = .ok (noneIn f) wx := fun wx => by rw [hD, hZ]; exact eql_sets Tryz.underlying162 wx f
   have HB : Hid (Tryz.prog.built 162 [] = some Z.toArray) := by rw [hZ]; exact built_none45
   have HE := Lib.hid hE
   generalize noneIn f = nb at *
   clear IH hpe hT hs h6 hC hD hZ hE
   go_enter Tryz.func186, Tryz.ntmps186
   go_wp2_with (first
    | ((with_reducible refine wpList_load_abs (o := ⟨_, .load 162 (.tmp 17), _, _, _, _⟩) rfl 162 _ rfl w.heap.size 0 ?_ D RG.out _ Tryz.underlying162 rfl 256 size45 HDL.out ?_); (· rfl))
    | ((with_reducible refine wpList_build_abs (o := ⟨_, .build 162 _, _, _, _, _⟩) rfl 162 _ rfl [] ?_ Z HB.out ?_); (· first | rfl | simp)))
   go_ret
   exact ⟨by rw [HE.out]; rfl, b1.out⟩
  ·have c6 : (w.alloc (.cells C.toArray 164)).cell? ⟨w.heap.size, 256, none⟩ = some (.slice (some ⟨b, 0, none⟩) e.length cap) := (k1.out.cell 256).trans h6
   have CE := Lib.hid (IH (wE e) (by omega) e _ (w.alloc (.cells C.toArray 164)) T (Nat.le_refl _) (hv.keep (fun _ h => h) (fun g j hg => b1.out.cell (p := ⟨g, j, none⟩) (hT g hg))) (fun k hk => by rw [World.size_alloc]; have := hT k hk; omega))
   have HE := Lib.hid hE
   clear IH hpe hT hs h6 hv hE hw
   go_enter Tryz.func186, Tryz.ntmps186
   go_wp2_with (go_at_call 146; (with_reducible refine CE.out.mono ?_); rintro x w2 ⟨rfl, b2⟩)
   go_ret
   exact ⟨by rw [HE.out]; rfl, b1.out.trans (b2.out.mono b1.out.size)⟩
/-- Where the first empty factor is. -/
def IdxP (b : Bool) (w : World) (e : Ending) (w' : World) : Prop := ∃ r : Int, e = .returned (.int .i64 r) ∧ Hid (decide (0 ≤ r) = b) ∧ Hid (Below w.heap.size w w')
set_option maxHeartbeats 4000000 in
set_option maxRecDepth 100000 in
theorem index64 (n : Nat) (hn0 : n ≤ 1000) (H : Emp55 n) (a : List Pe) (A : Option Addr) (cap : Nat) (w : World) (T : Nat → Prop) (hn : wA a ≤ n) (hf : FsV w T A a) (hT : ∀ k, T k → k < w.heap.size) :
  Calls Tryz.prog 200 #[.slice A a.length cap, .func (.func 186) #[] #[]] w (IdxP (anyE (reA a)) w) := by
 have HH := Lib.hid H
 have HF := Lib.hid hf
 have HTT := Lib.hid hT
 have hal : a.length ≤ 1000 := by have := wA_len a; omega
 have HN := Lib.hid hn
 clear H hf hT hn
 go_enter Tryz.func200, Tryz.ntmps200
 go_wp2_with fail
 go_loopw [8] (fun vi wr => ∃ k : Nat, k ≤ a.length ∧ vi = .int .i64 k ∧ Hid (anyE (reA a) = anyE (reA (a.drop k))) ∧ Hid (Below w.heap.size w wr)) (fun vi _ => a.length - (intOf vi).toNat)
 case atStart => exact ⟨0, Nat.zero_le _, rfl, rfl, Below.refl _ _⟩
 case round =>
  obtain ⟨k, hk, rfl, HL, HB⟩ := hrel
  by_cases hlt : k < a.length
  ·obtain ⟨g, hA, hgT, hrow⟩ := HF.out (by intro e; rw [e] at hlt; simp at hlt)
   obtain ⟨C, hr0, hpe⟩ := hrow.at_ k hlt
   rw [Nat.zero_add] at hr0
   have RC : Hid (wr.rangeAt g (k * 260) C) := rangeAt_keep hr0 (fun j => HB.out.cell (HTT.out g hgT))
   have HCL := Lib.hid hpe.len
   have HD := Lib.hid (drop_at a hlt)
   have hwk : wF a[k] ≤ n := by
    have h1 := HN.out
    have h2 := wA_append (a.take k) (a.drop k)
    rw [List.take_append_drop, HD.out, wA] at h2
    omega
   have CF := Lib.hid (HH.out a[k] C wr T hwk (PeV.keep (fun _ h => h) (fun b j hb => HB.out.cell (p := ⟨b, j, none⟩) (HTT.out b hb)) hpe) (fun k hk => Nat.lt_of_lt_of_le (HTT.out k hk) HB.out.size))
   have HE : Hid (anyE (reA a) = (emptyR (reF a[k]) || anyE (reA (a.drop (k + 1))))) := by
    show _ = _
    rw [HL.out, HD.out, reA, anyE]
   have hj0 : (0 : Int) ≤ (k : Int) := Int.natCast_nonneg _
   have hj1 : (k : Int) < (a.length : Int) := by omega
   generalize a[k] = p at *
   subst hA
   clear hgT hrow hr0 hpe HD HL
   cases hb : emptyR (reF p) with
   | true =>
    rw [hb] at CF HE
    go_wp2_with (first
     | ((with_reducible refine wpList_load_abs (o := ⟨_, .load 164 (.tmp 14), _, _, _, _⟩) rfl 164 _ rfl g (k * 260) ?_ C RC.out _ Tryz.underlying164 rfl 260 size47 HCL.out.1 ?_); (· first | rfl | simp))
     | (go_at_call 186; (with_reducible refine CF.out.mono ?_); rintro x w2 ⟨rfl, b2⟩))
    go_ret
    exact ⟨_, rfl, by (show _ = _; rw [HE.out]; simp), HB.out.trans (b2.out.mono HB.out.size)⟩
   | false =>
    rw [hb] at CF HE
    go_wp2_with (first
     | ((with_reducible refine wpList_load_abs (o := ⟨_, .load 164 (.tmp 14), _, _, _, _⟩) rfl 164 _ rfl g (k * 260) ?_ C RC.out _ Tryz.underlying164 rfl 260 size47 HCL.out.1 ?_); (· first | rfl | simp))
     | (go_at_call 186; (with_reducible refine CF.out.mono ?_); rintro x w2 ⟨rfl, b2⟩))
    go_roundw
    case rel => exact ⟨k + 1, by omega, by go_num, by (show _ = _; rw [HE.out]; rfl), HB.out.trans (b2.out.mono HB.out.size)⟩
    case measure => simp [intOf]; omega
  ·obtain rfl : k = a.length := by omega
   have HE : Hid (anyE (reA a) = false) := by
    show _ = _
    rw [HL.out, List.drop_of_length_le (Nat.le_refl _), reA, anyE]
   clear HL
   go_wp2_with fail
   go_ret
   exact ⟨_, rfl, by (show _ = _; rw [HE.out]; decide), HB.out⟩
set_option maxHeartbeats 4000000 in
set_option maxRecDepth 100000 in
theorem contains54 (n : Nat) (hn0 : n ≤ 1000) (H : Emp55 n) (a : List Pe) (A : Option Addr) (cap : Nat) (w : World) (T : Nat → Prop) (hn : wA a ≤ n) (hf : FsV w T A a) (hT : ∀ k, T k → k < w.heap.size) :
  Calls Tryz.prog 185 #[.slice A a.length cap, .func (.func 186) #[] #[]] w (EmpP (anyE (reA a)) w) := by
 have CI := Lib.hid (index64 n hn0 H a A cap w T hn hf hT)
 clear H hf hT
 go_enter Tryz.func185, Tryz.ntmps185
 go_wp2_with (go_at_call 200; (with_reducible refine CI.out.mono ?_); rintro x w2 ⟨r, rfl, hr, b2⟩)
 go_ret
 exact ⟨by rw [← hr.out]; rfl, b2⟩
set_option maxHeartbeats 4000000 in
set_option maxRecDepth 100000 in
theorem alternative_empty (n : Nat) (hn0 : n ≤ 1000) (H : Emp55 n) : Emp42 n := by
 intro a A cap w T hn hf hT
 have CI := Lib.hid (contains54 n hn0 H a A cap w T hn hf hT)
 clear H hf hT
 go_enter Tryz.func168, Tryz.ntmps168
 go_wp2_with (go_at_call 185; (with_reducible refine CI.out.mono ?_); rintro x w2 ⟨rfl, b2⟩)
 go_ret
 exact ⟨rfl, b2⟩
set_option maxHeartbeats 4000000 in
set_option maxRecDepth 100000 in
theorem closure41 (n : Nat) (hn0 : n ≤ 1000) (H : Emp42 n) (a : List Pe) (A : Option Addr) (cap : Nat) (w : World) (T : Nat → Prop) (hn : wA a ≤ n) (hf : FsV w T A a) (hT : ∀ k, T k → k < w.heap.size) :
  Calls Tryz.prog 167 #[.slice A a.length cap] w (EmpP (!anyE (reA a)) w) := by
 have CI := Lib.hid (H a A cap w T hn hf hT)
 clear H hf hT
 go_enter Tryz.func167, Tryz.ntmps167
 go_wp2_with (go_at_call 168; (with_reducible refine CI.out.mono ?_); rintro x w2 ⟨rfl, b2⟩)
 go_ret
 exact ⟨rfl, b2⟩
set_option maxHeartbeats 4000000 in
set_option maxRecDepth 100000 in
theorem index53 (n : Nat) (hn0 : n ≤ 1000) (H : Emp42 n) (x : List (List Pe)) (v : Value) (w : World) (T : Nat → Prop) (hn : wE x ≤ n) (hv : ExV w T v x) (hT : ∀ k, T k → k < w.heap.size) :
  Calls Tryz.prog 184 #[v, .func (.func 167) #[] #[]] w (IdxP (!allE (reE x)) w) := by
 have HH := Lib.hid H
 obtain ⟨⟨hx0, hxl⟩, b, cap, rfl, hTb, hal⟩ := hv
 have HAL := Lib.hid hal
 have HTB := Lib.hid hTb
 have HTT := Lib.hid hT
 have HN := Lib.hid hn
 clear H hal hTb hT hn hx0
 go_enter Tryz.func184, Tryz.ntmps184
 go_wp2_with fail
 go_loopw [8] (fun vi wr => ∃ k : Nat, k ≤ x.length ∧ vi = .int .i64 k ∧ Hid (allE (reE x) = allE (reE (x.drop k))) ∧ Hid (Below w.heap.size w wr)) (fun vi _ => x.length - (intOf vi).toNat)
 case atStart => exact ⟨0, Nat.zero_le _, rfl, rfl, Below.refl _ _⟩
 case round =>
  obtain ⟨k, hk, rfl, HL, HB⟩ := hrel
  by_cases hlt : k < x.length
  ·obtain ⟨A, c2, hcell, hfs⟩ := HAL.out.at_ k hlt
   rw [Nat.zero_add] at hcell
   have hc : wr.cell? ⟨b, k, none⟩ = some (.slice A x[k].length c2) := (HB.out.cell (p := ⟨b, k, none⟩) (HTT.out b HTB.out)).trans hcell
   have HD := Lib.hid (drop_at x hlt)
   have hwk : wA x[k] ≤ n := by
    have h1 := HN.out
    have h2 := wE_append (x.take k) (x.drop k)
    rw [List.take_append_drop, HD.out, wE] at h2
    omega
   have CF := Lib.hid (closure41 n hn0 HH.out x[k] A c2 wr T hwk (hfs.keep (fun _ h => h) (fun b j hb => HB.out.cell (p := ⟨b, j, none⟩) (HTT.out b hb))) (fun k hk => Nat.lt_of_lt_of_le (HTT.out k hk) HB.out.size))
   have HE : Hid (allE (reE x) = (anyE (reA x[k]) && allE (reE (x.drop (k + 1))))) := by
    show _ = _
    rw [HL.out, HD.out, reE, allE]
    rfl
   have hj0 : (0 : Int) ≤ (k : Int) := Int.natCast_nonneg _
   have hj1 : (k : Int) < (x.length : Int) := by omega
   generalize x[k] = a at *
   clear hcell hfs HD HL
   cases hb : anyE (reA a) with
   | false =>
    rw [hb] at CF HE
    go_wp2_with (go_at_call 167; (with_reducible refine CF.out.mono ?_); rintro x w2 ⟨rfl, b2⟩)
    go_ret
    exact ⟨_, rfl, by (show _ = _; rw [HE.out]; simp), HB.out.trans (b2.out.mono HB.out.size)⟩
   | true =>
    rw [hb] at CF HE
    go_wp2_with (go_at_call 167; (with_reducible refine CF.out.mono ?_); rintro x w2 ⟨rfl, b2⟩)
    go_roundw
    case rel => exact ⟨k + 1, by omega, by go_num, by (show _ = _; rw [HE.out]; rfl), HB.out.trans (b2.out.mono HB.out.size)⟩
    case measure => simp [intOf]; omega
  ·obtain rfl : k = x.length := by omega
   have HE : Hid (allE (reE x) = true) := by
    show _ = _
    rw [HL.out, List.drop_of_length_le (Nat.le_refl _), reE, allE]
   clear HL
   go_wp2_with fail
   go_ret
   exact ⟨_, rfl, by (show _ = _; rw [HE.out]; decide), HB.out⟩
set_option maxHeartbeats 4000000 in
set_option maxRecDepth 100000 in
theorem contains40 (n : Nat) (hn0 : n ≤ 1000) (H : Emp42 n) (x : List (List Pe)) (v : Value) (w : World) (T : Nat → Prop) (hn : wE x ≤ n) (hv : ExV w T v x) (hT : ∀ k, T k → k < w.heap.size) :
  Calls Tryz.prog 166 #[v, .func (.func 167) #[] #[]] w (EmpP (!allE (reE x)) w) := by
 have CI := Lib.hid (index53 n hn0 H x v w T hn hv hT)
 clear H hv hT
 go_enter Tryz.func166, Tryz.ntmps166
 go_wp2_with (go_at_call 184; (with_reducible refine CI.out.mono ?_); rintro x w2 ⟨r, rfl, hr, b2⟩)
 go_ret
 exact ⟨by rw [← hr.out]; rfl, b2⟩
set_option maxHeartbeats 4000000 in
set_option maxRecDepth 100000 in
theorem expression_empty (n : Nat) (hn0 : n ≤ 1000) (H : Emp42 n) : Emp32 n := by
 intro x v w T hn hv hT
 have CI := Lib.hid (contains40 n hn0 H x v w T hn hv hT)
 clear H hv hT
 go_enter Tryz.func146, Tryz.ntmps146
 go_wp2_with (go_at_call 166; (with_reducible refine CI.out.mono ?_); rintro x w2 ⟨rfl, b2⟩)
 go_ret
 exact ⟨by simp, b2⟩
theorem empty_all : ∀ n, n ≤ 1000 → ∀ m, m ≤ n → Emp32 m
 | 0, hn, m, hm => expression_empty m (by omega) (alternative_empty m (by omega) (factor_empty m (fun k hk => by omega)))
 | n + 1, hn, m, hm => expression_empty m (by omega) (alternative_empty m (by omega) (factor_empty m (fun k hk => empty_all n (by omega) k (by omega))))
/-- Whether p matches nothing. -/
def emptyS (p : List UInt8) : Bool := decide (check p = 0) && (match parse p with | some r => emptyR r | none => false)
set_option maxHeartbeats 4000000 in
set_option maxRecDepth 100000 in
theorem empty_any (p : ByteArray) (hp : p.size ≤ maxLen) (w : World) : Calls Tryz.prog 110 #[.string p] w (EmpP (emptyS p.data.toList) w) := by
 have CP := Lib.hid (fun w => parse_any p hp w)
 go_enter Tryz.func110, Tryz.ntmps110
 go_wp2_with fail
 refine (CP.out _).mono ?_
 rintro e w1 ⟨v, n, rfl, b1, hn, hx⟩
 by_cases hc : check p.data.toList = 0
 ·have hn0 : n = 0 := hn.out.trans hc
  subst hn0
  obtain ⟨x, hv, hpx, hwx⟩ := hx.out hc
  have CE := Lib.hid (empty_all 200 (by omega) (wE x) hwx x v w1 (Fresh w w1) (Nat.le_refl _) hv (fun _ h => h.2))
  have HE : Hid (emptyS p.data.toList = allE (reE x)) := by
   show _ = _
   unfold emptyS
   rw [hpx, hc]
   simp [emptyR]
  clear hv hpx hwx hn hx hc
  go_wp2_with (go_at_call 146; (with_reducible refine CE.out.mono ?_); rintro x w2 ⟨rfl, b2⟩)
  go_ret
  exact ⟨by rw [HE.out]; rfl, b1.out.trans (b2.out.mono b1.out.size)⟩
 ·have hn0 : (n == 0) = false := by
   have h := hn.out
   exact beq_false_of_ne (fun e => hc (h.symm.trans e))
  have HE : Hid (emptyS p.data.toList = false) := by
   show _ = _
   unfold emptyS
   simp [hc]
  clear hn hx hc
  go_wp2_with fail
  go_ret
  exact ⟨by rw [HE.out]; rfl, b1⟩
end Go.Proofs.YtdeppcddknakjaaGreatDoor.Rx
namespace Go.Proofs.YtdeppcddknakjaaGreatDoor.Rx
open Go.RowKit
theorem drop_cons_ (s : ByteArray) {k : Nat} (h : k < s.size) : s.data.toList.drop k = s[k] :: s.data.toList.drop (k + 1) := by
 have hl : k < s.data.toList.length := by rw [size_len]; exact h
 rw [List.drop_eq_getElem_cons hl]
 rfl
theorem OwnB.grown_ {w w5 : World} {B : Nat} {v : Value} {l : List UInt8} {W : World} (h : OwnB W B v l) (hb : Below B w W) (o : Obj) (hB : B ≤ W.heap.size) (hg : (W.alloc o).grownBy w5 v.ownBlock) : Below B w w5 := Below.grown (hb.alloc hB o) hg (by rw [World.size_alloc]; omega) (fun g e => (h.lt g e).1)
end Go.Proofs.YtdeppcddknakjaaGreatDoor.Rx
namespace Go.Proofs.YtdeppcddknakjaaGreatDoor.Rx
open Go.RowKit
def SameP (b : Bool) (w : World) (e : Ending) (w' : World) : Prop := e = .returned (.bool b) ∧ w = w'
theorem bytes_list (a : ByteArray) : a.toList = a.data.toList := ByteArray.toList_eq a
theorem str_eq (a b : ByteArray) : (a.toList == b.toList) = decide (a.data.toList = b.data.toList) := by
 rw [bytes_list, bytes_list, Bool.eq_iff_iff]
 simp
/-- Whether s begins with u. -/
def pfxS (s u : ByteArray) : Bool := u.data.toList.isPrefixOf s.data.toList
theorem pfx_yes {s u : ByteArray} (h : u.size ≤ s.size) : ((s.extract 0 u.size).toList == u.toList) = pfxS s u := by
 rw [str_eq]
 unfold pfxS
 rw [Bool.eq_iff_iff, decide_eq_true_iff, List.isPrefixOf_iff_prefix]
 have e : (s.extract 0 u.size).data.toList = s.data.toList.take u.data.toList.length := by
  rw [size_len]
  simp [ByteArray.data_extract]
 rw [e]
 constructor
 ·intro h1
  exact ⟨_, by rw [← h1]; exact List.take_append_drop _ _⟩
 ·rintro ⟨t, h1⟩
  rw [← h1]
  simp
theorem pfx_no {s u : ByteArray} (h : ¬ u.size ≤ s.size) : pfxS s u = false := by
 unfold pfxS
 rw [← Bool.not_eq_true, List.isPrefixOf_iff_prefix]
 intro hp
 have := hp.length_le
 rw [size_len, size_len] at this
 exact h this
set_option maxHeartbeats 4000000 in
set_option maxRecDepth 100000 in
theorem hasPrefix36 (s u : ByteArray) (hs : s.size ≤ maxLen) (hu : u.size ≤ maxLen) (w : World) : Calls Tryz.prog 165 #[.string s, .string u] w (SameP (pfxS s u) w) := by
 unfold maxLen at hs hu
 by_cases h : u.size ≤ s.size
 ·have h' : (u.size : Int) ≤ (s.size : Int) := by omega
  have HE := Lib.hid (pfx_yes h)
  go_enter Tryz.func165, Tryz.ntmps165
  go_wp2
  go_ret
  exact ⟨by rw [← HE.out]; rfl, rfl⟩
 ·have h' : ¬ ((u.size : Int) ≤ (s.size : Int)) := by omega
  have HE := Lib.hid (pfx_no h)
  go_enter Tryz.func165, Tryz.ntmps165
  go_wp2
  go_ret
  exact ⟨by rw [HE.out]; rfl, rfl⟩
set_option maxHeartbeats 4000000 in
set_option maxRecDepth 100000 in
theorem hasPrefix_any (s u : ByteArray) (hs : s.size ≤ maxLen) (hu : u.size ≤ maxLen) (w : World) : Calls Tryz.prog 187 #[.string s, .string u] w (SameP (pfxS s u) w) := by
 go_enter Tryz.func187, Tryz.ntmps187
 go_wp2_with (go_at_call 165; (with_reducible refine (hasPrefix36 s u hs hu _).mono ?_); rintro e wz ⟨rfl, rfl⟩)
 go_ret
 exact ⟨rfl, rfl⟩
/-- All places of a text, one after the other. -/
def passes (M : List Nd) (f0 : Nat) (s : List UInt8) (last : Nat) : Nat → List (Nat × Nat) × (Nat × Nat) × Bool
 | 0 => ([], (0, 0), false)
 | p + 1 =>
  let x := passes M f0 s last p
  let R := pass M s f0 last p x.1 x.2.1 x.2.2
  (R.lat, R.bs, R.fd)
/-- Two searches of one text find the same. -/
theorem Res.same {r : Re} {s : List UInt8} {last : Nat} {bs bs' : Nat × Nat} {fd fd' : Bool} (h : Res r s last bs fd) (k : Res r s last bs' fd') : bs = bs' ∧ fd = fd' := by
 cases hf : fd with
 | true =>
  subst hf
  have h1 := h.fnd rfl
  have h2 := k.opt bs.1 bs.2 h1.2.2.1 h1.1 h1.2.1 h1.2.2.2
  have h3 := k.fnd h2.1
  have h4 := h.opt bs'.1 bs'.2 h3.2.2.1 h3.1 h3.2.1 h3.2.2.2
  refine ⟨Prod.ext ?_ ?_, h2.1.symm⟩ <;> omega
 | false =>
  subst hf
  cases hf' : fd' with
  | true =>
   subst hf'
   have h1 := k.fnd rfl
   have h2 := h.opt bs'.1 bs'.2 h1.2.2.1 h1.1 h1.2.1 h1.2.2.2
   cases h2.1
  | false =>
   subst hf'
   exact ⟨(h.zro rfl).trans (k.zro rfl).symm, rfl⟩
/-! The chapter's example. -/
end Go.Proofs.YtdeppcddknakjaaGreatDoor.Rx
namespace Go.Proofs.YtdeppcddknakjaaGreatDoor.Rx
open Go.RowKit
theorem match_is {p s : ByteArray} (hp : p.size ≤ maxLen) (hs : s.size ≤ 1000000) {m : Bool} (hm : m = true ↔ MatS p.data.toList s.data.toList) (V : World) : Calls Tryz.prog 99 #[.string p, .string s] V (EmpP m V) :=
 (match_any p s hp hs V).mono fun e w' ⟨b, he, hb, hl⟩ => ⟨by rw [he, show b = m from Bool.eq_iff_iff.2 (hb.out.trans hm.symm)], hl⟩
def ChkP (c : Int) (w : World) (e : Ending) (w' : World) : Prop := e = .returned (.int .i64 c) ∧ Hid (Below w.heap.size w w')
end Go.Proofs.YtdeppcddknakjaaGreatDoor.Rx
