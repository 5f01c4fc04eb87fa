/- The contract of readUpTo. -/
import Derived.Test.YtpinmmmbmhfmiaaUpMath
import Derived.Sort.CutIn
namespace Go.Proofs.Ytpinmmmbmhfmiaa
open Go.RowKit Go.Shelf

attribute [local go_sem] Oper.semAt_some

/-- The boxes of a call: the bound, the three results, the number, the string. -/
def Cells (s : ByteArray) (most B : Nat) (a r1 r2 r3 : Int) (W : World) : Prop :=
  Boxed W B 3 (.int .i64 most) ∧ Boxed W (B + 1) 3 (.int .i64 r1) ∧ Boxed W (B + 1 + 1) 3 (.int .i64 r2) ∧ Boxed W (B + 1 + 1 + 1) 25 (.int .i64 r3) ∧ Boxed W (B + 1 + 1 + 1 + 1) 3 (.int .i64 a) ∧ Boxed W (B + 1 + 1 + 1 + 1 + 1) 9 (.string s)

theorem cells_own {β : Type} (s : ByteArray) (most B : Nat) (a r1 r2 r3 : β → Int) : Own (fun z W => Cells s most B (a z) (r1 z) (r2 z) (r3 z) W) := fun _ X Y row hs hg hrow =>
  ⟨boxed_own (β := Unit) _ _ (fun _ => _) () X Y row hs.1 hg hrow, boxed_own (β := Unit) _ _ (fun _ => _) () X Y row hs.2.1 hg hrow, boxed_own (β := Unit) _ _ (fun _ => _) () X Y row hs.2.2.1 hg hrow,
   boxed_own (β := Unit) _ _ (fun _ => _) () X Y row hs.2.2.2.1 hg hrow, boxed_own (β := Unit) _ _ (fun _ => _) () X Y row hs.2.2.2.2.1 hg hrow, boxed_own (β := Unit) _ _ (fun _ => _) () X Y row hs.2.2.2.2.2 hg hrow⟩

theorem Cells.setA {s : ByteArray} {most B : Nat} {a r1 r2 r3 : Int} {W : World} (h : Cells s most B a r1 r2 r3 W) (v : Int) : Cells s most B v r1 r2 r3 (W.setCell ⟨B + 1 + 1 + 1 + 1, 0, none⟩ (.int .i64 v)) :=
  ⟨h.1.other (by omega) _, h.2.1.other (by omega) _, h.2.2.1.other (by omega) _, h.2.2.2.1.other (by omega) _, h.2.2.2.2.1.set _, h.2.2.2.2.2.other (by omega) _⟩
theorem Cells.setR {s : ByteArray} {most B : Nat} {a r1 r2 r3 : Int} {W : World} (h : Cells s most B a r1 r2 r3 W) (v1 v2 v3 : Int) :
    Cells s most B a v1 v2 v3 (((W.setCell ⟨B + 1, 0, none⟩ (.int .i64 v1)).setCell ⟨B + 1 + 1, 0, none⟩ (.int .i64 v2)).setCell ⟨B + 1 + 1 + 1, 0, none⟩ (.int .i64 v3)) :=
  ⟨((h.1.other (by omega) _).other (by omega) _).other (by omega) _, ((h.2.1.set _).other (by omega) _).other (by omega) _, ((h.2.2.1.other (by omega) _).set _).other (by omega) _,
   ((h.2.2.2.1.other (by omega) _).other (by omega) _).set _, ((h.2.2.2.2.1.other (by omega) _).other (by omega) _).other (by omega) _, ((h.2.2.2.2.2.other (by omega) _).other (by omega) _).other (by omega) _⟩
theorem keeps3 (W : World) (a b c : Addr) (x y z : Value) : KeepsOthers W (((W.setCell a x).setCell b y).setCell c z) :=
  ((KeepsOthers.setCell W a x).trans (KeepsOthers.setCell _ b y)).trans (KeepsOthers.setCell _ c z)

set_option maxRecDepth 100000 in
set_option maxHeartbeats 2000000 in
theorem upTo_in (F : Fence) (n : Nat) (h35 : F.fn 93) (h40 : F.fn 99) (h41 : F.fn 111) (hro : F.round = none) (hn : 3 ≤ n) (s : ByteArray) (hs : s.size ≤ 4294967000) (most : Nat) (w : World) :
    CallsIn F n Try.prog 93 #[.string s, .int .i64 most] w fun e W' => e = .returned (.tuple #[.int .i64 ((rd most 0 0 s.data.toList).1 : Nat), .int .i64 ((rd most 0 0 s.data.toList).2.1 : Nat), .int .i64 ((rd most 0 0 s.data.toList).2.2 : Nat)]) ∧ Below w.heap.size w W' := by
  have h1 : 1 ≤ n := by omega
  refine callsIn_of_wp_marks Try.func93 rfl h35 ?_ hro
  simp only [Try.ntmps93, List.size_toArray, List.length_cons, List.length_nil, Nat.reduceAdd, Nat.reduceSub, Array.replicate_succ, Array.replicate_zero, List.push_toArray, List.append_toArray, List.nil_append, List.cons_append]
  gi_wp2_with (gi_at_call 99; refine (bytes_in F (n - 1) h40 hro _ _).mono ?_; rintro e w' ⟨rfl, rfl⟩)
  have hC0 : Cells s most w.heap.size 0 0 0 0 ((((((w.alloc (Obj.cells #[Value.int IntKind.i64 ↑most] 3)).alloc (Obj.cells #[Value.int IntKind.i64 0] 3)).alloc
                  (Obj.cells #[Value.int IntKind.i64 0] 3)).alloc (Obj.cells #[Value.int IntKind.i64 0] 25)).alloc (Obj.cells #[Value.int IntKind.i64 0] 3)).alloc (Obj.cells #[Value.string s] 9)) := by
    refine ⟨(((((Boxed.new w 3 _).alloc _).alloc _).alloc _).alloc _).alloc _, ?_, ?_, ?_, ?_, ?_⟩
    · have h := ((((Boxed.new (w.alloc (Obj.cells #[Value.int IntKind.i64 ↑most] 3)) 3 (.int .i64 0)).alloc (Obj.cells #[Value.int IntKind.i64 0] 3)).alloc (Obj.cells #[Value.int IntKind.i64 0] 25)).alloc (Obj.cells #[Value.int IntKind.i64 0] 3)).alloc (Obj.cells #[Value.string s] 9)
      simpa only [World.size_alloc] using h
    · have h := (((Boxed.new ((w.alloc (Obj.cells #[Value.int IntKind.i64 ↑most] 3)).alloc (Obj.cells #[Value.int IntKind.i64 0] 3)) 3 (.int .i64 0)).alloc (Obj.cells #[Value.int IntKind.i64 0] 25)).alloc (Obj.cells #[Value.int IntKind.i64 0] 3)).alloc (Obj.cells #[Value.string s] 9)
      simpa only [World.size_alloc] using h
    · have h := ((Boxed.new (((w.alloc (Obj.cells #[Value.int IntKind.i64 ↑most] 3)).alloc (Obj.cells #[Value.int IntKind.i64 0] 3)).alloc (Obj.cells #[Value.int IntKind.i64 0] 3)) 25 (.int .i64 0)).alloc (Obj.cells #[Value.int IntKind.i64 0] 3)).alloc (Obj.cells #[Value.string s] 9)
      simpa only [World.size_alloc] using h
    · have h := (Boxed.new ((((w.alloc (Obj.cells #[Value.int IntKind.i64 ↑most] 3)).alloc (Obj.cells #[Value.int IntKind.i64 0] 3)).alloc (Obj.cells #[Value.int IntKind.i64 0] 3)).alloc (Obj.cells #[Value.int IntKind.i64 0] 25)) 3 (.int .i64 0)).alloc (Obj.cells #[Value.string s] 9)
      simpa only [World.size_alloc] using h
    · have h := Boxed.new (((((w.alloc (Obj.cells #[Value.int IntKind.i64 ↑most] 3)).alloc (Obj.cells #[Value.int IntKind.i64 0] 3)).alloc (Obj.cells #[Value.int IntKind.i64 0] 3)).alloc (Obj.cells #[Value.int IntKind.i64 0] 25)).alloc (Obj.cells #[Value.int IntKind.i64 0] 3)) 9 (.string s)
      simpa only [World.size_alloc] using h
  have hB0 : Below w.heap.size w ((((((w.alloc (Obj.cells #[Value.int IntKind.i64 ↑most] 3)).alloc (Obj.cells #[Value.int IntKind.i64 0] 3)).alloc
                  (Obj.cells #[Value.int IntKind.i64 0] 3)).alloc (Obj.cells #[Value.int IntKind.i64 0] 25)).alloc (Obj.cells #[Value.int IntKind.i64 0] 3)).alloc (Obj.cells #[Value.string s] 9)) :=
    ((((((Below.refl _ w).alloc (Nat.le_refl _) _).alloc (by simp) _).alloc (by simp; omega) _).alloc (by simp; omega) _).alloc (by simp; omega) _).alloc (by simp; omega) _
  have hz0 : w.heap.size + 6 = ((((((w.alloc (Obj.cells #[Value.int IntKind.i64 ↑most] 3)).alloc (Obj.cells #[Value.int IntKind.i64 0] 3)).alloc
                  (Obj.cells #[Value.int IntKind.i64 0] 3)).alloc (Obj.cells #[Value.int IntKind.i64 0] 25)).alloc (Obj.cells #[Value.int IntKind.i64 0] 3)).alloc (Obj.cells #[Value.string s] 9)).heap.size := by simp
  refine wpIn_rangeFunc_ownG hro h1 (gf := 111) (lb := #[.pointer (some ⟨w.heap.size + 1 + 1 + 1 + 1 + 1, 0, none⟩)]) rfl h41 (enters_of Try.func111 (by kernel_rfl) rfl)
    (bytes_stops F (n - 1) h41 hro (by omega) (w.heap.size + 1 + 1 + 1 + 1 + 1) s hs _ (by omega) hC0.2.2.2.2.2.cell) (fun h k => k.trans h) (fun W l o o' hl h hc hw => (belowK_b (Nat.le_refl _) W l o o' hl h hc hw).cell (by rw [← hz0]; simp)) (Below.refl _ _) (fun _ => rfl)
    (fun pre W => ((∀ x ∈ pre, cont x) ∧ Cells s most w.heap.size (accA pre) 0 0 0 W) ∧ Below w.heap.size w W)
    (fun c pre W => (c = .ret ∧ ∃ ini last, pre = ini ++ [last] ∧ (∀ x ∈ ini, cont x) ∧ ¬ cont last ∧ Cells s most w.heap.size (accA pre) (out most (accA pre) last).1 (out most (accA pre) last).2.1 (out most (accA pre) last).2.2 W) ∧ Below w.heap.size w W)
    (OwnFrom.and (Own.from (fun z A B row h hg hr => ⟨h.1, cells_own s most w.heap.size accA (fun _ => 0) (fun _ => 0) (fun _ => 0) z A B row h.2 hg hr⟩) _) (ownFrom_below (Nat.le_refl _) (by simp; omega)))
    (fun c => OwnFrom.and (Own.from (fun z A B row h hg hr => by
      obtain ⟨hc, ini, last, e1, e2, e3, e4⟩ := h
      exact ⟨hc, ini, last, e1, e2, e3, cells_own s most w.heap.size (β := Unit) (fun _ => _) (fun _ => _) (fun _ => _) (fun _ => _) () A B row e4 hg hr⟩) _) (ownFrom_below (Nat.le_refl _) (by simp; omega)))
    ⟨⟨by simp, hC0⟩, hB0⟩
    (fun x => { tmps := #[Value.string s, Value.int IntKind.i64 ↑most, undef, Value.pointer (some { block := w.heap.size, off := 0 }),
          Value.pointer (some { block := w.heap.size + 1, off := 0 }),
          Value.pointer (some { block := w.heap.size + 1 + 1, off := 0 }),
          Value.pointer (some { block := w.heap.size + 1 + 1 + 1, off := 0 }),
          Value.pointer (some { block := w.heap.size + 1 + 1 + 1 + 1, off := 0 }), .int .i64 (x.1.1 : Int), .int .u8 (x.1.2.toNat : Int), undef, Value.string s,
          Value.func (Fn.func 111) #[] #[Value.pointer (some { block := w.heap.size + 1 + 1 + 1 + 1 + 1, off := 0 })],
          .int .i64 (x.1.1 : Int), .int .u8 (x.1.2.toNat : Int), undef, undef, undef, undef, undef, undef, undef, undef, undef, undef, undef, undef, undef, undef,
          undef, undef, undef, undef, undef, undef, undef, undef, undef, undef, undef, undef, undef, undef, undef,
          undef, undef], defers := [] }) ?assign ?body ?done ?stop
  case assign =>
    intro l x W K hK
    gi_wp2
    exact hK
  case body =>
    rintro l pre x W ⟨⟨hp, c0, c1, c2, c3, c4, c5⟩, hB⟩ _
    have hd : 1 ≤ n - 1 - 1 := by omega
    have hmx : Try.prog.follows .mixedOrders = true := by kernel_rfl
    have HP := Lib.hid hp
    clear hp hC0 hB0
    have hsh := sh_run x
    have d0 := c0.cell
    have d4 := c4.cell
    have f4 := c4.frozen
    have hx1 := x.2
    have hx2 := x.1.2.toNat_lt
    gi_wp2
    gi_cut [] from 15 (fun wx => Cells s most w.heap.size (stepA (accA pre) x) 0 0 0 wx ∧ KeepsOthers W wx ∧ wx.cell? ⟨w.heap.size + 1 + 1 + 1 + 1 + 1, 0, none⟩ = W.cell? ⟨w.heap.size + 1 + 1 + 1 + 1 + 1, 0, none⟩ ∧ Below w.heap.size w wx)
    case first =>
      have HC : Hid (Cells s most w.heap.size (accA pre) 0 0 0 W) := ⟨c0, c1, c2, c3, c4, c5⟩
      have HB := Lib.hid hB
      clear c0 c1 c2 c3 c4 c5 hB
      gi_region_with_o (fail)
      all_goals gi_wp2
      all_goals gi_meet
      all_goals exact ⟨HC.out.setA _, (KeepsOthers.setCell _ _ _).trans (KeepsOthers.drew _), World.cell?_setCell_other _ _ _ _ (by simp), (HB.out.setCell (by simp; omega) _).drew⟩
    case rest =>
      clear d4 f4 c0 c1 c2 c3 c4 c5 hB d0
      obtain ⟨hC, hKO, hkp, hB⟩ := hcut
      have HC := Lib.hid hC
      obtain ⟨c0, c1, c2, c3, c4, c5⟩ := hC
      have d0 := c0.cell
      have d1 := c1.cell
      have d2 := c2.cell
      have d3 := c3.cell
      have d4 := c4.cell
      have f1 := c1.frozen
      have f2 := c2.frozen
      have f3 := c3.frozen
      clear c0 c1 c2 c3 c4 c5
      obtain ⟨v, hv⟩ : ∃ v, stepA (accA pre) x = v := ⟨_, rfl⟩
      rw [hv] at HC d4
      have HV := Lib.hid hv
      clear hv hsh hd hmx
      by_cases hb : 128 ≤ x.1.2.toNat
      · by_cases hi : x.1.1 + 1 < 9
        · gi_wp2
          exact ⟨hKO.from _, hkp, ⟨fun y hy => (List.mem_append.1 hy).elim (HP.out y) (fun e => by simp at e; subst e; exact ⟨hb, hi⟩), by rw [accA_snoc, HV.out]; exact HC.out⟩, hB⟩
        · gi_wp2
          refine ⟨(hKO.trans (keeps3 wc _ _ _ _ _ _)).from _, ⟨rfl, pre, x, rfl, HP.out, fun h => hi h.2, ?_⟩, ((hB.setCell (by simp) _).setCell (by simp; omega) _).setCell (by simp; omega) _⟩
          have ho : out most (accA (pre ++ [x])) x = (0, 0, 12) := if_pos (.inl hb)
          rw [ho, accA_snoc, HV.out]
          exact HC.out.setR 0 0 12
      · by_cases hz : x.1.2.toNat = 0 ∧ 1 < x.1.1 + 1
        · obtain ⟨hz0, hz1⟩ := hz
          have ho : Hid (out most (accA (pre ++ [x])) x = (0, 0, 12)) := if_pos (.inr (.inl ⟨hz0, hz1⟩))
          have hz2 : ((x.1.2.toNat : Int) == 0) = true := beq_iff_eq.2 (by omega)
          clear hz0
          gi_wp2
          refine ⟨(hKO.trans (keeps3 wc _ _ _ _ _ _)).from _, ⟨rfl, pre, x, rfl, HP.out, fun h => hb h.1, ?_⟩, ((hB.setCell (by simp) _).setCell (by simp; omega) _).setCell (by simp; omega) _⟩
          rw [ho.out, accA_snoc, HV.out]
          exact HC.out.setR 0 0 12
        · have hzz : (x.1.1 ≤ 0 ∧ ((x.1.2.toNat : Int) == 0) = true) ∨ (0 ≤ x.1.1 ∧ ((x.1.2.toNat : Int) == 0) = false) := by
            by_cases hk0 : x.1.2.toNat = 0
            · exact .inl ⟨by omega, beq_iff_eq.2 (by omega)⟩
            · exact .inr ⟨by omega, beq_eq_false_iff_ne.2 (by omega)⟩
          by_cases hm2 : (most : Int) < v
          · have ho : Hid (out most (accA (pre ++ [x])) x = (0, 0, 12)) := by rw [accA_snoc, HV.out]; exact if_pos (.inr (.inr hm2))
            clear hz
            rcases hzz with ⟨g1, g2⟩ | ⟨g1, g2⟩
            all_goals
              gi_wp2
              refine ⟨(hKO.trans (keeps3 wc _ _ _ _ _ _)).from _, ⟨rfl, pre, x, rfl, HP.out, fun h => hb h.1, ?_⟩, ((hB.setCell (by simp) _).setCell (by simp; omega) _).setCell (by simp; omega) _⟩
              rw [ho.out, accA_snoc, HV.out]
              exact HC.out.setR 0 0 12
          · have ho : Hid (out most (accA (pre ++ [x])) x = (v, (x.1.1 : Int) + 1, 0)) := by rw [accA_snoc, HV.out]; exact if_neg (by omega)
            clear hz
            rcases hzz with ⟨g1, g2⟩ | ⟨g1, g2⟩
            all_goals
              gi_wp2
              refine ⟨(hKO.trans (keeps3 wc _ _ _ _ _ _)).from _, ⟨rfl, pre, x, rfl, HP.out, fun h => hb h.1, ?_⟩, ((hB.setCell (by simp) _).setCell (by simp; omega) _).setCell (by simp; omega) _⟩
              rw [ho.out, accA_snoc, HV.out]
              exact HC.out.setR v ((x.1.1 : Int) + 1) 0
  case done =>
    rintro D ys W hD hS ⟨⟨hp, hC⟩, hB⟩ hK
    have hrd : Hid (rd most 0 0 s.data.toList = (0, 0, 11)) := rd_all hs hS hp
    have HC := Lib.hid hC
    obtain ⟨c0, c1, c2, c3, c4, c5⟩ := hC
    have d1 := c1.cell
    have d2 := c2.cell
    have d3 := c3.cell
    have f1 := c1.frozen
    have f2 := c2.frozen
    have f3 := c3.frozen
    clear c0 c1 c2 c3 c4 c5 hp hC0 hB0
    gi_wp2
    have hK' := (keeps3 W ⟨w.heap.size + 1, 0, none⟩ ⟨w.heap.size + 1 + 1, 0, none⟩ ⟨w.heap.size + 1 + 1 + 1, 0, none⟩ (.int .i64 0) (.int .i64 0) (.int .i64 11)).same D _ hK rfl
    refine ⟨by simp, .inl ⟨_, _, rfl, run_takeDeferred hK', ?_⟩⟩
    have hC2 := HC.out.setR 0 0 11
    have r1 := cell_kept hC2.2.1.cell (grownBy_putObj' _ D (.deferred none)) (fun r e => by cases e; exact ⟨_, hK', rfl⟩)
    have r2 := cell_kept hC2.2.2.1.cell (grownBy_putObj' _ D (.deferred none)) (fun r e => by cases e; exact ⟨_, hK', rfl⟩)
    have r3 := cell_kept hC2.2.2.2.1.cell (grownBy_putObj' _ D (.deferred none)) (fun r e => by cases e; exact ⟨_, hK', rfl⟩)
    refine ⟨.tuple #[.int .i64 0, .int .i64 0, .int .i64 11], ?_, by rw [hrd.out]; rfl, (((hB.setCell (by simp) _).setCell (by simp; omega) _).setCell (by simp; omega) _).trans (belowK_b (w := w) (Nat.le_refl _) _ D _ _ (by simp at hD; omega) hK' rfl rfl)⟩
    simp [results, Try.f93, go_sem, r1, r2, r3]
  case stop =>
    rintro D c pre W hD hS ⟨⟨rfl, ini, last, e1, e2, e3, hC⟩, hB⟩ hK
    have hrd : Hid ((out most (accA pre) last) = (((rd most 0 0 s.data.toList).1 : Int), ((rd most 0 0 s.data.toList).2.1 : Int), ((rd most 0 0 s.data.toList).2.2 : Int))) := rd_stop hs hS e1 e2 e3
    have HC := Lib.hid hC
    clear e1 e2 e3 hC hC0 hB0
    gi_wp2
    refine ⟨by simp, .inl ⟨_, _, rfl, run_takeDeferred hK, ?_⟩⟩
    have hC2 := HC.out
    rw [hrd.out] at hC2
    have r1 := cell_kept hC2.2.1.cell (grownBy_putObj' _ D (.deferred none)) (fun r e => by cases e; exact ⟨_, hK, rfl⟩)
    have r2 := cell_kept hC2.2.2.1.cell (grownBy_putObj' _ D (.deferred none)) (fun r e => by cases e; exact ⟨_, hK, rfl⟩)
    have r3 := cell_kept hC2.2.2.2.1.cell (grownBy_putObj' _ D (.deferred none)) (fun r e => by cases e; exact ⟨_, hK, rfl⟩)
    refine ⟨.tuple #[.int .i64 (rd most 0 0 s.data.toList).1, .int .i64 (rd most 0 0 s.data.toList).2.1, .int .i64 (rd most 0 0 s.data.toList).2.2], ?_, rfl, hB.trans (belowK_b (w := w) (Nat.le_refl _) _ D _ _ (by simp at hD; omega) hK rfl rfl)⟩
    simp [results, Try.f93, go_sem, r1, r2, r3]

/-- readUpTo, as a plain call. -/
theorem upTo_any (s : ByteArray) (hs : s.size ≤ 4294967000) (most : Nat) (w : World) :
    Calls Try.prog 93 #[.string s, .int .i64 most] w fun e W' => e = .returned (.tuple #[.int .i64 ((rd most 0 0 s.data.toList).1 : Nat), .int .i64 ((rd most 0 0 s.data.toList).2.1 : Nat), .int .i64 ((rd most 0 0 s.data.toList).2.2 : Nat)]) ∧ Below w.heap.size w W' :=
  (callsIn_wide (n := 3)).1 (upTo_in Fence.wide 3 trivial trivial trivial rfl (by omega) s hs most w)
end Go.Proofs.Ytpinmmmbmhfmiaa
