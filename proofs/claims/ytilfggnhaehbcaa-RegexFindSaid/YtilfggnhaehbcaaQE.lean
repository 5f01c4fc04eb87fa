/- Layer 6: expression of the automaton. -/
import Derived.Test.YtilfggnhaehbcaaQC
set_option linter.unusedVariables false
set_option linter.unusedSimpArgs false
namespace Go.Proofs.Ytilfggnhaehbcaa.Rx
open Go.RowKit
theorem info3 : (Try.prog.info? 3).map (fun i => (i.zero, i.size, i.bytes)) = some (some (.int .i64 0), 1, 8) := by kernel_rfl
theorem _root_.Go.World.ownsRow.on_but {S : Nat → Prop} {w w' : World} {base : Nat} {e : TypeId} {size : Nat} {v : Value} {n : Nat} {xs : List Value} (h : w.ownsRow base e size v n xs) (k : But S w w') (hs : ∀ g, v.ownBlock = some g → ¬ S g) : w'.ownsRow base e size v n xs := by
  refine ⟨h.1, ?_⟩
  rcases h.2 with h0 | ⟨g, cap, cur, q, h1, h2, h3⟩
  · exact .inl h0
  · exact .inr ⟨g, cap, cur, q, h1, (k.block g (Array.getElem?_eq_some_iff.1 h2).1 (hs g (by rw [q]; rfl))).trans h2, h3⟩
/-- Numbers as cells. -/
def numC (l : List Nat) : List Value := l.map fun (n : Nat) => Value.int .i64 (n : Int)
theorem numC_snoc (l : List Nat) (n : Nat) : numC (l ++ [n]) = numC l ++ [.int .i64 (n : Int)] := by simp [numC]
theorem numC_len (l : List Nat) : (numC l).length = l.length := by simp [numC]
/-- What the states of an alternative are told. -/
def Alt73 (a : List Pe) : Prop := ∀ (B ab : Nat) (v : Value) (T : Nat → Prop) (M : List Nd) (nx : Nat) (A : Option Addr) (cap : Nat) (w : World) (TT : Nat → Prop), Aut w B ab v T M → FsV w TT A a → (∀ n, TT n → n < B) → nx ≤ 1000000000 → M.length + 50000 * wA a ≤ 900000000 →
  Calls Try.prog 73 #[.pointer (some ⟨ab, 0, none⟩), .slice A a.length cap, .int .i64 (nx : Int)] w (AutP ab B v T w (cA a M nx).1 (cA a M nx).2)
theorem wE_take (x : List (List Pe)) (k : Nat) (hk : k < x.length) : wE (x.take k) + wA x[k] ≤ wE x := by
  have h : x = x.take k ++ x[k] :: x.drop (k + 1) := by rw [← List.drop_eq_getElem_cons hk, List.take_append_drop]
  have h2 := congrArg wE h
  rw [wE_append, wE] at h2
  omega
theorem cB_take (x : List (List Pe)) (k : Nat) (hk : k < x.length) (M : List Nd) (nx : Nat) : cB (x.take (k + 1)) M nx = ((cB (x.take k) M nx).1 ++ [(cA x[k] (cB (x.take k) M nx).2 nx).1], (cA x[k] (cB (x.take k) M nx).2 nx).2) := by
  rw [List.take_add_one, List.getElem?_eq_getElem hk]
  exact cB_snoc _ _ _ _
/-- A row of numbers is none of an automaton's. -/
theorem own_ne {w : World} {B ab base n : Nat} {v u : Value} {T : Nat → Prop} {M : List Nd} {xs : List Value} (ha : Aut w B ab v T M) (h : w.ownsRow base 3 1 u n xs) : ∀ g, u.ownBlock = some g → g ≠ ab ∧ some g ≠ v.ownBlock := fun g hg => by
  rcases h.2 with ⟨rfl, _⟩ | ⟨g', cap, cur, rfl, _, h2, _⟩
  · cases hg
  · have e : some g' = some g := hg
    injection e with e
    subst e
    obtain ⟨n0, hb⟩ := ha.blk
    obtain ⟨ys, hr, _⟩ := ha.row
    refine ⟨fun e => ?_, fun e => ?_⟩
    · subst e
      have hb : w.heap[g']? = _ := hb
      rw [h2] at hb
      injection hb with hb
      injection hb with _ q _
      cases q
    · rcases hr.2 with ⟨rfl, _⟩ | ⟨g2, cap2, cur2, rfl, _, h3, _⟩
      · cases e
      · have e : some g' = some g2 := e
        injection e with e
        subst e
        rw [h2] at h3
        injection h3 with h3
        injection h3 with _ q _
        cases q
/-- A slice of numbers of the call's own, as a fork's. -/
theorem own_fork {w : World} {u : Value} {l : List Nat} {base : Nat} (h : w.ownsRow base 3 1 u l.length (numC l)) :
    ∃ A c, u = .slice A l.length c ∧ NdV (w.alloc (.cells #[.slice A l.length c] 78)) (fun n => n = w.heap.size ∨ some n = u.ownBlock) (.func (.func 82) #[] #[.pointer (some ⟨w.heap.size, 0, none⟩)]) (.fork l) := by
  have hbx := fun u => (Blk.new w 78 [u]).cell 0
  rcases h.2 with ⟨rfl, h0⟩ | ⟨g, cap, cur, rfl, h1, h2, h3⟩
  · exact ⟨none, 0, by rw [h0], w.heap.size, none, 0, rfl, .inl rfl, hbx _, fun hne => absurd (List.length_eq_zero_iff.1 h0) hne⟩
  · refine ⟨_, _, rfl, w.heap.size, _, _, rfl, .inl rfl, hbx _, fun hne => ⟨g, rfl, .inr rfl, fun j hj => ?_⟩⟩
    have hc := World.ownsRow.cells (g := g) h rfl j (.int .i64 (l[j] : Nat)) (by simp [numC, List.getElem?_eq_getElem hj])
    rw [Addr.add_mid, Nat.zero_add] at hc
    rw [World.cell?_alloc_lt _ _ _ (Array.getElem?_eq_some_iff.1 h2).1]
    exact hc
set_option maxHeartbeats 4000000 in
set_option maxRecDepth 100000 in
theorem expr_any (x : List (List Pe)) (H : ∀ a ∈ x, Alt73 a) : Expr65 x := by
  intro B ab v T M nx u w TT ha hu hTT hnx hM
  obtain ⟨⟨hx0, hxl⟩, b, cap, rfl, hTb, hal⟩ := hu
  have HH : Hid (∀ k (hk : k < x.length), Alt73 x[k]) := fun k hk => H _ (List.getElem_mem hk)
  have HTT := Lib.hid hTT
  have HAL := Lib.hid hal
  have HTB := Lib.hid hTb
  have HA := Lib.hid ha
  have HLT : Hid (B ≤ ab ∧ ab < w.heap.size) := ⟨ha.base, ha.lt⟩
  have HRL : Hid (∀ k, v.ownBlock = some k → B ≤ k) := fun k hk => (ha.rowLt k hk).1
  obtain ⟨i0, hi, hz0, hz1, hz2⟩ := info_parts info3
  have HI := Lib.hid hi
  have HZ0 := Lib.hid hz0
  have HZ1 := Lib.hid hz1
  have HZ2 := Lib.hid hz2
  have HM := Lib.hid hM
  have mono : Hid (∀ g, g < B → ¬ AutS ab v g) := fun g hg hs => by
    have := HLT.out
    rcases hs with hs | hs
    · omega
    · have := HRL.out g hs.symm
      omega
  clear hi hz0 hz1 hz2 ha hTT hal hTb H hx0 hM
  show Calls _ _ _ _ (AutP ab B v T w (cB x M nx).2.length ((cB x M nx).2 ++ [.fork (cB x M nx).1]))
  go_enter Try.func65, Try.ntmps65
  go_wp2_with fail
  go_loopw [7, 12] (fun vf vi wr => ∃ (k : Nat) (v' : Value) (T' : Nat → Prop), k ≤ x.length ∧ vi = .int .i64 k ∧ Hid (wr.ownsRow w.heap.size 3 1 vf k (numC (cB (x.take k) M nx).1)) ∧ Hid (Aut wr B ab v' T' (cB (x.take k) M nx).2) ∧ Hid (But (AutS ab v) w wr) ∧ Hid (RowTo w v v') ∧ Hid (∀ n, T' n → T n ∨ w.heap.size ≤ n) ∧ Hid (∀ g, vf.ownBlock = some g → ¬ T' g)) (fun _ vi _ => x.length - (intOf vi).toNat)
  case atStart => exact ⟨0, v, T, Nat.zero_le _, rfl, by (rw [List.take_zero, cB]; exact World.ownsRow_nil _ _ _ _), by (rw [List.take_zero, cB]; exact HA.out), But.refl _ _, RowTo.refl _ _, fun n hn => .inl hn, fun g hg => by cases hg⟩
  case round =>
    clear HA
    obtain ⟨k, v', T', hk, rfl, HO, HA, HB, HR, HT, HNT⟩ := hrel
    by_cases hlt : k < x.length
    · obtain ⟨A, c2, hcell0, hfs0⟩ := HAL.out.at_ k hlt
      rw [Nat.zero_add] at hcell0
      have HCW : Hid (∀ g j, g < B → wr.cell? ⟨g, j, none⟩ = w.cell? ⟨g, j, none⟩) := fun g j hg => HB.out.cell (p := ⟨g, j, none⟩) (by have := HLT.out; show g < _; omega) (mono.out g hg)
      have hcell : wr.cell? ⟨b, k, none⟩ = some (.slice A x[k].length c2) := (HCW.out b k (HTT.out b HTB.out)).trans hcell0
      have HLN : Hid ((cB (x.take k) M nx).2.length = M.length + wE (x.take k)) := cB_len _ _ _
      have HWT := Lib.hid (wE_take x k hlt)
      have CA : Hid (Calls Try.prog 73 #[.pointer (some ⟨ab, 0, none⟩), .slice A x[k].length c2, .int .i64 (nx : Int)] wr (AutP ab B v' T' wr (cA x[k] (cB (x.take k) M nx).2 nx).1 (cA x[k] (cB (x.take k) M nx).2 nx).2)) :=
        HH.out k hlt B ab v' T' _ nx A c2 wr TT HA.out (FsV.keep hfs0 (fun _ h => h) (fun g j hg => HCW.out g j (HTT.out g hg))) HTT.out hnx (by have := HLN.out; have := HWT.out; have := HM.out; omega)
      have HE := Lib.hid (cB_take x k hlt M nx)
      clear hcell0 hfs0 HCW
      generalize x[k] = a at *
      generalize cB (x.take k) M nx = q at *
      generalize cA a q.2 nx = r at *
      obtain ⟨fs, M1⟩ := q
      obtain ⟨i1, M2⟩ := r
      go_wp2_with (first
        | (go_at_call 73; (with_reducible refine CA.out.mono ?_); rintro e w2 ⟨rfl, v2, T2, a2, b2, r2, t2⟩; have O2 : Hid (w2.ownsRow w.heap.size 3 1 u7 k (numC fs)) := (HO.out.on_but b2.out (fun g hg hs => by (have h := own_ne HA.out HO.out g hg; rcases hs with hs | hs; exact h.1 hs; exact h.2 hs))))
        | (at_builtin; refine wpList_append_own_at _ rfl (.tmp 16) (.tmp 21) 78 rfl w.heap.size 3 i0 (.int .i64 0) 1 8 Try.underlying78 HI.out HZ0.out HZ1.out HZ2.out rfl (by decide) u7 k (numC fs) rfl (O2.out.alloc _) ⟨w2.heap.size, 0, none⟩ 1 1 [.int .i64 (i1 : Int)] rfl rfl (fun j u hu => by have h := (Blk.new w2 3 [.int .i64 (i1 : Int)]).range j u hu; rw [Nat.zero_add] at h; rw [Addr.add_mid, Nat.zero_add]; exact h) (by simp [Value.oneCell']) (by simp only [maxLen]; omega) (by omega) (by have := HB.out.size; have := b2.out.size; rw [World.size_alloc]; omega) ?_; intro v4 w4 ho4 hg4 _ hor4; have O4 := Lib.hid ho4; have G4 := Lib.hid hg4; have OR4 := Lib.hid hor4; clear ho4 hg4 hor4))
      have SZ : Hid (w.heap.size ≤ wr.heap.size ∧ wr.heap.size ≤ w2.heap.size ∧ w2.heap.size + 1 ≤ w4.heap.size) := ⟨HB.out.size, b2.out.size, by have := G4.out.size; rw [World.size_alloc] at this; exact this⟩
      have NT2 : Hid (∀ g, u7.ownBlock = some g → ¬ T2 g) := fun g hg ht => by
        rcases t2.out g ht with h | h
        · exact HNT.out g hg h
        · have := (World.ownsRow.lt HO.out g hg).2
          omega
      have A4 : Hid (Aut w4 B ab v2 T2 M2) := by
        have h1 : Aut (w2.alloc (.cells #[.int .i64 (i1 : Int)] 3)) B ab v2 T2 M2 := a2.out.on (S := fun _ => False) (But.of_below ((Below.refl _ _).alloc (Nat.le_refl _) _)) (fun _ h => h.elim)
        exact h1.off (S := fun n => u7.ownBlock = some n) ⟨G4.out.os, G4.out.tape, G4.out.output, G4.out.size, fun n hn hs => G4.out.block n hn (fun e => hs e.symm)⟩ (fun n hs hn => by
          have h := own_ne a2.out O2.out n hs
          exact ⟨h.1, h.2, NT2.out n hs⟩)
      have B4 : Hid (But (AutS ab v) w w4) := ((HB.out.aut b2.out HR.out).alloc _).grown G4.out (fun n e hn => by have := (World.ownsRow.lt HO.out n e).1; omega)
      have R4 : Hid (RowTo w v v2) := HR.out.trans r2.out HB.out.size
      have T4 : Hid (∀ n, T2 n → T n ∨ w.heap.size ≤ n) := fun n hn => by
        rcases t2.out n hn with h | h
        · exact HT.out n h
        · exact .inr (Nat.le_trans SZ.out.1 h)
      have NT4 : Hid (∀ g, v4.ownBlock = some g → ¬ T2 g) := fun g hg ht => by
        rcases OR4.out with h | h
        · exact NT2.out g (by rw [← h]; exact hg) ht
        · rw [h] at hg
          injection hg with hg
          rw [World.size_alloc] at hg
          have := (a2.out.sub g ht).2.1
          omega
      have O4' : Hid (w4.ownsRow w.heap.size 3 1 v4 (k + 1) (numC (cB (x.take (k + 1)) M nx).1)) := by
        have h := HE.out
        show World.ownsRow _ _ _ _ _ _ _
        rw [h, numC_snoc]
        exact O4.out
      have A4' : Hid (Aut w4 B ab v2 T2 (cB (x.take (k + 1)) M nx).2) := by
        have h := HE.out
        show Aut _ _ _ _ _ _
        rw [h]
        exact A4.out
      clear A4 O4 HE NT2 SZ G4 OR4 O2 a2 b2 r2 t2
      go_roundw
      case rel => exact ⟨k + 1, v2, T2, by omega, by go_num, O4', A4', B4, R4, T4, NT4⟩
      case measure => simp [intOf]; omega
    · obtain rfl : k = x.length := by omega
      have HLN : Hid ((cB x M nx).2.length = M.length + wE x) := cB_len _ _ _
      have HCN : Hid ((cB x M nx).1.length = x.length) := cB_count _ _ _
      have HO' := HO.out
      have HA' := HA.out
      rw [List.take_of_length_le (Nat.le_refl _)] at HO' HA'
      generalize cB x M nx = q at *
      obtain ⟨fs, M1⟩ := q
      have OF : Hid (wr.ownsRow w.heap.size 3 1 u7 fs.length (numC fs)) := by
        have h : fs.length = x.length := HCN.out
        rw [h]
        exact HO'
      have AF := Lib.hid HA'
      obtain ⟨A, c, hu7, hnd⟩ := own_fork OF.out
      have ND := Lib.hid hnd
      have OB : Hid (∀ g, u7.ownBlock = some g → w.heap.size ≤ g ∧ g < wr.heap.size ∧ g ≠ ab ∧ some g ≠ v'.ownBlock) := fun g hg => ⟨(World.ownsRow.lt OF.out g hg).1, (World.ownsRow.lt OF.out g hg).2, (own_ne AF.out OF.out g hg).1, (own_ne AF.out OF.out g hg).2⟩
      have TAA : Hid (∀ n, (n = wr.heap.size ∨ some n = u7.ownBlock) → TA (wr.alloc (.cells #[.slice A fs.length c] 78)) B ab v' n) := fun n hn => by
        have hl := HLT.out
        have hs := HB.out.size
        rcases hn with rfl | hn
        · exact fresh_ta (w1 := wr) (w2 := wr.alloc (.cells #[.slice A fs.length c] 78)) AF.out (Nat.le_refl _) _ ⟨Nat.le_refl _, by simp⟩
        · have h := OB.out n hn.symm
          exact ⟨by omega, by rw [World.size_alloc]; omega, h.2.2.1, h.2.2.2⟩
      have AQ : Hid (Aut (wr.alloc (.cells #[.slice A fs.length c] 78)) B ab v' T' M1) := AF.out.on (S := fun _ => False) (But.of_below ((Below.refl _ _).alloc (Nat.le_refl _) _)) (fun _ h => h.elim)
      have CAD : Hid (Calls Try.prog 66 #[.pointer (some ⟨ab, 0, none⟩), .func (.func 82) #[] #[.pointer (some ⟨wr.heap.size, 0, none⟩)]] (wr.alloc (.cells #[.slice A fs.length c] 78)) (AddP ab B v' (fun n => T' n ∨ (n = wr.heap.size ∨ some n = u7.ownBlock)) (wr.alloc (.cells #[.slice A fs.length c] 78)) M1.length (M1 ++ [.fork fs]))) :=
        add_any_ ab B v' _ T' _ M1 (.fork fs) _ AQ.out ND.out TAA.out (by have h : M1.length = M.length + wE x := HLN.out; have := HM.out; omega)
      have TF : Hid (∀ n, (T' n ∨ (n = wr.heap.size ∨ some n = u7.ownBlock)) → T n ∨ w.heap.size ≤ n) := fun n hn => by
        have hs := HB.out.size
        rcases hn with hn | rfl | hn
        · exact HT.out n hn
        · exact .inr hs
        · exact .inr (OB.out n hn.symm).1
      clear HO' HA' HO HA hnd HNT HT TAA AQ ND OB OF
      subst hu7
      go_wp2_with (first
        | (go_at_call 74; (with_reducible refine (fork_any _ _ _ _).mono ?_); rintro e w' ⟨rfl, rfl⟩)
        | (go_at_call 66; (with_reducible refine CAD.out.mono ?_); rintro e w5 ⟨rfl, v5, a5, b5, r5⟩))
      go_ret
      refine ⟨rfl, v5, _, a5, ?_, ?_, TF.out⟩
      · exact (HB.out.alloc _).aut b5.out HR.out
      · exact HR.out.trans (r5.out.wk (by rw [World.size_alloc]; omega)) HB.out.size
end Go.Proofs.Ytilfggnhaehbcaa.Rx
