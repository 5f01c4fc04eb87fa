/- Layer 10: the walk of the reference's Decode. -/
import Derived.Test.YtpinmmmbmhfmiaaDtF
import Derived.Test.YtpinmmmbmhfmiaaDtI
set_option linter.unusedVariables false
set_option linter.unusedSimpArgs false
namespace Go.Proofs.Ytpinmmmbmhfmiaa.Dt
open Go.RowKit Go.Sort Dc
/-- How many cells a slice has. -/
def slLen : Value → Nat
  | .slice _ n _ => n
  | _ => 0
def DecQ (s : List UInt8) (w : World) (e : Ending) (w' : World) : Prop := ∃ v, e = .returned (.tuple #[v, .int .i64 (decO s).2]) ∧ OwnS w.heap.size w' v (decO s).1 ∧ Below w.heap.size w w'
theorem DecQ.bad {s : List UInt8} {w w' : World} {v : Value} (h : decO s = ([], 12)) (ho : OwnS w.heap.size w' v []) (hb : Below w.heap.size w w') : DecQ s w (.returned (.tuple #[v, .int .i64 12])) w' := by unfold DecQ; rw [h]; exact ⟨v, rfl, ho, hb⟩
theorem DecQ.ok {s : List UInt8} {w w' : World} {v : Value} {l : List BA} (h : decO s = (l, 0)) (ho : OwnS w.heap.size w' v l) (hb : Below w.heap.size w w') : DecQ s w (.returned (.tuple #[v, .int .i64 0])) w' := by unfold DecQ; rw [h]; exact ⟨v, rfl, ho, hb⟩
theorem decP_no1 {s : List UInt8} (h : rdN 2000 s = none) : decP s = none := by unfold decP; rw [h]
theorem decP_no2 {s r : List UInt8} {n : Nat} (h : rdN 2000 s = some (n, r)) (h2 : rdN 2000 r = none) : decP s = none := by unfold decP; rw [h]; dsimp only; rw [h2]
theorem decP_no3 {s r q : List UInt8} {n k : Nat} (h : rdN 2000 s = some (n, r)) (h2 : rdN 2000 r = some (k, q)) (h3 : wordsP k [] q = none) : decP s = none := by unfold decP; rw [h]; dsimp only; rw [h2]; dsimp only; rw [h3]
theorem decP_go {s r q z : List UInt8} {n k : Nat} {d : List BA} (h : rdN 2000 s = some (n, r)) (h2 : rdN 2000 r = some (k, q)) (h3 : wordsP k [] q = some (d, z)) : decP s = runsP d n [] z := by unfold decP; rw [h]; dsimp only; rw [h2]; dsimp only; rw [h3]
theorem runs_end {d : List BA} {k : Nat} {out : List BA} {s : List UInt8} (h : s = [] ∨ k = 0) : runsP d k out s = some out := by rw [runsP, if_pos h]
theorem runs_no1 {d : List BA} {k : Nat} {out : List BA} {s : List UInt8} (h : ¬ (s = [] ∨ k = 0)) (h1 : rdN ((d.length : Int) - 1) s = none) : runsP d k out s = none := by rw [runsP, if_neg h, h1]
theorem runs_no2 {d : List BA} {k i : Nat} {out : List BA} {s r : List UInt8} (h : ¬ (s = [] ∨ k = 0)) (h1 : rdN ((d.length : Int) - 1) s = some (i, r)) (h2 : rdN ((k : Int) - 1) r = none) : runsP d k out s = none := by rw [runsP, if_neg h, h1]; dsimp only; rw [h2]
theorem runs_go {d : List BA} {k i m : Nat} {out : List BA} {s r q : List UInt8} (h : ¬ (s = [] ∨ k = 0)) (h1 : rdN ((d.length : Int) - 1) s = some (i, r)) (h2 : rdN ((k : Int) - 1) r = some (m, q)) :
    runsP d k out s = runsP d (k - (m + 1)) (out ++ List.replicate (m + 1) (d[i]?.getD ⟨#[]⟩)) q := by
  have := rdN_most h2
  rw [runsP, if_neg h, h1]; dsimp only; rw [h2]; dsimp only; rw [dif_pos (by omega)]
theorem words_facts : ∀ (n : Nat) (last s : List UInt8) (d : List BA) (z : List UInt8), wordsP n last s = some (d, z) → d.length = n ∧ ∀ x ∈ d, x.size ≤ 1000
  | 0, _, _, d, z, h => by
    rw [wordsP] at h
    cases h
    exact ⟨rfl, fun x hx => by cases hx⟩
  | n + 1, last, s, d, z, h => by
    rw [wordsP] at h
    cases h1 : rdN last.length s with
    | none => rw [h1] at h; cases h
    | some x =>
      obtain ⟨p, r⟩ := x
      rw [h1] at h
      dsimp only at h
      cases h2 : rdN 1000 r with
      | none => rw [h2] at h; cases h
      | some y =>
        obtain ⟨m, q⟩ := y
        rw [h2] at h
        dsimp only at h
        by_cases h3 : q.length < m ∨ 1000 < p + m
        · rw [if_pos h3] at h; cases h
        · rw [if_neg h3] at h
          cases h4 : wordsP n (last.take p ++ q.take m) (q.drop m) with
          | none => rw [h4] at h; cases h
          | some u =>
            obtain ⟨d2, z2⟩ := u
            rw [h4] at h
            cases h
            have ih := words_facts n _ _ _ _ h4
            refine ⟨by rw [List.length_cons, ih.1], fun x hx => ?_⟩
            rcases List.mem_cons.1 hx with rfl | hx
            · rw [mk_size']
              have := take2_len last q p m
              omega
            · exact ih.2 x hx
theorem size_nil' {s : BA} (h : s.size = 0) : s.data.toList = [] := List.length_eq_zero_iff.1 (by rw [show s.data.toList.length = s.size from Array.length_toList]; exact h)
theorem size_cons' {s : BA} (h : 0 < s.size) : s.data.toList ≠ [] := fun e => by
  have h2 : s.data.toList.length = s.size := Array.length_toList
  rw [e] at h2
  simp only [List.length_nil] at h2
  omega
theorem neq_no {a b : BA} (h : a = b) : (a.toList != b.toList) = false := by rw [bne, eq_yes h]; rfl
theorem neq_yes {a b : BA} (h : a ≠ b) : (a.toList != b.toList) = true := by rw [bne, eq_no h]; rfl
set_option maxHeartbeats 8000000 in
set_option maxRecDepth 100000 in
theorem dec_ref_any (s : BA) (w : World) : Calls Try.prog 18 #[.string s] w (DecQ s.data.toList w) := by
  obtain ⟨i0, hi, hz0, hz1, hz2⟩ := info_parts infoS
  have HNN : Hid (∀ (m : Int) (v : World), Calls Try.prog 42 #[.string ⟨#[]⟩, .int .i64 m] v fun e w' => e = .returned (.tuple #[.int .i64 0, .string ⟨#[]⟩, .bool false]) ∧ Below v.heap.size v w') := Lib.hid fun m v => by
    have h := read_ref_any ⟨#[]⟩ m v
    rwa [rdOut_none (rdN_nil _)] at h
  have HR1 : Hid (∀ v : World, Calls Try.prog 42 #[.string s, .int .i64 2000] v fun e w' => e = .returned (rdOut 2000 s) ∧ Below v.heap.size v w') := Lib.hid fun v => read_ref_any s 2000 v
  have B0 := Lib.hid (Below.refl w.heap.size w)
  cases h1 : rdN 2000 s.data.toList with
  | none =>
    have HE := Lib.hid (decO_none (decP_no1 h1))
    rw [rdOut_none h1] at HR1
    clear h1
    go_enter Try.func18, Try.ntmps18
    go_wp2_with fail
    refine (HR1.out _).mono ?_
    rintro e w1 ⟨rfl, hb⟩
    have B1 := Lib.hid (B0.out.trans (hb.mono B0.out.size))
    clear hb
    go_wp2_with fail
    refine (HNN.out _ _).mono ?_
    rintro e w2 ⟨rfl, hb⟩
    have B2 := Lib.hid (B1.out.trans (hb.mono B1.out.size))
    clear hb
    go_wp2
    go_ret2
    exact DecQ.bad HE.out (World.ownsRow_made _ #[] 0 B2.out.size (by unfold maxLen; omega) (by simp)) (B2.out.alloc B2.out.size _)
  | some x =>
    obtain ⟨n, r⟩ := x
    have hn := rdN_most h1
    have H1 := Lib.hid h1
    rw [rdOut_some h1] at HR1
    have hrl : (⟨r.toArray⟩ : BA).data.toList = r := by simp
    have HR2 : Hid (∀ v : World, Calls Try.prog 42 #[.string ⟨r.toArray⟩, .int .i64 2000] v fun e w' => e = .returned (rdOut 2000 ⟨r.toArray⟩) ∧ Below v.heap.size v w') := Lib.hid fun v => read_ref_any _ 2000 v
    clear h1
    cases h2 : rdN 2000 r with
    | none =>
      have HE := Lib.hid (decO_none (decP_no2 H1.out h2))
      rw [rdOut_none (by rw [hrl]; exact h2)] at HR2
      clear H1 h2 hrl
      go_enter Try.func18, Try.ntmps18
      go_wp2_with fail
      refine (HR1.out _).mono ?_
      rintro e w1 ⟨rfl, hb⟩
      have B1 := Lib.hid (B0.out.trans (hb.mono B0.out.size))
      clear hb
      go_wp2_with fail
      refine (HR2.out _).mono ?_
      rintro e w2 ⟨rfl, hb⟩
      have B2 := Lib.hid (B1.out.trans (hb.mono B1.out.size))
      clear hb
      go_wp2
      go_ret2
      exact DecQ.bad HE.out (World.ownsRow_made _ #[] 0 B2.out.size (by unfold maxLen; omega) (by simp)) (B2.out.alloc B2.out.size _)
    | some y =>
      obtain ⟨kd, q⟩ := y
      have hkd := rdN_most h2
      have H2 := Lib.hid h2
      rw [rdOut_some (by rw [hrl]; exact h2)] at HR2
      have HW : Hid (∀ v : World, Calls Try.prog 43 #[.string ⟨q.toArray⟩, .int .i64 kd] v fun e w' => WordsQ v.heap.size w' (wordsP kd [] q) e ∧ Below v.heap.size v w') := Lib.hid fun v => words_any kd (by omega) ⟨q.toArray⟩ v _ (by simp)
      clear h2 hrl
      cases h3 : wordsP kd [] q with
      | none =>
        have HE := Lib.hid (decO_none (decP_no3 H1.out H2.out h3))
        rw [h3] at HW
        clear H1 H2 h3
        go_enter Try.func18, Try.ntmps18
        go_wp2_with fail
        refine (HR1.out _).mono ?_
        rintro e w1 ⟨rfl, hb⟩
        have B1 := Lib.hid (B0.out.trans (hb.mono B0.out.size))
        clear hb
        go_wp2_with fail
        refine (HR2.out _).mono ?_
        rintro e w2 ⟨rfl, hb⟩
        have B2 := Lib.hid (B1.out.trans (hb.mono B1.out.size))
        clear hb
        go_wp2_with fail
        refine (HW.out _).mono ?_
        rintro e w3 ⟨hq, hb⟩
        obtain ⟨v3, l3, rfl, _⟩ := hq.1 rfl
        have B3 := Lib.hid (B2.out.trans (hb.mono B2.out.size))
        clear hq hb
        go_wp2
        go_ret2
        exact DecQ.bad HE.out (World.ownsRow_made _ #[] 0 B3.out.size (by unfold maxLen; omega) (by simp)) (B3.out.alloc B3.out.size _)
      | some z =>
        obtain ⟨d, z⟩ := z
        have HP0 := Lib.hid (decP_go H1.out H2.out h3)
        obtain ⟨hdl, hds⟩ := words_facts _ _ _ _ _ h3
        have HDS := Lib.hid hds
        rw [h3] at HW
        clear H1 H2 h3 hds
        subst hdl
        obtain ⟨zb, hzb⟩ : ∃ zb, (⟨z.toArray⟩ : BA) = zb := ⟨_, rfl⟩
        have hzl : zb.data.toList = z := by rw [← hzb]
        rw [← hzl] at HP0
        go_enter Try.func18, Try.ntmps18
        go_wp2_with fail
        refine (HR1.out _).mono ?_
        rintro e w1 ⟨rfl, hb⟩
        have B1 := Lib.hid (B0.out.trans (hb.mono B0.out.size))
        clear hb
        go_wp2_with fail
        refine (HR2.out _).mono ?_
        rintro e w2 ⟨rfl, hb⟩
        have B2 := Lib.hid (B1.out.trans (hb.mono B1.out.size))
        clear hb
        go_wp2_with fail
        refine (HW.out _).mono ?_
        rintro e w3 ⟨hq, hb⟩
        obtain ⟨v3, rfl, ho⟩ := hq.2 d z rfl
        rw [hzb]
        have B3 := Lib.hid (B2.out.trans (hb.mono B2.out.size))
        have D3 := Lib.hid ho.strs.at
        obtain ⟨dA, dc, hdv⟩ := own_form ho
        subst hdv
        clear hq hb ho HW HR1 HR2 B0 B1 B2 hzb hzl
        go_wp2
        have O4 : Hid (OwnS w3.heap.size (w3.alloc (.cells #[] 9)) (.slice (some ⟨w3.heap.size, 0, none⟩) 0 0) []) := World.ownsRow_made w3 #[] 0 (Nat.le_refl _) (by unfold maxLen; omega) (by simp)
        have B4 : Hid (Below w3.heap.size w3 (w3.alloc (.cells #[] 9))) := (Below.refl _ _).alloc (Nat.le_refl _) _
        go_loopw [5, 10] (fun vs vo wr => ∃ (rest : BA) (out : List BA) (A : Option Addr) (c : Nat), out.length ≤ n ∧ vs = .string rest ∧ vo = .slice A out.length c ∧ Hid (decP s.data.toList = runsP d (n - out.length) out rest.data.toList) ∧ Hid (∀ x ∈ out, x.size ≤ 1000) ∧ Hid (OwnS w3.heap.size wr vo out) ∧ Hid (Below w3.heap.size w3 wr))
          (fun _ vo _ => n - slLen vo)
        case atStart => exact ⟨zb, [], _, _, Nat.zero_le _, rfl, rfl, HP0, Lib.hid (fun x hx => by cases hx), O4, B4⟩
        case round =>
          clear HP0 O4 B4
          obtain ⟨rest, out, A, c, hol, rfl, rfl, HP, HS, HO, HB⟩ := hrel
          generalize wr = w4 at *
          by_cases hgo : 0 < rest.size ∧ out.length < n
          · have hE := emp_false hgo.1
            have hni : (out.length : Int) < n := by omega
            obtain ⟨k, hk⟩ : ∃ k, n - out.length = k := ⟨_, rfl⟩
            have hnk : ¬ (rest.data.toList = [] ∨ k = 0) := fun h => by
              rcases h with h | h
              · exact size_cons' hgo.1 h
              · have := hgo.2; omega
            have hk1 : 1 ≤ k := by have := hgo.2; omega
            have hwA : IntKind.i64.wrap ((n : Int) - (out.length : Int)) = (k : Int) := by rw [IntWalk.i64_in _ (by omega)]; omega
            have hwB : IntKind.i64.wrap ((k : Int) - 1) = (k : Int) - 1 := by rw [IntWalk.i64_in _ (by omega)]
            have hwC : IntKind.i64.wrap ((d.length : Int) - 1) = (d.length : Int) - 1 := by rw [IntWalk.i64_in _ (by omega)]
            rw [hk] at HP
            have HNK := Lib.hid hnk
            have HR5 : Hid (∀ v : World, Calls Try.prog 42 #[.string rest, .int .i64 ((d.length : Int) - 1)] v fun e w' => e = .returned (rdOut ((d.length : Int) - 1) rest) ∧ Below v.heap.size v w') := Lib.hid fun v => read_ref_any rest _ v
            have B4 := Lib.hid (B3.out.trans (HB.out.mono B3.out.size))
            clear hnk
            cases h5 : rdN ((d.length : Int) - 1) rest.data.toList with
            | none =>
              have HE := Lib.hid (decO_none (HP.out.trans (runs_no1 HNK.out h5)))
              rw [rdOut_none h5] at HR5
              clear h5 HP HNK
              go_wp2_with fail
              refine (HR5.out _).mono ?_
              rintro e w5 ⟨rfl, hb⟩
              have B5 := Lib.hid (B4.out.trans (hb.mono B4.out.size))
              clear hb
              go_wp2_with fail
              refine (HNN.out _ _).mono ?_
              rintro e w6 ⟨rfl, hb⟩
              have B6 := Lib.hid (B5.out.trans (hb.mono B5.out.size))
              clear hb
              go_wp2
              go_ret2
              exact DecQ.bad HE.out (World.ownsRow_made _ #[] 0 B6.out.size (by unfold maxLen; omega) (by simp)) (B6.out.alloc B6.out.size _)
            | some x =>
              obtain ⟨i, r⟩ := x
              have hid := rdN_most h5
              have H5 := Lib.hid h5
              rw [rdOut_some h5] at HR5
              have hrl : (⟨r.toArray⟩ : BA).data.toList = r := by simp
              have HR6 : Hid (∀ v : World, Calls Try.prog 42 #[.string ⟨r.toArray⟩, .int .i64 ((k : Int) - 1)] v fun e w' => e = .returned (rdOut ((k : Int) - 1) ⟨r.toArray⟩) ∧ Below v.heap.size v w') := Lib.hid fun v => read_ref_any _ _ v
              clear h5
              cases h6 : rdN ((k : Int) - 1) r with
              | none =>
                have HE := Lib.hid (decO_none (HP.out.trans (runs_no2 HNK.out H5.out h6)))
                rw [rdOut_none (by rw [hrl]; exact h6)] at HR6
                clear h6 HP HNK H5 hrl
                go_wp2_with fail
                refine (HR5.out _).mono ?_
                rintro e w5 ⟨rfl, hb⟩
                have B5 := Lib.hid (B4.out.trans (hb.mono B4.out.size))
                clear hb
                go_wp2_with fail
                refine (HR6.out _).mono ?_
                rintro e w6 ⟨rfl, hb⟩
                have B6 := Lib.hid (B5.out.trans (hb.mono B5.out.size))
                clear hb
                go_wp2
                go_ret2
                exact DecQ.bad HE.out (World.ownsRow_made _ #[] 0 B6.out.size (by unfold maxLen; omega) (by simp)) (B6.out.alloc B6.out.size _)
              | some y =>
                obtain ⟨m, q2⟩ := y
                have hmk := rdN_most h6
                have HP2 := Lib.hid (HP.out.trans (runs_go (out := out) HNK.out H5.out h6))
                rw [rdOut_some (by rw [hrl]; exact h6)] at HR6
                obtain ⟨qb, hqb⟩ : ∃ qb, (⟨q2.toArray⟩ : BA) = qb := ⟨_, rfl⟩
                have hql : qb.data.toList = q2 := by rw [← hqb]
                rw [hqb] at HR6
                rw [← hql] at HP2
                have hid2 : i < d.length := by omega
                have hidi : (i : Int) < d.length := by omega
                obtain ⟨x, hx⟩ : ∃ x, d[i]?.getD ⟨#[]⟩ = x := ⟨_, rfl⟩
                rw [hx] at HP2
                have hxs : x.size ≤ 1000 := by rw [← hx, at_get hid2]; exact HDS.out _ (List.getElem_mem hid2)
                obtain ⟨da, dcap, hde, hdc⟩ := D3.out
                obtain ⟨b, off, hda, hbl, hcd⟩ := hdc (by omega)
                have hde2 : dA = some ⟨b, off, none⟩ := by rw [← hda]; injection hde
                subst hde2
                have hci := hcd i hid2
                rw [hx] at hci
                have HCI := Lib.hid hci
                clear h6 HP HNK H5 hrl hqb hql hx hde hdc hda hcd hci hid
                go_wp2_with fail
                refine (HR5.out _).mono ?_
                rintro e w5 ⟨rfl, hb⟩
                have B5 := Lib.hid (B4.out.trans (hb.mono B4.out.size))
                have OO5 := Lib.hid (HO.out.step hb)
                have BB5 := Lib.hid (HB.out.trans (hb.mono HB.out.size))
                clear hb
                go_wp2_with fail
                refine (HR6.out _).mono ?_
                rintro e w6 ⟨rfl, hb⟩
                have B6 := Lib.hid (B5.out.trans (hb.mono B5.out.size))
                have OO6 := Lib.hid (OO5.out.step hb)
                have BB6 := Lib.hid (BB5.out.trans (hb.mono BB5.out.size))
                clear hb
                have O6 : Hid (w6.ownsRow w3.heap.size 9 1 (.slice A (out.length + 0) c) (out.length + 0) (sc (out ++ List.replicate 0 x))) := Lib.hid (by rw [List.replicate_zero, List.append_nil]; exact OO6.out)
                go_wp2
                go_loopw [10, 14] (fun vo vm wr => ∃ (j : Nat) (A : Option Addr) (c : Nat), j ≤ m + 1 ∧ vo = .slice A (out.length + j) c ∧ vm = .int .i64 ((m : Int) - j) ∧ Hid (wr.ownsRow w3.heap.size 9 1 vo (out.length + j) (sc (out ++ List.replicate j x))) ∧ Hid (Below w3.heap.size w3 wr))
                  (fun _ vm _ => (intOf vm + 1).toNat)
                case atStart => exact ⟨0, A, c, Nat.zero_le _, rfl, by go_num, O6, BB6⟩
                case round =>
                  clear O6 BB6 OO6 OO5 BB5
                  obtain ⟨j, A, c, hj, rfl, rfl, HO, HB⟩ := hrel
                  by_cases hjm : j < m + 1
                  · have hji : (0 : Int) ≤ (m : Int) - j := by omega
                    have hci := (HB.out.cell (p := ⟨b, off + i, none⟩) hbl).trans HCI.out
                    have hln : out.length + j ≤ 2000 := by omega
                    go_wp2_with (at_builtin; refine wpList_append_own _ rfl _ _ 22 rfl w3.heap.size 9 i0 (.string ⟨#[]⟩) 1 16 Try.underlying22 hi hz0 hz1 hz2 rfl (by decide) _ (out.length + j) _ rfl (World.ownsRow.alloc HO.out _) ⟨wr.heap.size, 0, none⟩ 1 1 [.string x] rfl rfl (cell_one_new _ _ _) (by simp [Value.oneCell']) (by unfold maxLen; omega) (by omega) (by have := HB.out.size; simp; omega) ?_; intro v4 w8 hown4 hgrow4 _; obtain ⟨g, cap4, rfl⟩ := ownsRow_succ hown4; have B8 := Lib.hid ((HB.out.alloc HB.out.size _).grown hgrow4 (by have := HB.out.size; simp; omega) (fun k hk => (World.ownsRow.lt HO.out k hk).1)); have O8 := Lib.hid hown4; clear hown4 hgrow4)
                    go_roundw
                    case rel => exact ⟨j + 1, some ⟨g, 0, none⟩, cap4, hjm, rfl, by go_num, Lib.hid (by rw [List.replicate_succ', ← List.append_assoc, sc_snoc]; exact O8.out), B8⟩
                    case measure => simp [intOf]; omega
                  · obtain rfl : j = m + 1 := by omega
                    have hji : ¬ ((0 : Int) ≤ (m : Int) - ((m + 1 : Nat) : Int)) := by omega
                    have hji2 : ¬ ((0 : Int) ≤ (m : Int) - ((m : Int) + 1)) := by omega
                    have HS2 : Hid (∀ y ∈ out ++ List.replicate (m + 1) x, y.size ≤ 1000) := Lib.hid fun y hy => by
                      rcases List.mem_append.1 hy with hy | hy
                      · exact HS.out y hy
                      · rw [List.eq_of_mem_replicate hy]; exact hxs
                    have hll : (out ++ List.replicate (m + 1) x).length = out.length + (m + 1) := by rw [List.length_append, List.length_replicate]
                    go_wp2
                    go_roundw
                    case rel => exact ⟨qb, out ++ List.replicate (m + 1) x, A, c, by rw [hll]; omega, rfl, by rw [hll], Lib.hid (by rw [HP2.out, hll, show n - (out.length + (m + 1)) = k - (m + 1) by omega]), HS2, Lib.hid (by unfold OwnS; rw [hll]; exact HO.out), HB⟩
                    case measure => simp [slLen]; omega
          · have HPD : Hid (decP s.data.toList = some out) := Lib.hid (by
              rw [HP.out]
              apply runs_end
              by_cases h0 : 0 < rest.size
              · right
                have : ¬ out.length < n := fun h => hgo ⟨h0, h⟩
                omega
              · exact .inl (size_nil' (by omega)))
            have B4 := Lib.hid (B3.out.trans (HB.out.mono B3.out.size))
            have HEN := Lib.hid (enc_ref_any out (by omega) (fun x hx => by have := HS.out x hx; omega) (.slice A out.length c) w4 HO.out.strs.at)
            have O4 : Hid (OwnS w.heap.size w4 (.slice A out.length c) out) := Lib.hid (HO.out.more B3.out.size)
            have hcase : rest.toList.isEmpty = true ∨ (rest.toList.isEmpty = false ∧ ¬ ((out.length : Int) < n)) := by
              by_cases h0 : 0 < rest.size
              · exact .inr ⟨emp_false h0, fun h => hgo ⟨h0, by omega⟩⟩
              · exact .inl (emp_true (by omega))
            clear HP HS HB HO hgo D3 HDS B3
            by_cases heo : encO out = (s.data.toList, 0)
            · have HE := Lib.hid (decO_some HPD.out heo)
              have hss := neq_no (rfl : s = s)
              have hss2 := eq_yes (rfl : s = s)
              clear HPD
              rcases hcase with hE | ⟨hE, hni⟩
              all_goals
                go_wp2_with fail
                refine HEN.out.mono ?_
                rintro e w5 ⟨he, hb⟩
                rw [heo] at he
                dsimp only at he
                rw [mk_data] at he
                subst he
                have B5 := Lib.hid (B4.out.trans (hb.mono B4.out.size))
                have O5 := Lib.hid (O4.out.step hb)
                clear hb
                go_wp2
                go_ret2
                exact DecQ.ok HE.out O5.out B5.out
            · have HE := Lib.hid (decO_not HPD.out heo)
              obtain ⟨t, ec, hte⟩ : ∃ t ec, encO out = (t, ec) := ⟨_, _, rfl⟩
              have hcase2 : ec ≠ 0 ∨ (ec = 0 ∧ (⟨t.toArray⟩ : BA) ≠ s) := by
                by_cases h0 : ec = 0
                · refine .inr ⟨h0, fun h => heo ?_⟩
                  rw [hte, h0, ← h]
                · exact .inl h0
              unfold EncQ at HEN
              rw [hte] at HEN
              dsimp only at HEN
              clear HPD heo hte
              generalize (⟨t.toArray⟩ : BA) = tb at *
              rcases hcase2 with h0 | ⟨h0, hts⟩
              · have he1 : (ec != 0) = true := bne_iff_ne.2 h0
                have he2 : (ec == 0) = false := beq_eq_false_iff_ne.2 h0
                clear h0
                rcases hcase with hE | ⟨hE, hni⟩
                all_goals
                  go_wp2_with fail
                  refine HEN.out.mono ?_
                  rintro e w5 ⟨rfl, hb⟩
                  have B5 := Lib.hid (B4.out.trans (hb.mono B4.out.size))
                  clear hb
                  go_wp2
                  go_ret2
                  exact DecQ.bad HE.out (World.ownsRow_made _ #[] 0 B5.out.size (by unfold maxLen; omega) (by simp)) (B5.out.alloc B5.out.size _)
              · subst h0
                have he1 := neq_yes hts
                have he2 := eq_no hts
                clear hts
                rcases hcase with hE | ⟨hE, hni⟩
                all_goals
                  go_wp2_with fail
                  refine HEN.out.mono ?_
                  rintro e w5 ⟨rfl, hb⟩
                  have B5 := Lib.hid (B4.out.trans (hb.mono B4.out.size))
                  clear hb
                  go_wp2
                  go_ret2
                  exact DecQ.bad HE.out (World.ownsRow_made _ #[] 0 B5.out.size (by unfold maxLen; omega) (by simp)) (B5.out.alloc B5.out.size _)
end Go.Proofs.Ytpinmmmbmhfmiaa.Dt
