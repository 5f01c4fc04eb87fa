/- Layer 10: the walk of the reference's Encode. -/
import Derived.Test.YtpinmmmbmhfmiaaDtH
set_option linter.unusedVariables false
set_option linter.unusedSimpArgs false
namespace Go.Proofs.Ytpinmmmbmhfmiaa.Dt
open Go.RowKit Go.Sort Dc
theorem mk_size'' (l : List UInt8) : (⟨l.toArray⟩ : ByteArray).size = l.length := by show l.toArray.size = _; simp
theorem cat_ok {m n : Nat} (h1 : m ≤ 1152921504606846976) (h2 : n ≤ 1152921504606846976) : ¬ (9223372036854775807 < (⟨(uv m).toArray⟩ : BA).size + (⟨(uv n).toArray⟩ : BA).size) := by
  have q1 := uv_len9 (m := m) (by omega)
  have q2 := uv_len9 (m := n) (by omega)
  rw [mk_size'', mk_size'']
  unfold uv
  omega
theorem OwnS.far {B : Nat} {w w' : World} {v vo : Value} {d : List BA} {t : List UInt8} (h : OwnS B w v d) (g : OwnG B w vo t) (hg : w.grownBy w' vo.ownBlock) : OwnS B w' v d := by
  refine World.ownsRow.kept h hg ?_
  rcases h.2 with ⟨rfl, _⟩ | ⟨q, cap, cur, rfl, _, hq, _⟩
  · exact .inl rfl
  · refine .inr fun e => ?_
    rcases g with g | ⟨r, cap2, cur2, rfl, _, hr, _⟩
    · rcases g.2 with ⟨rfl, _⟩ | ⟨r, cap2, cur2, rfl, _, hr, _⟩
      · simp [Value.ownBlock] at e
      · obtain rfl : q = r := by simpa [Value.ownBlock] using e
        rw [hq] at hr
        simp at hr
    · obtain rfl : q = r := by simpa [Value.ownBlock] using e
      rw [hq] at hr
      simp at hr
theorem cat_ok2 {m n p : Nat} {x : BA} (h1 : m ≤ 1152921504606846976) (h2 : n ≤ 1152921504606846976) (h3 : x.size ≤ 1000) : ¬ (9223372036854775807 < (⟨(uv m).toArray⟩ ++ ⟨(uv n).toArray⟩ : BA).size + (x.extract p x.size).size) := by
  have q1 := uv_len9 (m := m) (by omega)
  have q2 := uv_len9 (m := n) (by omega)
  rw [app_size, mk_size'', ext_len]
  unfold uv
  omega
theorem cat_ok3 {m n p : Nat} {x : BA} (h1 : m ≤ 1152921504606846976) (h2 : n ≤ 1152921504606846976) (h3 : x.size ≤ 1000) : ¬ (9223372036854775807 < (⟨(uv m).toArray⟩ : BA).size + (⟨(uv n).toArray⟩ : BA).size + (x.size - p)) := by
  have q1 := uv_len9 (m := m) (by omega)
  have q2 := uv_len9 (m := n) (by omega)
  rw [mk_size'', mk_size'']
  unfold uv
  omega
theorem wpList_append_run2 {P : Program} (w : World) {ops : Array Oper} {rest : List Oper} {o : Oper} {a : Act} {Q : Exit → Act → World → Prop} (hgd : o.guard = none) (s x : Operand) (t tn : TypeId)
    (ho : o.op = .call { callee := .builtin .append, args := #[s, x], argTypes := #[t, tn] }) (vs vx : Value) (hs : a.eval s = vs) (hx : a.eval x = vx) {v' : Value} {w' : World}
    (hr : (Builtin.append_ #[t, tn] o.type #[vs, vx]).run P w = .ok v' w') (h : wpList P ops Q rest (a.put o.dst v') w') : wpList P ops Q (o :: rest) a w :=
  wpList_plain hgd fun K hK => Lib.wp_append_run w s x t tn ho vs vx hs hx v' w' hr (hK _ _ h)
def EncQ (l : List BA) (w : World) (e : Ending) (w' : World) : Prop := e = .returned (.tuple #[.string ⟨(encO l).1.toArray⟩, .int .i64 (encO l).2]) ∧ Below w.heap.size w w'
theorem EncQ.bad {l : List BA} {w w' : World} (h : encO l = ([], 4)) (hb : Below w.heap.size w w') : EncQ l w (.returned (.tuple #[.string ⟨#[]⟩, .int .i64 4])) w' := by unfold EncQ; rw [h]; exact ⟨rfl, hb⟩
theorem EncQ.ok {l : List BA} {w w' : World} {t : List UInt8} (h : encO l = (t, 0)) (hb : Below w.heap.size w w') : EncQ l w (.returned (.tuple #[.string ⟨t.toArray⟩, .int .i64 0])) w' := by unfold EncQ; rw [h]; exact ⟨rfl, hb⟩
theorem common_ref (a b : BA) (r : Nat) (ha : a.size ≤ 4294967000) (hr : comN a.data.toList b.data.toList = r) (w : World) : Calls Try.prog 38 #[.string a, .string b] w fun e w' => e = .returned (.int .i64 r) ∧ Below w.heap.size w w' := by
  have h := common_any a b ha w
  rwa [hr] at h
/-- One entry of the dictionary. -/
structure EntP (d : List BA) (i : Nat) (x : BA) (p q : Nat) (u : List UInt8) : Prop where
  p0 : i = 0 → p = 0
  pc : ∀ y : BA, 0 < i → d[i - 1]?.getD ⟨#[]⟩ = y → comN y.data.toList x.data.toList = p
  pq : p + q = x.size
  ux : ∀ tp tq : BA, tp = ⟨(uv p).toArray⟩ → tq = ⟨(uv q).toArray⟩ → (tp ++ tq ++ x.extract p x.size : BA) = ⟨u.toArray⟩
  st : dicB [] (d.take (i + 1)) = dicB [] (d.take i) ++ u
  len : u.length ≤ 1018
theorem entP_of {d : List BA} {i : Nat} {x : BA} (h : i < d.length) (hx : d[i] = x) (hs : x.size ≤ 1000) : ∃ p q u, EntP d i x p q u := by
  have hc := comN_le (prevB d i) x.data.toList
  have hxl : x.data.toList.length = x.size := Array.length_toList
  refine ⟨comN (prevB d i) x.data.toList, x.size - comN (prevB d i) x.data.toList, entB (prevB d i) x, fun h0 => ?_, fun y hy e => ?_, by omega, fun tp tq h1 h2 => ?_, dicB_step h hx, entB_len _ _ hs⟩
  · unfold prevB; rw [if_pos h0]; unfold comN; rfl
  · unfold prevB; rw [if_neg (by omega), e]
  · subst h1 h2
    apply of_list
    rw [ByteArray.data_append, Array.toList_append, ByteArray.data_append, Array.toList_append, drop_ext]
    rfl
theorem runs_next {l : List BA} {st k : Nat} {x : BA} {s t : List UInt8} (h : s = t ++ runB (dict l) (rle (l.drop st))) (hr : rle (l.drop st) = (x, k) :: rle (l.drop (st + k))) : s = (t ++ (uv (idxI x (dict l)).toNat ++ uv (k - 1))) ++ runB (dict l) (rle (l.drop (st + k))) := by
  rw [h, hr, runB_cons]
  simp only [List.append_assoc]
set_option maxHeartbeats 8000000 in
set_option maxRecDepth 100000 in
theorem enc_ref_any (l : List BA) (hl : l.length ≤ 100000) (hsz : ∀ x ∈ l, x.size ≤ 140737488351232) (sv : Value) (w : World) (hI : StrsAt w.heap.size w sv l) :
    Calls Try.prog 14 #[sv] w (EncQ l w) := by
  obtain ⟨a, cap, rfl, hcx⟩ := hI
  have HX := Lib.hid hcx
  have HSZ := Lib.hid hsz
  clear hsz
  have HI : Hid (StrsAt w.heap.size w (.slice a l.length cap) l) := Lib.hid ⟨a, cap, rfl, hcx⟩
  clear hcx
  by_cases h2 : 2000 < l.length
  · have HE := Lib.hid (encO_bad (l := l) fun h => by have := h.1; omega)
    have h2i : (2000 : Int) < l.length := by omega
    go_enter Try.func14, Try.ntmps14
    go_wp2
    go_ret2
    exact EncQ.bad HE.out (Below.refl _ _)
  · have h2i : ¬ ((2000 : Int) < l.length) := by omega
    go_enter Try.func14, Try.ntmps14
    go_wp2
    go_loop [4] (fun vi => ∃ k : Nat, k ≤ l.length ∧ vi = .int .i64 k ∧ Hid (∀ j (h : j < l.length), j < k → l[j].size ≤ 1000)) (fun vi => l.length - (intOf vi).toNat)
    case atStart => exact ⟨0, Nat.zero_le _, rfl, Lib.hid (fun j _ h => by omega)⟩
    case round =>
      obtain ⟨k, hk, rfl, HP⟩ := hrel
      by_cases hlt : k < l.length
      · obtain ⟨b, o, rfl, hb, hc⟩ := HX.out (by omega)
        have hcell := hc k hlt
        rw [at_get hlt] at hcell
        have hi : (k : Int) < l.length := by omega
        have hs := HSZ.out l[k] (List.getElem_mem hlt)
        obtain ⟨x, hx⟩ : ∃ x, l[k] = x := ⟨_, rfl⟩
        rw [hx] at hcell hs
        have Hx := Lib.hid hx
        clear hc hx
        by_cases hb1 : 1000 < x.size
        · have hb1i : (1000 : Int) < x.size := by omega
          have HE := Lib.hid (encO_bad (l := l) fun h => by have := h.2 l[k] (List.getElem_mem hlt); rw [Hx.out] at this; omega)
          clear HP
          go_wp2
          go_ret2
          exact EncQ.bad HE.out (Below.refl _ _)
        · have hb1i : ¬ ((1000 : Int) < x.size) := by omega
          have HP2 : Hid (∀ j (h : j < l.length), j < k + 1 → l[j].size ≤ 1000) := Lib.hid fun j h hj => by
            by_cases e : j = k
            · subst e; rw [Hx.out]; omega
            · exact HP.out j h (by omega)
          clear HP
          go_wp2
          go_round
          case rel => exact ⟨k + 1, by omega, by go_num, HP2⟩
          case measure => simp [intOf]; omega
      · have HOK : Hid (colOk l) := Lib.hid ⟨by omega, fun x hx => by
          obtain ⟨j, hj, rfl⟩ := List.mem_iff_getElem.1 hx
          exact HP.out j hj (by omega)⟩
        clear HP
        have HDI := Lib.hid (dictionary_any l hl (.slice a l.length cap) w HI.out)
        have hdl := dict_len l
        have HDS : Hid (∀ x ∈ dict l, x.size ≤ 1000) := Lib.hid fun x hx => HOK.out.2 x ((dict_mem l x).1 hx)
        have HDM : Hid (∀ x, x ∈ l → x ∈ dict l) := Lib.hid fun x hx => (dict_mem l x).2 hx
        have HEL : Hid (encL l = uv l.length ++ uv (dict l).length ++ dicB [] (dict l) ++ runB (dict l) (rle l)) := rfl
        obtain ⟨d, hd⟩ : ∃ d, dict l = d := ⟨_, rfl⟩
        rw [hd] at HDI hdl HDS HDM HEL
        have HD := Lib.hid hd
        clear hd
        go_wp2_with fail
        refine HDI.out.mono ?_
        rintro e w1 ⟨dv, rfl, ho, hb⟩
        have O1 := Lib.hid ho
        have B1 := Lib.hid hb
        obtain ⟨dA, dc, hdv⟩ := own_form ho
        subst hdv
        clear ho hb HDI
        go_wp2_with fail
        refine (number_any l.length (by omega) _).mono ?_
        rintro e w2 ⟨rfl, hb⟩
        have B2 := Lib.hid (B1.out.trans (hb.mono B1.out.size))
        have O2 := Lib.hid (O1.out.step hb)
        clear hb O1 B1
        go_wp2_with fail
        refine (number_any d.length (by omega) _).mono ?_
        rintro e w3 ⟨rfl, hb⟩
        have B3 := Lib.hid (B2.out.trans (hb.mono B2.out.size))
        have O3 := Lib.hid (O2.out.step hb)
        clear hb O2 B2
        have hcat : ((⟨(uv l.length).toArray⟩ : BA) ++ (⟨(uv d.length).toArray⟩ : BA) : BA) = ⟨(uv l.length ++ uv d.length).toArray⟩ := of_list (by rw [app_list])
        have hhl : (uv l.length ++ uv d.length).length ≤ 100 := by
          have q1 := uv_len9 (m := l.length) (by omega)
          have q2 := uv_len9 (m := d.length) (by omega)
          rw [List.length_append]
          unfold uv
          omega
        have hhp : 1 ≤ (uv l.length ++ uv d.length).length := by
          have q1 := Lib.uvarint_pos l.length
          rw [List.length_append]
          unfold uv
          omega
        obtain ⟨hh, hhe⟩ : ∃ hh, uv l.length ++ uv d.length = hh := ⟨_, rfl⟩
        rw [hhe] at HEL hcat hhl hhp
        have hcv := run_conv w3 hh
        have HCN := Lib.hid (conv_new w3 hh (by omega))
        clear hhe
        have hs12 : ¬ (9223372036854775807 < (⟨(uv l.length).toArray⟩ : BA).size + (⟨(uv d.length).toArray⟩ : BA).size) := cat_ok (by omega) (by omega)
        generalize (⟨(uv l.length).toArray⟩ : BA) = t1 at *
        generalize (⟨(uv d.length).toArray⟩ : BA) = t2 at *
        generalize (⟨hh.toArray⟩ : BA) = t3 at *
        generalize grownCap w3 hh.length 0 5 = gc at *
        obtain ⟨w4, hw4⟩ : ∃ w4, Lib.bytesWorld w3 5 t3 = w4 := ⟨_, rfl⟩
        rw [hw4] at hcv HCN
        have hcv0 := hcv
        have B4 := Lib.hid (B3.out.trans (HCN.out.2.mono B3.out.size))
        have O4 := Lib.hid (O3.out.step HCN.out.2)
        have G4 : Hid (OwnG w.heap.size w4 (.slice (some ⟨w3.heap.size, 0, none⟩) hh.length gc) hh) := Lib.hid (HCN.out.1.more B3.out.size)
        clear hw4 HCN O3
        go_wp2_with (refine wpList_convert_run _ (by rfl) (.tmp 34) 9 49 (by rfl) (.string t3) (by rfl) hcv ?_)
        go_loopw [6, 7, 8] (fun vo vi vp wr => ∃ (i : Nat) (t : List UInt8) (A : Option Addr) (c : Nat), i ≤ d.length ∧ t.length ≤ 100 + 1018 * i ∧ 1 ≤ t.length ∧ vo = .slice A t.length c ∧ vi = .int .i64 i ∧ Hid (t = hh ++ dicB [] (d.take i)) ∧ Hid (OwnG w.heap.size wr vo t) ∧ Hid (OwnS w.heap.size wr (.slice dA d.length dc) d) ∧ Hid (Below w.heap.size w wr))
          (fun _ vi _ _ => d.length - (intOf vi).toNat)
        case atStart => exact ⟨0, hh, _, _, Nat.zero_le _, by omega, hhp, rfl, rfl, Lib.hid (by simp [dicB]), G4, O4.out.more (Nat.le_refl _), B4⟩
        case round =>
          clear G4 O4 B4 B3
          obtain ⟨i, t, A, c, hi, htl, htp, rfl, rfl, HT, HG, HOd, HB⟩ := hrel
          by_cases hlt : i < d.length
          · obtain ⟨a2, c2, he2, hc2⟩ := HOd.out.strs.at
            obtain ⟨b3, o3, rfl, hb3, hcc⟩ := hc2 (by omega)
            obtain ⟨rfl, rfl⟩ : dA = some ⟨b3, o3, none⟩ ∧ dc = c2 := by injection he2 with h1 _ h2; exact ⟨h1, h2⟩
            have hcd := hcc i hlt
            rw [at_get hlt] at hcd
            have hii : (i : Int) < d.length := by omega
            have hxs := HDS.out d[i] (List.getElem_mem hlt)
            obtain ⟨p, q, u, hent⟩ := entP_of hlt rfl hxs
            have HEN := Lib.hid hent
            obtain ⟨x, hx⟩ : ∃ x, d[i] = x := ⟨_, rfl⟩
            rw [hx] at hcd hxs HEN
            have hpq : p + q = x.size := HEN.out.pq
            have hul := HEN.out.len
            have HCD := Lib.hid hcd
            have HTN : Hid (t ++ u = hh ++ dicB [] (d.take (i + 1))) := Lib.hid (by rw [HEN.out.st, HT.out, List.append_assoc])
            have hcat1 := HEN.out.ux _ _ rfl rfl
            have hok1 : ¬ (9223372036854775807 < (⟨(uv p).toArray⟩ : BA).size + (⟨(uv q).toArray⟩ : BA).size) := cat_ok (by omega) (by omega)
            have hok2 : ¬ (9223372036854775807 < (⟨(uv p).toArray⟩ ++ ⟨(uv q).toArray⟩ : BA).size + (x.extract p x.size).size) := cat_ok2 (by omega) (by omega) (by omega)
            have hok3 : ¬ (9223372036854775807 < (⟨(uv p).toArray⟩ : BA).size + (⟨(uv q).toArray⟩ : BA).size + (x.size - p)) := cat_ok3 (by omega) (by omega) (by omega)
            have KP := Lib.hid fun v => number_any p (by omega) v
            have KQ := Lib.hid fun v => number_any q (by omega) v
            clear hent hx he2 hc2
            generalize (⟨(uv p).toArray⟩ : BA) = tp at *
            generalize (⟨(uv q).toArray⟩ : BA) = tq at *
            by_cases hi0 : i = 0
            · obtain rfl : p = 0 := HEN.out.p0 hi0
              subst hi0
              rw [Nat.add_zero] at hcd HCD
              have hcx2 := hcd
              have B2 := HB
              have G2 := HG
              have D2 := HOd
              have hbw := hb3
              have hqx : IntKind.i64.wrap (x.size : Int) = (q : Int) := by rw [IntWalk.i64_in _ (by omega)]; omega
              have hok4 : ¬ (9223372036854775807 < tp.size + tq.size + x.size) := by rw [Nat.sub_zero] at hok3; exact hok3
              have KP0 : Hid (∀ v, Calls Try.prog 37 #[.int .i64 0] v fun e w' => e = .returned (.string tp) ∧ Below v.heap.size v w') := KP
              have KP := KP0
              clear hcc KP0
              obtain ⟨w5, hw5⟩ : ∃ w5, wr = w5 := ⟨_, rfl⟩
              subst hw5
              have hq3 : IntKind.i64.wrap ((x.size : Int) - 0) = (q : Int) := by rw [IntWalk.i64_in _ (by omega)]; omega
              have hps : (0 : Int) ≤ x.size := by omega
              have hex : x.extract 0 x.size = x := by apply of_list; simp
              have hcat2 : (tp ++ tq ++ x : BA) = ⟨u.toArray⟩ := by rw [← hcat1, hex]
              have B5 := Lib.hid B2.out.drew
              have G5 : Hid (OwnG w.heap.size wr.drew (.slice A t.length c) t) := Lib.hid G2.out
              have D5 : Hid (OwnS w.heap.size wr.drew (.slice (some ⟨b3, o3, none⟩) d.length dc) d) := Lib.hid D2.out
              obtain ⟨tu, htu⟩ : ∃ tu, t ++ u = tu := ⟨_, rfl⟩
              have htul : tu.length ≤ 100 + 1018 * (0 + 1) ∧ 1 ≤ tu.length := by rw [← htu, List.length_append]; omega
              have HTU := Lib.hid htu
              have HTN2 : Hid (tu = hh ++ dicB [] (d.take (0 + 1))) := Lib.hid (by rw [← htu]; exact HTN.out)
              clear htu
              have HX5 : Hid (wr.drew.cell? ⟨b3, o3, none⟩ = some (.string x)) := Lib.hid hcx2
              have hbwr : b3 < wr.drew.heap.size := hbw
              have hix : (0 : Int) < d.length := by omega
              go_wp2
              go_region_law (first
                | (refine step_append_run (by rfl) (.tmp 54) (.tmp 72) 49 9 (by rfl) (.slice A t.length c) (.string ⟨u.toArray⟩) (by rfl) (by rfl) _ w8 hr8 ?_)
                | (go_simp; go_at_call 37; (with_reducible refine (KP.out _).mono ?_); rintro e w6 ⟨rfl, hb6⟩; have B6 := Lib.hid (B5.out.trans (hb6.mono B5.out.size)); have G6 := Lib.hid (G5.out.step hb6); have D6 := Lib.hid (D5.out.step hb6); have hcx6 := (hb6.cell (p := ⟨b3, o3, none⟩) hbwr).trans HX5.out; have hbw6 := Nat.lt_of_lt_of_le hbwr hb6.size)
                | (go_simp; go_at_call 37; (with_reducible refine (KQ.out _).mono ?_); rintro e w7 ⟨rfl, hb7⟩; have B7 := Lib.hid (B6.out.trans (hb7.mono B6.out.size)); have G7 := Lib.hid (G6.out.step hb7); have D7 := Lib.hid (D6.out.step hb7); have hcx7 := (hb7.cell (p := ⟨b3, o3, none⟩) hbw6).trans hcx6; obtain ⟨v8, w8, hr8, ho8, hg8⟩ := run_app_str w.heap.size 49 w7 _ t u G7.out B7.out.size (by omega); rw [HTU.out] at ho8; obtain ⟨A8, c8, rfl⟩ := ho8.form; have G8 := Lib.hid ho8; have D8 := Lib.hid (D7.out.far G7.out hg8); have B8 := Lib.hid (B7.out.grown hg8 B7.out.size (fun k hk => (G7.out.lt k hk).1))))
              all_goals
                go_simp
                go_wp2
                go_roundw
                case rel => exact ⟨0 + 1, tu, A8, c8, by omega, htul.1, htul.2, rfl, by go_num, HTN2, G8, D8, B8⟩
                case measure => simp [intOf]; omega
            · obtain ⟨i1, rfl⟩ : ∃ i1, i = i1 + 1 := ⟨i - 1, by omega⟩
              have hcd1 := hcc i1 (by omega)
              obtain ⟨y, hy⟩ : ∃ y, d[i1]?.getD ⟨#[]⟩ = y := ⟨_, rfl⟩
              rw [hy] at hcd1
              have hys : y.size ≤ 1000 := by rw [← hy, at_get (show i1 < d.length by omega)]; exact HDS.out _ (List.getElem_mem _)
              have HCO := Lib.hid fun v => common_ref y x p (by omega) (HEN.out.pc y (by omega) (by rw [Nat.add_sub_cancel]; exact hy)) v
              have hi1 : ((i1 : Int)) < d.length := by omega
              have hwi : IntKind.i64.wrap ((i1 : Int) + 1 - 1) = (i1 : Int) := by rw [IntWalk.i64_in _ (by omega)]; omega
              have hwi2 : IntKind.i64.wrap (i1 : Int) = (i1 : Int) := by rw [IntWalk.i64_in _ (by omega)]
              have hii2 : (i1 : Int) + 1 < d.length := by omega
              have hpos1 : (0 : Int) ≤ (i1 : Int) + 1 := by omega
              have hq1 : ∀ dd os, (grow (redrawn wr dd) os).cell? ⟨b3, o3 + i1, none⟩ = some (.string y) := fun dd os => cell_regrown hcd1 dd os
              have hq2 : ∀ dd os, (grow (redrawn wr dd) os).cell? ⟨b3, o3 + (i1 + 1), none⟩ = some (.string x) := fun dd os => cell_regrown hcd dd os
              have mixed : Try.prog.follows .mixedOrders = true := by kernel_rfl
              clear hcc hy hys
              go_wp2
              refine wp_region_quiet_below (by assumption) (by kernel_rfl) ?_
              iterate 9 quiet_step (fail)
              quiet_step (exact Calls.regrown_of (HCO.out _))
              quiet_step (fail)
              refine wpQuiet_nil ?_
              intro _ hw'
              obtain ⟨⟨dq, osq⟩, hw''⟩ := hw'
              subst hw''
              have hbr := below_regrown wr dq osq
              have B2 := Lib.hid (HB.out.trans (hbr.mono HB.out.size))
              have G2 : Hid (OwnG w.heap.size (grow (redrawn wr dq) osq) (.slice A t.length c) t) := Lib.hid (HG.out.step hbr)
              have D2 : Hid (OwnS w.heap.size (grow (redrawn wr dq) osq) (.slice (some ⟨b3, o3, none⟩) d.length dc) d) := Lib.hid (HOd.out.step hbr)
              have hcx2 := hq2 dq osq
              have hbw := Nat.lt_of_lt_of_le hb3 hbr.size
              clear hq1 hq2 hbr HG HB HOd hcd hcd1 HCO HCD
              generalize grow (redrawn wr dq) osq = w5 at *
              have hq3 : IntKind.i64.wrap ((x.size : Int) - (p : Int)) = (q : Int) := by rw [IntWalk.i64_in _ (by omega)]; omega
              have hps : (p : Int) ≤ x.size := by omega
              have B5 := Lib.hid B2.out.drew
              have G5 : Hid (OwnG w.heap.size w5.drew (.slice A t.length c) t) := Lib.hid G2.out
              have D5 : Hid (OwnS w.heap.size w5.drew (.slice (some ⟨b3, o3, none⟩) d.length dc) d) := Lib.hid D2.out
              obtain ⟨tu, htu⟩ : ∃ tu, t ++ u = tu := ⟨_, rfl⟩
              have htul : tu.length ≤ 100 + 1018 * ((i1 + 1) + 1) ∧ 1 ≤ tu.length := by rw [← htu, List.length_append]; omega
              have HTU := Lib.hid htu
              have HTN2 : Hid (tu = hh ++ dicB [] (d.take ((i1 + 1) + 1))) := Lib.hid (by rw [← htu]; exact HTN.out)
              clear htu
              have HX5 : Hid (w5.drew.cell? ⟨b3, o3 + (i1 + 1), none⟩ = some (.string x)) := Lib.hid hcx2
              have hbw5 : b3 < w5.drew.heap.size := hbw
              have hix : ((i1 : Int) + 1 : Int) < d.length := by omega
              go_wp2
              go_region_law (first
                | (refine step_append_run (by rfl) (.tmp 54) (.tmp 72) 49 9 (by rfl) (.slice A t.length c) (.string ⟨u.toArray⟩) (by rfl) (by rfl) _ w8 hr8 ?_)
                | (go_simp; go_at_call 37; (with_reducible refine (KP.out _).mono ?_); rintro e w6 ⟨rfl, hb6⟩; have B6 := Lib.hid (B5.out.trans (hb6.mono B5.out.size)); have G6 := Lib.hid (G5.out.step hb6); have D6 := Lib.hid (D5.out.step hb6); have hcx6 := (hb6.cell (p := ⟨b3, o3 + (i1 + 1), none⟩) hbw5).trans HX5.out; have hbw6 := Nat.lt_of_lt_of_le hbw5 hb6.size)
                | (go_simp; go_at_call 37; (with_reducible refine (KQ.out _).mono ?_); rintro e w7 ⟨rfl, hb7⟩; have B7 := Lib.hid (B6.out.trans (hb7.mono B6.out.size)); have G7 := Lib.hid (G6.out.step hb7); have D7 := Lib.hid (D6.out.step hb7); have hcx7 := (hb7.cell (p := ⟨b3, o3 + (i1 + 1), none⟩) hbw6).trans hcx6; obtain ⟨v8, w8, hr8, ho8, hg8⟩ := run_app_str w.heap.size 49 w7 _ t u G7.out B7.out.size (by omega); rw [HTU.out] at ho8; obtain ⟨A8, c8, rfl⟩ := ho8.form; have G8 := Lib.hid ho8; have D8 := Lib.hid (D7.out.far G7.out hg8); have B8 := Lib.hid (B7.out.grown hg8 B7.out.size (fun k hk => (G7.out.lt k hk).1))))
              all_goals
                go_simp
                go_wp2
                go_roundw
                case rel => exact ⟨(i1 + 1) + 1, tu, A8, c8, by omega, htul.1, htul.2, rfl, by go_num, HTN2, G8, D8, B8⟩
                case measure => simp [intOf]; omega
          · obtain rfl : i = d.length := by omega
            have HT0 : Hid (encL l = t ++ runB d (rle (l.drop 0))) := Lib.hid (by rw [HEL.out, HT.out, List.take_length, List.drop_zero])
            have hdl0 : ¬ ((d.length : Int) < d.length) := by omega
            have htl0 : t.length ≤ 3000000 := by omega
            clear HT htl HEL HDS hhl hhp hcat
            generalize wr = w5 at *
            go_wp2
            go_loopw [6, 9] (fun vo vi wr => ∃ (i : Nat) (t : List UInt8) (A : Option Addr) (c : Nat), i ≤ l.length ∧ t.length ≤ 3000000 + 20 * i ∧ 1 ≤ t.length ∧ vo = .slice A t.length c ∧ vi = .int .i64 i ∧ Hid (encL l = t ++ runB d (rle (l.drop i))) ∧ Hid (OwnG w.heap.size wr vo t) ∧ Hid (OwnS w.heap.size wr (.slice dA d.length dc) d) ∧ Hid (Below w.heap.size w wr))
              (fun _ vi _ => l.length - (intOf vi).toNat)
            case atStart => exact ⟨0, t, _, _, Nat.zero_le _, by omega, htp, rfl, rfl, HT0, HG, HOd, HB⟩
            case round =>
              clear HG HOd HB HT0 htl0 htp
              obtain ⟨i, t, A, c, hi, htl, htp, rfl, rfl, HT, HG, HOd, HB⟩ := hrel
              by_cases hlt : i < l.length
              · obtain ⟨b, o, rfl, hb, hcl⟩ := HX.out (by omega)
                have HCL := Lib.hid hcl
                have hii : (i : Int) < l.length := by omega
                obtain ⟨x, hx⟩ : ∃ x, l[i] = x := ⟨_, rfl⟩
                have hxl : l[i]?.getD ⟨#[]⟩ = x := by rw [at_get hlt, hx]
                have hcx0 := hcl i hlt
                rw [hxl] at hcx0
                have HCX := Lib.hid hcx0
                have HXM : Hid (x ∈ l) := Lib.hid (by rw [← hx]; exact List.getElem_mem hlt)
                have HXL := Lib.hid hxl
                clear hcl hx hxl hcx0
                generalize wr = w5 at *
                go_wp2
                go_loopw [10] (fun vn wr => ∃ n : Nat, 1 ≤ n ∧ i + n ≤ l.length ∧ vn = .int .i64 n ∧ Hid (Seg l i (i + n) x) ∧ Hid (OwnG w.heap.size wr (.slice A t.length c) t) ∧ Hid (OwnS w.heap.size wr (.slice dA d.length dc) d) ∧ Hid (Below w.heap.size w wr))
                  (fun vn _ => l.length - (intOf vn).toNat)
                case atStart => exact ⟨1, Nat.le_refl _, by omega, rfl, Lib.hid (fun j h1 h2 => by obtain rfl : j = i := (by omega); exact HXL.out), HG, HOd, HB⟩
                case round =>
                  clear HG HOd HB
                  obtain ⟨n, hn1, hin, rfl, HS, HG, HOd, HB⟩ := hrel
                  obtain ⟨k, hk⟩ : ∃ k, i + n = k := ⟨_, rfl⟩
                  have hwk : IntKind.i64.wrap ((i : Int) + (n : Int)) = (k : Int) := by rw [IntWalk.i64_in _ (by omega)]; omega
                  have hcx := (HB.out.cell (p := ⟨b, o + i, none⟩) hb).trans HCX.out
                  have hend : Hid ((k < l.length → l[k]?.getD ⟨#[]⟩ ≠ x) → rle (l.drop i) = (x, n) :: rle (l.drop k)) := Lib.hid fun h => by
                    have h9 := run_end (zs := l) (st := i) (k := k - 1) (x := x) (by omega) (by omega) (by rw [show k - 1 + 1 = k by omega, ← hk]; exact HS.out) (by rw [show k - 1 + 1 = k by omega]; exact h)
                    rw [show k - 1 + 1 = k by omega, show k - 1 - i + 1 = n by omega] at h9
                    exact h9
                  by_cases hkl : k < l.length
                  · have g1 : decide ((k : Int) < l.length) = true := decide_eq_true (by omega)
                    have hki : (k : Int) < l.length := by omega
                    have hcy := (HB.out.cell (p := ⟨b, o + k, none⟩) hb).trans (HCL.out k hkl)
                    obtain ⟨y, hy⟩ : ∃ y, l[k]?.getD ⟨#[]⟩ = y := ⟨_, rfl⟩
                    rw [hy] at hcy
                    by_cases hyx : y = x
                    · have hqq := eq_yes hyx
                      have HS2 : Hid (Seg l i (i + (n + 1)) x) := Lib.hid (fun j h1 h2 => by
                        by_cases e : j = k
                        · rw [e, hy, hyx]
                        · exact HS.out j h1 (by omega))
                      clear hend HS hyx hy
                      go_wp2
                      go_quiet (fail)
                      go_wp2
                      go_roundw
                      case rel => exact ⟨n + 1, by omega, by omega, by go_num, HS2, Lib.hid (HG.out.step (below_drewP (Below.refl _ _) _)), Lib.hid (HOd.out.step (below_drewP (Below.refl _ _) _)), Lib.hid (below_drewP HB.out _)⟩
                      case measure => simp [intOf]; omega
                    · have hqq := eq_no hyx
                      have HR : Hid (rle (l.drop i) = (x, n) :: rle (l.drop k)) := Lib.hid (hend.out fun _ => by rw [hy]; exact hyx)
                      clear hend HS hyx hy
                      go_wp2
                      go_quiet (fail)
                      have B5 := Lib.hid (below_drewP HB.out nq)
                      have G5 := Lib.hid (HG.out.step (below_drewP (Below.refl _ _) nq))
                      have D5 := Lib.hid (HOd.out.step (below_drewP (Below.refl _ _) nq))
                      have KI := Lib.hid (index_any d (by omega) x (.slice dA d.length dc) (wr.drewN nq) D5.out.strs.at)
                      obtain ⟨m, hm1, hmd, _⟩ := idxI_mem (HDM.out x HXM.out)
                      obtain ⟨q, hqn⟩ : ∃ q, q + 1 = n := ⟨n - 1, by omega⟩
                      have hwq : IntKind.i64.wrap ((n : Int) - 1) = (q : Int) := by rw [IntWalk.i64_in _ (by omega)]; omega
                      obtain ⟨u, hu⟩ : ∃ u, uv m ++ uv q = u := ⟨_, rfl⟩
                      have hul : u.length ≤ 18 := by
                        have q1 := uv_len9 (m := m) (by omega)
                        have q2 := uv_len9 (m := q) (by omega)
                        rw [← hu, List.length_append]
                        unfold uv
                        omega
                      have hcat3 : ((⟨(uv m).toArray⟩ : BA) ++ (⟨(uv q).toArray⟩ : BA) : BA) = ⟨u.toArray⟩ := of_list (by rw [app_list, hu])
                      have hok3 : ¬ (9223372036854775807 < (⟨(uv m).toArray⟩ : BA).size + (⟨(uv q).toArray⟩ : BA).size) := cat_ok (by omega) (by omega)
                      have KP := Lib.hid fun v => number_any m (by omega) v
                      have KQ := Lib.hid fun v => number_any q (by omega) v
                      generalize (⟨(uv m).toArray⟩ : BA) = tp at *
                      generalize (⟨(uv q).toArray⟩ : BA) = tq at *
                      obtain ⟨tu, htu⟩ : ∃ tu, t ++ u = tu := ⟨_, rfl⟩
                      have htul : tu.length ≤ 3000000 + 20 * k ∧ 1 ≤ tu.length := by rw [← htu, List.length_append]; omega
                      have HTN2 : Hid (encL l = tu ++ runB d (rle (l.drop k))) := Lib.hid (by rw [HT.out, HR.out, runB_cons, hm1, ← htu, ← hu, ← hqn]; simp only [Int.toNat_natCast, Nat.add_sub_cancel, List.append_assoc])
                      have HTU := Lib.hid htu
                      clear htu hu hqn HT HR
                      rw [hm1] at KI
                      clear hm1
                      go_wp2_with fail
                      refine KI.out.mono ?_
                      rintro e w5 ⟨rfl, rfl⟩
                      go_wp2_with fail
                      refine (KP.out _).mono ?_
                      rintro e w6 ⟨rfl, hb6⟩
                      have B6 := Lib.hid (B5.out.trans (hb6.mono B5.out.size))
                      have G6 := Lib.hid (G5.out.step hb6)
                      have D6 := Lib.hid (D5.out.step hb6)
                      clear hb6 KP KI
                      go_wp2_with fail
                      refine (KQ.out _).mono ?_
                      rintro e w7 ⟨rfl, hb7⟩
                      have B7 := Lib.hid (B6.out.trans (hb7.mono B6.out.size))
                      have G7 := Lib.hid (G6.out.step hb7)
                      have D7 := Lib.hid (D6.out.step hb7)
                      obtain ⟨v8, w8, hr8, ho8, hg8⟩ := run_app_str w.heap.size 49 w7 _ t u G7.out B7.out.size (by omega)
                      rw [HTU.out] at ho8
                      obtain ⟨A8, c8, rfl⟩ := ho8.form
                      have G8 := Lib.hid ho8
                      have D8 := Lib.hid (D7.out.far G7.out hg8)
                      have B8 := Lib.hid (B7.out.grown hg8 B7.out.size (fun k hk => (G7.out.lt k hk).1))
                      clear hb7 KQ ho8 hg8
                      go_wp2_with (refine wpList_append_run2 _ (by rfl) (.tmp 99) (.tmp 110) 49 9 (by rfl) (.slice A t.length c) (.string ⟨u.toArray⟩) (by rfl) (by rfl) hr8 ?_)
                      go_roundw
                      case rel => exact ⟨k, tu, A8, c8, by omega, htul.1, htul.2, rfl, by go_num, HTN2, G8, D8, B8⟩
                      case measure => simp [intOf]; omega
                  · have g1 : decide ((k : Int) < l.length) = false := decide_eq_false (by omega)
                    have HR : Hid (rle (l.drop i) = (x, n) :: rle (l.drop k)) := Lib.hid (hend.out fun h => absurd h hkl)
                    clear hend HS
                    go_wp2
                    go_quiet (fail)
                    have B5 := Lib.hid (below_drewP HB.out nq)
                    have G5 := Lib.hid (HG.out.step (below_drewP (Below.refl _ _) nq))
                    have D5 := Lib.hid (HOd.out.step (below_drewP (Below.refl _ _) nq))
                    have KI := Lib.hid (index_any d (by omega) x (.slice dA d.length dc) (wr.drewN nq) D5.out.strs.at)
                    obtain ⟨m, hm1, hmd, _⟩ := idxI_mem (HDM.out x HXM.out)
                    obtain ⟨q, hqn⟩ : ∃ q, q + 1 = n := ⟨n - 1, by omega⟩
                    have hwq : IntKind.i64.wrap ((n : Int) - 1) = (q : Int) := by rw [IntWalk.i64_in _ (by omega)]; omega
                    obtain ⟨u, hu⟩ : ∃ u, uv m ++ uv q = u := ⟨_, rfl⟩
                    have hul : u.length ≤ 18 := by
                      have q1 := uv_len9 (m := m) (by omega)
                      have q2 := uv_len9 (m := q) (by omega)
                      rw [← hu, List.length_append]
                      unfold uv
                      omega
                    have hcat3 : ((⟨(uv m).toArray⟩ : BA) ++ (⟨(uv q).toArray⟩ : BA) : BA) = ⟨u.toArray⟩ := of_list (by rw [app_list, hu])
                    have hok3 : ¬ (9223372036854775807 < (⟨(uv m).toArray⟩ : BA).size + (⟨(uv q).toArray⟩ : BA).size) := cat_ok (by omega) (by omega)
                    have KP := Lib.hid fun v => number_any m (by omega) v
                    have KQ := Lib.hid fun v => number_any q (by omega) v
                    generalize (⟨(uv m).toArray⟩ : BA) = tp at *
                    generalize (⟨(uv q).toArray⟩ : BA) = tq at *
                    obtain ⟨tu, htu⟩ : ∃ tu, t ++ u = tu := ⟨_, rfl⟩
                    have htul : tu.length ≤ 3000000 + 20 * k ∧ 1 ≤ tu.length := by rw [← htu, List.length_append]; omega
                    have HTN2 : Hid (encL l = tu ++ runB d (rle (l.drop k))) := Lib.hid (by rw [HT.out, HR.out, runB_cons, hm1, ← htu, ← hu, ← hqn]; simp only [Int.toNat_natCast, Nat.add_sub_cancel, List.append_assoc])
                    have HTU := Lib.hid htu
                    clear htu hu hqn HT HR
                    rw [hm1] at KI
                    clear hm1
                    go_wp2_with fail
                    refine KI.out.mono ?_
                    rintro e w5 ⟨rfl, rfl⟩
                    go_wp2_with fail
                    refine (KP.out _).mono ?_
                    rintro e w6 ⟨rfl, hb6⟩
                    have B6 := Lib.hid (B5.out.trans (hb6.mono B5.out.size))
                    have G6 := Lib.hid (G5.out.step hb6)
                    have D6 := Lib.hid (D5.out.step hb6)
                    clear hb6 KP KI
                    go_wp2_with fail
                    refine (KQ.out _).mono ?_
                    rintro e w7 ⟨rfl, hb7⟩
                    have B7 := Lib.hid (B6.out.trans (hb7.mono B6.out.size))
                    have G7 := Lib.hid (G6.out.step hb7)
                    have D7 := Lib.hid (D6.out.step hb7)
                    obtain ⟨v8, w8, hr8, ho8, hg8⟩ := run_app_str w.heap.size 49 w7 _ t u G7.out B7.out.size (by omega)
                    rw [HTU.out] at ho8
                    obtain ⟨A8, c8, rfl⟩ := ho8.form
                    have G8 := Lib.hid ho8
                    have D8 := Lib.hid (D7.out.far G7.out hg8)
                    have B8 := Lib.hid (B7.out.grown hg8 B7.out.size (fun k hk => (G7.out.lt k hk).1))
                    clear hb7 KQ ho8 hg8
                    go_wp2_with (refine wpList_append_run2 _ (by rfl) (.tmp 99) (.tmp 110) 49 9 (by rfl) (.slice A t.length c) (.string ⟨u.toArray⟩) (by rfl) (by rfl) hr8 ?_)
                    go_roundw
                    case rel => exact ⟨k, tu, A8, c8, by omega, htul.1, htul.2, rfl, by go_num, HTN2, G8, D8, B8⟩
                    case measure => simp [intOf]; omega
              · have HT2 : Hid (encL l = t) := Lib.hid (by rw [HT.out, List.drop_eq_nil_of_le (by omega)]; simp [rle, runB])
                have hii : ¬ ((i : Int) < l.length) := by omega
                by_cases hlong : 1048576 < t.length
                · have hli : (1048576 : Int) < t.length := by omega
                  have HE := Lib.hid (encO_long (l := l) (by rw [HT2.out]; omega))
                  clear HT HT2
                  go_wp2
                  go_ret2
                  exact EncQ.bad HE.out HB.out
                · have hli : ¬ ((1048576 : Int) < t.length) := by omega
                  obtain ⟨g9, c9, hv, hcb⟩ := conv_back HG.out htp
                  obtain ⟨rfl, rfl⟩ : A = some ⟨g9, 0, none⟩ ∧ c = c9 := by injection hv with h1 _ h2; exact ⟨h1, h2⟩
                  have HE : Hid (encO l = (t, 0)) := Lib.hid (by have := encO_ok HOK.out (by rw [HT2.out]; omega); rw [HT2.out] at this; exact this)
                  clear HT HT2 hv
                  go_wp2_with (refine wpList_convert_run _ (by rfl) (.tmp 118) 49 9 (by rfl) _ (by rfl) hcb ?_)
                  go_ret2
                  exact EncQ.ok HE.out HB.out
end Go.Proofs.Ytpinmmmbmhfmiaa.Dt
