/- Layer 10: the reference's number, common, index, Same, Great, read. -/
import Derived.Test.YtpinmmmbmhfmiaaDtK
import Derived.Test.YtpinmmmbmhfmiaaGet
import Derived.Deep.QuietTactic
import Derived.BigQuiet
set_option linter.unusedVariables false
set_option linter.unusedSimpArgs false
namespace Go.Proofs.Ytpinmmmbmhfmiaa.Dt
open Go.RowKit Dc
theorem nil_app (l : List UInt8) : ((⟨#[]⟩ : ByteArray) ++ (⟨l.toArray⟩ : ByteArray)) = ⟨l.toArray⟩ := by
  apply of_list
  rw [app_list]
  rfl
set_option maxHeartbeats 400000 in
theorem number_any (n : Nat) (hn : n ≤ 1152921504606846976) (w : World) :
    Calls Try.prog 37 #[.int .i64 n] w fun e w' => e = .returned (.string ⟨(uv n).toArray⟩) ∧ Below w.heap.size w w' := by
  have HA := Lib.hid (refAppend_any ⟨#[]⟩ n w (by decide) hn)
  rw [nil_app] at HA
  go_enter Try.func37, Try.ntmps37
  go_wp2_with fail
  refine HA.out.mono ?_
  rintro e w1 ⟨rfl, hb⟩
  have B1 := Lib.hid hb
  clear hb HA
  go_wp2
  go_ret
  exact ⟨rfl, B1.out⟩
theorem byte_at {s : BA} {k : Nat} (h : k < s.size) : s.data.toList[k]? = some s[k] := by
  rw [List.getElem?_eq_getElem (by rw [Array.length_toList]; exact h)]
  rfl
set_option maxHeartbeats 1000000 in
set_option maxRecDepth 100000 in
theorem common_any (a b : BA) (ha : a.size ≤ 4294967000) (w : World) :
    Calls Try.prog 38 #[.string a, .string b] w fun e w' => e = .returned (.int .i64 (comN a.data.toList b.data.toList)) ∧ Below w.heap.size w w' := by
  have hal : a.data.toList.length = a.size := Array.length_toList
  have hbl : b.data.toList.length = b.size := Array.length_toList
  have HC := Lib.hid fun k => comN_is a.data.toList b.data.toList k
  have HA := Lib.hid hal
  have HB2 := Lib.hid hbl
  clear hal hbl
  generalize comN a.data.toList b.data.toList = r at *
  go_enter Try.func38, Try.ntmps38
  go_wp2
  go_loopw [5] (fun vi wr => ∃ k : Nat, k ≤ a.size ∧ k ≤ b.size ∧ vi = .int .i64 k ∧ Hid (∀ j, j < k → a.data.toList[j]? = b.data.toList[j]?) ∧ Hid (Below w.heap.size w wr))
    (fun vi _ => a.size - (intOf vi).toNat)
  case atStart => exact ⟨0, Nat.zero_le _, Nat.zero_le _, rfl, Lib.hid (fun j h => by omega), Lib.hid (Below.refl _ _)⟩
  case round =>
    obtain ⟨k, hka, hkb, rfl, HP, HB⟩ := hrel
    have hend : Hid ((k < a.size → k < b.size → a.data.toList[k]? ≠ b.data.toList[k]?) → r = k) := Lib.hid fun hn => HC.out k (fun j hj => ⟨by rw [HA.out]; omega, by rw [HB2.out]; omega, HP.out j hj⟩) (fun h1 h2 => hn (by rw [HA.out] at h1; exact h1) (by rw [HB2.out] at h2; exact h2))
    by_cases h1 : k < a.size
    · have g1 : decide ((k : Int) < a.size) = true := decide_eq_true (by omega)
      by_cases h2 : k < b.size
      · have g2 : decide ((k : Int) < b.size) = true := decide_eq_true (by omega)
        have e1 := byte_at h1
        have e2 := byte_at h2
        have i1 : (k : Int) < a.size := by omega
        have i2 : (k : Int) < b.size := by omega
        by_cases hq : a[k] = b[k]
        · have hqq : ((a[k].toNat : Int) == (b[k].toNat : Int)) = true := by rw [hq]; simp
          have HN : Hid (∀ j, j < k + 1 → a.data.toList[j]? = b.data.toList[j]?) := Lib.hid fun j hj => by
            by_cases e : j = k
            · rw [e, e1, e2, hq]
            · exact HP.out j (by omega)
          clear HP hq e1 e2 hend HC
          go_wp2
          go_quiet (fail)
          go_wp2
          go_roundw
          case rel => exact ⟨k + 1, by omega, by omega, by go_num, HN, Lib.hid (below_drewP HB.out _)⟩
          case measure => simp [intOf]; omega
        · have hqq : ((a[k].toNat : Int) == (b[k].toNat : Int)) = false := by
            rw [beq_eq_false_iff_ne]
            exact fun e => hq (UInt8.toNat_inj.1 (by omega))
          have HN := Lib.hid (hend.out fun _ _ => by rw [e1, e2]; exact fun e => hq (Option.some.inj e))
          clear HP hq e1 e2 hend HC
          go_wp2
          go_quiet (fail)
          go_wp2
          go_ret
          rw [HN.out]
          exact ⟨rfl, below_drewP HB.out _⟩
      · have g2 : decide ((k : Int) < b.size) = false := decide_eq_false (by omega)
        have HN := Lib.hid (hend.out fun _ h => absurd h h2)
        clear HP hend HC
        go_wp2
        go_quiet (fail)
        go_wp2
        go_ret
        rw [HN.out]
        exact ⟨rfl, below_drewP HB.out _⟩
    · have g1 : decide ((k : Int) < a.size) = false := decide_eq_false (by omega)
      have HN := Lib.hid (hend.out fun h => absurd h h1)
      clear HP hend HC
      go_wp2
      go_quiet (fail)
      go_wp2
      go_ret
      rw [HN.out]
      exact ⟨rfl, below_drewP HB.out _⟩
set_option maxHeartbeats 1000000 in
set_option maxRecDepth 100000 in
theorem index_any (l : List BA) (hl : l.length ≤ 1000000) (s : BA) (sv : Value) (w : World) (hI : StrsAt w.heap.size w sv l) :
    Calls Try.prog 39 #[sv, .string s] w fun e w' => e = .returned (.int .i64 (idxI s l)) ∧ w = w' := by
  obtain ⟨a, cap, rfl, hcx⟩ := hI
  have HX := Lib.hid hcx
  have HN := Lib.hid (@idxI_none s l)
  have HA := Lib.hid fun k => @idxI_at s l k
  clear hcx
  generalize idxI s l = r at *
  go_enter Try.func39, Try.ntmps39
  go_wp2
  go_loop [5] (fun vi => ∃ k : Nat, k ≤ l.length ∧ vi = .int .i64 k ∧ Hid (∀ j (h : j < l.length), j < k → l[j] ≠ s)) (fun vi => l.length - (intOf vi).toNat)
  case atStart => exact ⟨0, Nat.zero_le _, rfl, Lib.hid (fun j _ h => by omega)⟩
  case round =>
    obtain ⟨k, hk, rfl, HP⟩ := hrel
    by_cases hlt : k < l.length
    · obtain ⟨b, o, rfl, hb, hc⟩ := HX.out (by omega)
      have hcell := hc k hlt
      rw [at_get hlt] at hcell
      have hi : (k : Int) < l.length := by omega
      by_cases hq : l[k] = s
      · have hqq := eq_yes hq
        have HE := Lib.hid (HA.out k hlt hq (fun j hj => HP.out j (by omega) hj))
        generalize l[k] = x at *
        clear hc HX HN HA HP hq
        go_wp2
        go_ret
        rw [HE.out]
        exact ⟨rfl, rfl⟩
      · have hqq := eq_no hq
        have HP2 : Hid (∀ j (h : j < l.length), j < k + 1 → l[j] ≠ s) := Lib.hid fun j h hj => by
          by_cases e : j = k
          · subst e; exact hq
          · exact HP.out j h (by omega)
        generalize l[k] = x at *
        clear hc HN HA HP hq
        go_wp2
        go_round
        case rel => exact ⟨k + 1, by omega, by go_num, HP2⟩
        case measure => simp [intOf]; omega
    · have HE := Lib.hid (HN.out fun j hj => HP.out j hj (by omega))
      clear HX HN HA HP
      go_wp2
      go_ret
      rw [HE.out]
      exact ⟨rfl, rfl⟩
/-- Whether two lists of strings are equal. -/
def sameS (a b : List BA) : Bool := decide (a = b)
theorem sameS_refl (a : List BA) : sameS a a = true := by unfold sameS; rw [decide_eq_true_iff]
theorem sameS_no {a b : List BA} (h : a ≠ b) : sameS a b = false := by unfold sameS; rw [decide_eq_false_iff_not]; exact h
theorem sameS_iff {a b : List BA} : sameS a b = true ↔ a = b := by unfold sameS; rw [decide_eq_true_iff]
set_option maxHeartbeats 1000000 in
set_option maxRecDepth 100000 in
theorem same_any_S (xs ys : List BA) (hx : xs.length ≤ 1000000) (sx sy : Value) (w : World) (hX : StrsAt w.heap.size w sx xs) (hY : StrsAt w.heap.size w sy ys) :
    Calls Try.prog 25 #[sx, sy] w fun e w' => e = .returned (.bool (sameS xs ys)) ∧ Below w.heap.size w w' := by
  obtain ⟨a, cap, rfl, hcx⟩ := hX
  obtain ⟨b, cap2, rfl, hcy⟩ := hY
  have HX := Lib.hid hcx
  have HY := Lib.hid hcy
  clear hcx hcy
  by_cases hlen : xs.length = ys.length
  · have hne : ((xs.length : Int) != ys.length) = false := by rw [hlen]; simp
    have HL := Lib.hid hlen
    have hle1 : xs.length ≤ ys.length := by omega
    have hle2 : ys.length ≤ xs.length := by omega
    clear hlen
    go_enter Try.func25, Try.ntmps25
    go_wp2
    go_loopw [5] (fun vi wr => ∃ k : Nat, k ≤ xs.length ∧ vi = .int .i64 k ∧ Hid (∀ j, j < k → xs[j]? = ys[j]?) ∧ Hid (Below w.heap.size w wr))
      (fun vi _ => xs.length - (intOf vi).toNat)
    case atStart => exact ⟨0, Nat.zero_le _, rfl, Lib.hid (by intro j h; omega), Lib.hid (Below.refl _ _)⟩
    case round =>
      obtain ⟨k, hk, rfl, HP, HB⟩ := hrel
      by_cases hlt : k < xs.length
      · have hlt2 : k < ys.length := by omega
        obtain ⟨b1, o1, rfl, hb1, hc1⟩ := HX.out (by omega)
        obtain ⟨b2, o2, rfl, hb2, hc2⟩ := HY.out (by omega)
        have hcell1 := (HB.out.cell (p := ⟨b1, o1 + k, none⟩) (by simp; omega)).trans (hc1 k hlt)
        have hcell2 := (HB.out.cell (p := ⟨b2, o2 + k, none⟩) (by simp; omega)).trans (hc2 k hlt2)
        rw [at_get hlt] at hcell1
        rw [at_get hlt2] at hcell2
        have hi1 : (k : Int) < xs.length := by omega
        have hi2 : (k : Int) < ys.length := by omega
        by_cases hq : xs[k] = ys[k]
        · have hqq := eq_yes hq
          have HN : Hid (∀ j, j < k + 1 → xs[j]? = ys[j]?) := Lib.hid fun j hj => by
            by_cases e : j = k
            · rw [e, List.getElem?_eq_getElem hlt, List.getElem?_eq_getElem hlt2, hq]
            · exact HP.out j (by omega)
          generalize xs[k] = x at *
          generalize ys[k] = y at *
          clear hc1 hc2 HP hq HL
          go_wp2
          go_quiet (fail)
          go_wp2
          go_roundw
          case rel => exact ⟨k + 1, by omega, by go_num, HN, Lib.hid (below_drewP HB.out _)⟩
          case measure => simp [intOf]; omega
        · have hqq := eq_no hq
          have HN := Lib.hid (sameS_no (a := xs) (b := ys) fun e => hq (by subst e; rfl))
          generalize xs[k] = x at *
          generalize ys[k] = y at *
          clear hc1 hc2 HP hq HL
          go_wp2
          go_quiet (fail)
          go_wp2
          go_ret
          exact ⟨by rw [HN.out]; rfl, below_drewP HB.out _⟩
      · have HE : Hid (sameS xs ys = true) := Lib.hid (sameS_iff.2 (List.ext_getElem? fun j => by
          by_cases h : j < k
          · exact HP.out j h
          · rw [List.getElem?_eq_none (by omega), List.getElem?_eq_none (by have := HL.out; omega)]))
        clear HX HY HL HP
        go_wp2
        go_ret
        exact ⟨by rw [HE.out]; rfl, HB.out⟩
  · have hne : ((xs.length : Int) != ys.length) = true := by rw [bne_iff_ne]; omega
    have HE := Lib.hid (sameS_no (a := xs) (b := ys) fun e => hlen (by rw [e]))
    clear hlen
    go_enter Try.func25, Try.ntmps25
    go_wp2
    go_ret
    exact ⟨by rw [HE.out]; rfl, Below.refl _ _⟩
/-- How large a list is. -/
def totS (l : List BA) : Nat := (l.map (·.size)).sum
theorem totS_snoc (l : List BA) (x : BA) : totS (l ++ [x]) = totS l + x.size := by unfold totS; rw [List.map_append, List.sum_append]; simp
theorem totS_take {l : List BA} {k : Nat} (h : k < l.length) : totS (l.take (k + 1)) = totS (l.take k) + l[k].size := by rw [List.take_succ_eq_append_getElem h, totS_snoc]
theorem totS_mem : ∀ {l : List BA} {x : BA}, x ∈ l → x.size ≤ totS l
  | y :: l, x, h => by
    unfold totS
    rw [List.map_cons, List.sum_cons]
    rcases List.mem_cons.1 h with rfl | h
    · omega
    · have := totS_mem h
      unfold totS at this
      omega
/-- What Great says of a list. -/
def GreatP (l : List BA) (b : Bool) : Prop := (b = false → l.length ≤ 40 ∧ totS l ≤ 3000)
def GreatQ (l : List BA) (e : Ending) : Prop := ∃ b, e = .returned (.bool b) ∧ GreatP l b
set_option maxHeartbeats 1000000 in
set_option maxRecDepth 100000 in
theorem great_any (l : List BA) (hs : ∀ x ∈ l, x.size ≤ 140737488351232) (sv : Value) (w : World) (hI : StrsAt w.heap.size w sv l) :
    Calls Try.prog 11 #[sv] w fun e w' => GreatQ l e ∧ w = w' := by
  obtain ⟨a, cap, rfl, hcx⟩ := hI
  have HX := Lib.hid hcx
  have HS := Lib.hid hs
  clear hcx hs
  go_enter Try.func11, Try.ntmps11
  go_wp2
  go_loop [3, 4] (fun vn vi => ∃ k n : Nat, k ≤ l.length ∧ k ≤ 41 ∧ n ≤ 3000 ∧ vn = .int .i64 n ∧ vi = .int .i64 k ∧ Hid (n = totS (l.take k))) (fun _ vi => l.length - (intOf vi).toNat)
  case atStart => exact ⟨0, 0, Nat.zero_le _, by omega, by omega, rfl, rfl, Lib.hid (by simp [totS])⟩
  case round =>
    obtain ⟨k, n, hk, hk41, hn, rfl, rfl, HN⟩ := hrel
    by_cases hlt : k < l.length
    · by_cases h41 : k < 41
      · obtain ⟨b, o, rfl, hb, hc⟩ := HX.out (by omega)
        have hcell := hc k hlt
        rw [at_get hlt] at hcell
        have hi : (k : Int) < l.length := by omega
        have hsz := HS.out l[k] (List.getElem_mem hlt)
        have HT := Lib.hid (totS_take hlt)
        obtain ⟨x, hx⟩ : ∃ x, l[k] = x := ⟨_, rfl⟩
        rw [hx] at hcell hsz HT
        have hw : wrap64 ((n : Int) + x.size) = ((n + x.size : Nat) : Int) := by unfold wrap64; omega
        clear hc hx
        by_cases hbig : 3000 < n + x.size
        · have hbig' : (3000 : Int) < ((n + x.size : Nat) : Int) := by omega
          clear HT HN
          go_wp2
          go_ret
          exact ⟨⟨true, rfl, fun h => by cases h⟩, rfl⟩
        · have hbig' : ¬ ((3000 : Int) < ((n + x.size : Nat) : Int)) := by omega
          have HN2 : Hid (n + x.size = totS (l.take (k + 1))) := Lib.hid (by rw [HT.out, ← HN.out])
          clear HT HN
          go_wp2
          go_round
          case rel => exact ⟨k + 1, n + x.size, by omega, by omega, by omega, by go_num, by go_num, HN2⟩
          case measure => simp [intOf]; omega
      · have hi : (k : Int) < l.length := by omega
        have hl40 : (40 : Int) < l.length := by omega
        clear HN HX
        go_wp2
        go_ret
        exact ⟨⟨true, rfl, fun h => by cases h⟩, rfl⟩
    · have HF : Hid (n = totS l) := Lib.hid (by have h := HN.out; rw [List.take_of_length_le (by omega)] at h; exact h)
      clear HN HX
      go_wp2
      go_ret
      refine ⟨⟨_, rfl, fun h => ?_⟩, rfl⟩
      have h2 : decide ((40 : Int) < l.length) = false := h
      rw [decide_eq_false_iff_not] at h2
      exact ⟨by omega, by rw [← HF.out]; exact hn⟩
end Go.Proofs.Ytpinmmmbmhfmiaa.Dt
