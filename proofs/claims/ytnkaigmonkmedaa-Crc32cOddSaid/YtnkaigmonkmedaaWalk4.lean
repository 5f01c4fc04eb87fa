/- The walk of the law Crc32cOdd. -/
import Derived.Test.YtnkaigmonkmedaaWalk2
import Derived.OpenShut
namespace Go.Proofs.Ytnkaigmonkmedaa
open Go.RowKit

theorem World.cell_lt {w : World} {a : Addr} {v : Value} (h : w.cell? a = some v) : a.block < w.heap.size := by
  rcases Nat.lt_or_ge a.block w.heap.size with h' | h'
  · exact h'
  · simp [World.cell?, Array.getElem?_eq_none h'] at h
/-- A slice of 16-bit numbers that came in. -/
def BitsAt (w : World) (a : Option Addr) (ks : List Nat) : Prop :=
  (∀ j, j < ks.length → ks[j]?.getD 0 < 65536) ∧ (0 < ks.length → ∃ b off, a = some ⟨b, off, none⟩ ∧ b < w.heap.size ∧ ∀ j, j < ks.length → w.cell? ⟨b, off + j, none⟩ = some (.int .u16 (ks[j]?.getD 0 : Nat)))
theorem bitsAt_row {w : World} {a : Option Addr} {len cap : Nat} {zs : List Int}
    (h : (a = none ∧ len = 0 ∧ cap = 0 ∧ zs = []) ∨ ∃ x, a = some x ∧ len ≤ cap ∧ cap ≤ maxLen ∧ zs.length = cap ∧ (∀ i, i < zs.length → w.cell? (x.add i) = some (.int .u16 (zs.getD i 0))) ∧ ∀ n ∈ zs, (Lit.int .u16 n).wf = true) :
    len ≤ maxLen ∧ ∃ ks : List Nat, ks.length = len ∧ BitsAt w a ks := by
  rcases h with ⟨rfl, rfl, rfl, rfl⟩ | ⟨x, rfl, hl, hm, hz, hc, hw⟩
  · exact ⟨by unfold maxLen; omega, [], rfl, fun j hj => absurd hj (by simp), fun hj => absurd hj (by simp)⟩
  · have hlen : ((zs.take len).map Int.toNat).length = len := by rw [List.length_map, List.length_take]; omega
    have hval : ∀ j, j < len → (((((zs.take len).map Int.toNat)[j]?.getD 0 : Nat) : Int) = zs.getD j 0 ∧ ((zs.take len).map Int.toNat)[j]?.getD 0 < 65536) := by
      intro j hj
      have hjz : j < zs.length := by omega
      have hb := bounds_u16 (hw zs[j] (List.getElem_mem hjz))
      rw [List.getElem?_map, List.getElem?_take_of_lt hj, List.getElem?_eq_getElem hjz, List.getD_eq_getElem?_getD, List.getElem?_eq_getElem hjz]
      show ((zs[j].toNat : Nat) : Int) = zs[j] ∧ zs[j].toNat < 65536
      omega
    refine ⟨by omega, (zs.take len).map Int.toNat, hlen, fun j hj => (hval j (by omega)).2, fun h0 => ?_⟩
    obtain ⟨b, off, spot⟩ := x
    have hspot : spot = none := by simpa [Addr.add] using World.cell?_spot (hc 0 (by omega))
    subst hspot
    refine ⟨b, off, rfl, ?_, fun j hj => ?_⟩
    · have := World.cell_lt (hc 0 (by omega))
      simpa [Addr.add] using this
    · rw [hlen] at hj
      have h1 := hc j (by omega)
      have e : (⟨b, off, none⟩ : Addr).add j = ⟨b, off + j, none⟩ := by cases j <;> simp [Addr.add]
      rw [e] at h1
      rw [h1, (hval j hj).1]
/-- The bits that are turned, of n bytes. -/
def spots (n : Nat) (ks : List Nat) : List Nat := ks.map (· % (8 * n))
theorem spots_snoc (n : Nat) (ks : List Nat) (k : Nat) (hk : k < ks.length) : spots n (ks.take (k + 1)) = spots n (ks.take k) ++ [(ks[k]?.getD 0) % (8 * n)] := by
  unfold spots
  rw [List.take_succ_eq_append_getElem hk, List.map_append, List.getElem?_eq_getElem hk]
  rfl
theorem spots_lt (n : Nat) (hn : 0 < n) (ks : List Nat) : ∀ k ∈ spots n ks, k / 8 < n := by
  intro k hk
  unfold spots at hk
  obtain ⟨j, _, rfl⟩ := List.mem_map.1 hk
  have := Nat.mod_lt j (show 0 < 8 * n by omega)
  omega

set_option maxHeartbeats 2000000 in
set_option maxRecDepth 100000 in
theorem odd_walk (s : ByteArray) (a : Option Addr) (len cap : Nat) (ks : List Nat) (w : World) (hs : s.size ≤ maxLen) (hlm : len ≤ maxLen) (hkl : ks.length = len) (hI : BitsAt w a ks) :
    Calls Try.prog 9 #[.string s, .slice a len cap] w fun e w' => e = .returned (.bool true) ∧ Below w.heap.size w w' := by
  have hm : maxLen = 9223372036854775807 := by unfold maxLen; rfl
  rw [hm] at hs hlm
  subst hkl
  have HI := Lib.hid hI
  clear hI
  by_cases h3 : 300 < s.size
  · go_enter Try.func9, Try.ntmps9
    go_wp2_with fail
    refine (awake_any _).mono ?_
    rintro e w1 ⟨rfl, hb1⟩
    have H1 : Hid (Below w.heap.size w w1) := hb1
    clear hb1
    go_wp2
    go_ret
    exact ⟨rfl, H1.out⟩
  · by_cases h20 : 20 < ks.length
    · go_enter Try.func9, Try.ntmps9
      go_wp2_with fail
      refine (awake_any _).mono ?_
      rintro e w1 ⟨rfl, hb1⟩
      have H1 : Hid (Below w.heap.size w w1) := hb1
      clear hb1
      go_wp2
      go_ret
      exact ⟨rfl, H1.out⟩
    · have Q21 := Lib.hid fun w => seal_S s (by omega) w
      have hzs := sealS_size s
      have hzd := sealS_data s
      have hres := feed_seal s.data.toList
      rw [← hzd] at hres
      generalize sealS s = z at *
      have HRES := Lib.hid hres
      have HZS := Lib.hid hzs
      clear hzd hres
      have hzn : ((z.size : Int) != (s.size : Int) + 4) = false := by rw [hzs]; simp
      have hz1 : 0 < z.size := by omega
      have hz4 : 4 ≤ z.size := by omega
      have hz2 : z.size ≤ 304 := by omega
      clear hzs
      go_enter Try.func9, Try.ntmps9
      go_wp2_with fail
      refine (Q21.out _).mono ?_
      rintro e w1 ⟨rfl, hb1⟩
      obtain ⟨cap2, w2, hcv, hrow, hbel, hsz⟩ := conv_bytes z w1
      have HR := Lib.hid hrow
      have HB := Lib.hid (hb1.trans (hbel.mono hb1.size))
      have HW := Lib.hid hb1.size
      clear hrow hbel hsz hb1
      go_wp2
      go_loopw [33] (fun vi wr => ∃ (k : Nat), k ≤ ks.length ∧ vi = .int .i64 k ∧ RowIs wr w1.heap.size (flips z.data.toList (spots z.size (ks.take k))) ∧ Below w.heap.size w wr)
        (fun vi _ => ks.length - (intOf vi).toNat)
      case atStart => exact ⟨0, Nat.zero_le _, rfl, HR.out, HB.out⟩
      case round =>
        obtain ⟨k, hk, rfl, hrow, hB⟩ := hrel
        have HR2 := Lib.hid hrow
        have HB2 := Lib.hid hB
        clear hrow hB HR HB
        by_cases hlt : k < ks.length
        · obtain ⟨b, off, rfl, hbl, hcj⟩ := HI.out.2 (by omega)
          have hcell := (HB2.out.cell (p := ⟨b, off + k, none⟩) hbl).trans (hcj k hlt)
          have hx := HI.out.1 k hlt
          have HT := Lib.hid (spots_snoc z.size ks k hlt)
          clear hcj
          generalize ks[k]?.getD 0 = x at *
          have hq := Nat.mod_lt x (show 0 < 8 * z.size by omega)
          have hqx : (x : Int) % (8 * (z.size : Int)) = ((x % (8 * z.size) : Nat) : Int) := by simp
          have hlen := flips_length z.data.toList (spots z.size (ks.take k))
          rw [ba_size] at hlen
          generalize x % (8 * z.size) = q at *
          generalize hL : flips z.data.toList (spots z.size (ks.take k)) = L at *
          have hkL : q / 8 < L.length := by omega
          obtain ⟨hcell2, hfro⟩ := HR2.out (q / 8) hkL
          generalize hy : L[q / 8]?.getD 0 = y at *
          have HY := Lib.hid hy
          have HKL := Lib.hid hkL
          have HL := Lib.hid hL
          clear hy hkL hlen hL
          have hi1 : (q : Int) / 8 < z.size := by omega
          have hi0 : 0 ≤ (q : Int) / 8 := by omega
          have hkk : (k : Int) < ks.length := by omega
          have hz8 : ¬ (8 * (z.size : Int) = 0) := by omega
          have HX := Lib.hid (bits_xor_u8 y (bitOf q))
          go_wp2
          rw [hqx]
          clear hqx
          go_region
          go_wp2
          go_roundw
          case rel =>
            refine ⟨k + 1, by omega, by go_num, ?_, (HB2.out.setCell (by have := HW.out; simp; omega) _).drew⟩
            rw [HT.out, flips_snoc, HL.out, flip, List.getD_eq_getElem?_getD, HY.out, pow_bit, HX.out]
            exact (HR2.out.set _ HKL.out _).drew
          case measure => simp [intOf]; omega
        · obtain rfl : k = ks.length := by omega
          have hlenL := flips_length z.data.toList (spots z.size (ks.take ks.length))
          rw [ba_size] at hlenL
          have hcv2 := conv_row HR2.out z.size cap2 hlenL
          have hL : (ks.length % 2 = 0) ∨ (feed ones (flips z.data.toList (spots z.size (ks.take ks.length))) ≠ residue) := by
            by_cases ho : ks.length % 2 = 1
            · right
              rw [← HRES.out]
              refine odd_differs z.data.toList _ ones (fun k hk => by rw [ba_size]; exact spots_lt z.size hz1 _ k hk) ?_
              unfold spots
              rw [List.length_map, List.take_length]
              exact ho
            · left; omega
          have hmd := mk_data (flips z.data.toList (spots z.size (ks.take ks.length)))
          have hms := mk_size (flips z.data.toList (spots z.size (ks.take ks.length)))
          rw [hlenL] at hms
          rw [← hmd] at hL
          clear hmd hlenL
          generalize (⟨(flips z.data.toList (spots z.size (ks.take ks.length))).toArray⟩ : ByteArray) = t at *
          have q19 := fun w => open_any t (by omega) w
          rcases hL with hL | hL
          · obtain ⟨u, f, hu, hf, _⟩ := openOut_form t
            rw [hu] at q19
            have Q19 := Lib.hid q19
            clear q19 hu
            have hev : ((ks.length : Int) % 2 == 0) = true := beq_iff_eq.2 (by omega)
            have H0 := HB2
            go_wp2_with fail
            refine (Q19.out _).mono ?_
            rintro e w3 ⟨rfl, hb3⟩
            have H3 := Lib.hid (HB2.out.trans (hb3.mono HB2.out.size))
            clear hb3
            go_wp2_with fail
            refine (awake_any _).mono ?_
            rintro e w4 ⟨rfl, hb4⟩
            have H4 := Lib.hid (H3.out.trans (hb4.mono H3.out.size))
            clear hb4
            go_wp2
            go_ret
            exact ⟨rfl, H4.out⟩
          · rw [openOut_bad t (by omega) hL] at q19
            have Q19 := Lib.hid q19
            clear q19 hL
            have hpar : ((ks.length : Int) % 2 == 0) = true ∨ ((ks.length : Int) % 2 == 0) = false := by
              cases ((ks.length : Int) % 2 == 0) <;> simp
            rcases hpar with hpar | hpar
            all_goals
              go_wp2_with fail
              refine (Q19.out _).mono ?_
              rintro e w3 ⟨rfl, hb3⟩
              have H3 := Lib.hid (HB2.out.trans (hb3.mono HB2.out.size))
              clear hb3
              go_wp2_with fail
              refine (awake_any _).mono ?_
              rintro e w4 ⟨rfl, hb4⟩
              have H4 := Lib.hid (H3.out.trans (hb4.mono H3.out.size))
              clear hb4
              go_wp2
              go_ret
              exact ⟨rfl, H4.out⟩
end Go.Proofs.Ytnkaigmonkmedaa
