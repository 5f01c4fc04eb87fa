/- Layer 5: Parse of the reference. -/
import Derived.Test.YtbphhdmnfepbnaaLY
import Derived.Test.YtbphhdmnfepbnaaLU
set_option linter.unusedVariables false
set_option linter.unusedSimpArgs false
namespace Go.Proofs.Ytbphhdmnfepbnaa.Lab
open Go.RowKit
set_option maxRecDepth 100000 in
set_option maxHeartbeats 4000000 in
theorem refParse_any (s : ByteArray) (hs : s.size ≤ 100000) (w : World) : Calls Try.prog 24 #[.string s] w (ParsePost s.data.toList w) := by
  go_enter Try.func24, Try.ntmps24
  go_wp2_with fail
  refine (refList_any s hs w).mono ?_
  rintro e w3 ⟨v, m, b, rfl, hO, hB, hL, hml⟩
  have O3 := Lib.hid hO
  have B3 := Lib.hid hB
  clear hO hB
  cases b with
  | false =>
    have HP := Lib.hid (parse_none (hL.no rfl))
    clear hL
    go_wp2
    go_ret2
    exact ⟨_, [], 3, rfl, World.ownsRow_made w3 #[] 0 (B3.out.size) (by unfold maxLen; omega) (by simp), B3.out.alloc B3.out.size _, HP.out⟩
  | true =>
    have hu := hL.yes rfl
    have HZ := Lib.hid (txtP_max hs hu)
    obtain ⟨A, c, rfl, hLS⟩ := O3.out.form
    have CK := Lib.hid (refCheck_any m (by unfold maxLen; omega) HZ.out A c w3 hLS)
    by_cases hc : chk m = 0
    · have HP := Lib.hid (parse_ok hu hc)
      rw [hc] at CK
      clear hu hL hc hLS
      go_wp2_with (go_at_call 18; (with_reducible refine CK.out.mono ?_); rintro e w4 ⟨rfl, hb⟩; have HB := Lib.hid hb; clear hb)
      go_ret2
      exact ⟨_, m, 0, rfl, O3.out.below HB.out, B3.out.trans (HB.out.mono B3.out.size), HP.out⟩
    · have HP := Lib.hid (parse_err hu hc)
      have hcb : (chk m != 0) = true := by simp [hc]
      clear hu hL hc hLS
      generalize chk m = q at *
      go_wp2_with (go_at_call 18; (with_reducible refine CK.out.mono ?_); rintro e w4 ⟨rfl, hb⟩; have HB := Lib.hid hb; clear hb)
      go_ret2
      have B4 := B3.out.trans (HB.out.mono B3.out.size)
      exact ⟨_, [], q, rfl, World.ownsRow_made w4 #[] 0 B4.size (by unfold maxLen; omega) (by simp), B4.alloc B4.size _, HP.out⟩
end Go.Proofs.Ytbphhdmnfepbnaa.Lab
