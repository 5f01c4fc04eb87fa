/- Layer 5: the walk of LabelsHash. -/
import Derived.Test.YtbphhdmnfepbnaaGW
import Derived.Test.YtbphhdmnfepbnaaLX
import Derived.OpenShut
set_option linter.unusedVariables false
set_option linter.unusedSimpArgs false
namespace Go.Proofs.Ytbphhdmnfepbnaa.Lab
open Go.RowKit
set_option maxRecDepth 100000 in
set_option maxHeartbeats 4000000 in
theorem hash_walk (s : ByteArray) (hs : s.size ≤ maxLen) (z : Int) (hz : (Lit.int .u8 z).wf = true) (A : Option Addr) (c : Nat) (l : List Lb) (hm : l.length ≤ maxLen) (hzz : ∀ x ∈ l, x.n.size ≤ maxLen ∧ x.v.size ≤ maxLen) (w : World) (hL : LS w w.heap.size A l) :
    Calls Try.prog 9 #[.string s, .int .u8 z, .slice A l.length c] w fun e w' => e = .returned (.bool true) ∧ Below w.heap.size w w' := by
  obtain ⟨b, rfl⟩ : ∃ b : UInt8, z = (b.toNat : Int) := by
    obtain ⟨h1, h2⟩ := bounds_u8 hz
    refine ⟨UInt8.ofNat z.toNat, ?_⟩
    rw [UInt8.toNat_ofNat']
    omega
  have G := Lib.hid (c_great1 l hm hzz A c w hL)
  have R0 : Hid (RB w (w.alloc (.cells #[.slice A l.length c] 22))) := (RB.refl w).alloc _
  have X := Lib.hid hL
  have HH := Lib.hid hm
  have hb := b.toNat_lt
  unfold maxLen at hm hs
  clear hL hzz hz
  by_cases h3 : 300 < s.size
  · go_enter Try.func9, Try.ntmps9
    go_wp2_with (first
      | (go_at_call 11; (with_reducible refine (c_awake (RB.refl w)).mono ?_); rintro e w2 ⟨rfl, hb⟩; have R2 := Lib.hid hb; clear hb))
    go_ret
    exact ⟨rfl, R2.out⟩
  · cases hg : greatL l with
    | true =>
      rw [hg] at G
      clear hg
      go_enter Try.func9, Try.ntmps9
      go_wp2_with (first
        | (go_at_call 10; (with_reducible refine G.out.mono ?_); rintro e w1 ⟨rfl, rfl⟩)
        | (go_at_call 11; (with_reducible refine (c_awake R0.out).mono ?_); rintro e w2 ⟨rfl, hb⟩; have R2 := Lib.hid hb; clear hb))
      go_ret
      exact ⟨rfl, R2.out⟩
    | false =>
      have hsm := great_sm hg
      have SM := Lib.hid hsm
      rw [hg] at G
      clear hg hsm
      obtain ⟨hh, hhe⟩ : ∃ hh, hashL s.data.toList = hh := ⟨_, rfl⟩
      have hhl : hh < 4294967296 := by rw [← hhe]; exact hashL_lt _
      obtain ⟨nx, hnx⟩ : ∃ nx, fnv hh b = nx := ⟨_, rfl⟩
      have hnl : nx < 4294967296 := by rw [← hnx]; exact fnv_lt _ _
      have hx := bits_xor_u32 hh b.toNat hhl (by omega)
      have hmm : ((b.toNat : Int) % 4294967296) = b.toNat := by omega
      have hmm2 : ((hh : Int) % 4294967296) = hh := by omega
      have hf := fnv_cast hh b
      rw [hnx] at hf
      have i1 : (hh : Int) < 4294967296 := by omega
      have i2 : (0 : Int) ≤ hh := by omega
      have i3 : IntKind.u32.wrap (hh : Int) = hh := IntWalk.u32_in _ (by omega)
      have i4 : IntKind.u32.wrap (b.toNat : Int) = b.toNat := IntWalk.u32_in _ (by omega)
      have i5 : IntKind.i64.wrap (nx : Int) = nx := IntWalk.i64_in _ (by omega)
      have hcat : ¬ 9223372036854775807 < s.size + 1 := by omega
      have hcv : (convert 47 9 (.slice (some ⟨w.heap.size + 1, 0, none⟩) 1 1)).run Try.prog ((w.alloc (.cells #[.slice A l.length c] 22)).alloc (.cells #[.int .u8 (b.toNat : Int)] 5)) = .ok (.string ⟨#[b]⟩) ((w.alloc (.cells #[.slice A l.length c] 22)).alloc (.cells #[.int .u8 (b.toNat : Int)] 5)) := by
        refine run_convert_bytes_back _ 47 9 5 ⟨w.heap.size + 1, 0, none⟩ 1 [b] Try.underlying47 Try.underlying5 Try.underlying9 fun j hj => ?_
        have : j = 0 := by simpa using hj
        subst this
        exact World.cell?_alloc_at _ _ _ _ (by simp)
      have R1 : Hid (RB w ((w.alloc (.cells #[.slice A l.length c] 22)).alloc (.cells #[.int .u8 (b.toNat : Int)] 5))) := R0.out.alloc _
      have H29 : Hid (∀ V, Calls Try.prog 29 #[.string s] V fun e w' => e = .returned (.int .i64 hh) ∧ V = w') := fun V => by rw [← hhe]; exact hash_any s (by unfold maxLen; omega) V
      have H29b : Hid (∀ V, Calls Try.prog 29 #[.string (s ++ ⟨#[b]⟩)] V fun e w' => e = .returned (.int .i64 nx) ∧ V = w') := fun V => by
        have h := hash_any (s ++ ⟨#[b]⟩) (by unfold maxLen; rw [ByteArray.size_append]; show s.size + 1 ≤ _; omega) V
        rw [ba_append, ba_mk, hashL_snoc, hhe, hnx] at h
        exact h
      have H29c : Hid (∀ V, Calls Try.prog 29 #[.string (mkS (fmtL l))] V fun e w' => e = .returned (.int .i64 (hashL (fmtL l))) ∧ V = w') := fun V => by
        have h := hash_any (mkS (fmtL l)) (by rw [mkS_size]; have := SM.out.fmt; unfold maxLen; omega) V
        rw [show (mkS (fmtL l)).data.toList = fmtL l from ba_mk _] at h
        exact h
      have k1 : ((hh : Int) < 4294967296) = True := eq_true i1
      have k3 : ((9223372036854775807 : Int) < (s.size : Int) + 1) = False := eq_false (by omega)
      have k4 : (9223372036854775807 < s.size + 1) = False := eq_false (by omega)
      clear hhe hnx i1 i2 hhl hnl hcat hb
      go_enter Try.func9, Try.ntmps9
      go_wp2_with (first
        | (go_at_call 10; (with_reducible refine G.out.mono ?_); rintro e w1 ⟨rfl, rfl⟩)
        | (go_at_call 29; (with_reducible refine (H29.out _).mono ?_); rintro e w9 ⟨rfl, rfl⟩)
        | (go_at_call 29; (with_reducible refine (H29b.out _).mono ?_); rintro e w9 ⟨rfl, rfl⟩)
        | (go_at_call 27; (with_reducible refine (c_hash l SM.out A c (X.out.rb R1.out) R1.out).mono ?_); rintro e w7 ⟨rfl, hb⟩; have R7 := Lib.hid hb; clear hb)
        | (go_at_call 25; (with_reducible refine (c_format l SM.out A c (X.out.rb R7.out) R7.out).mono ?_); rintro e w8 ⟨rfl, hb⟩; have R8 := Lib.hid hb; clear hb)
        | (go_at_call 29; (with_reducible refine (H29c.out _).mono ?_); rintro e w9 ⟨rfl, rfl⟩)
        | (go_at_call 11; (with_reducible refine (c_awake R8.out).mono ?_); rintro e w9 ⟨rfl, hb⟩; have R9 := Lib.hid hb; clear hb))
      go_ret
      exact ⟨rfl, R9.out⟩
end Go.Proofs.Ytbphhdmnfepbnaa.Lab
