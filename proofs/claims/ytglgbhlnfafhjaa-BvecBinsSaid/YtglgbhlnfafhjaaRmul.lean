/- The document's mul: a sum of moved rows. -/
import Derived.Test.YtglgbhlnfafhjaaRst
import Derived.Test.YtglgbhlnfafhjaaRar
import Derived.Deep.RegionWith
namespace Go.Proofs.Ytglgbhlnfafhjaa
open Go.RowKit

/-- A call answers a list that reads as n bits of x. -/
def AnsR (w : World) (n : Nat) (x : Int) (e : Ending) (w' : World) : Prop := ∃ A c, e = .returned (.slice A n c) ∧ Rd bolv w' A (bitsI n x) ∧ n ≤ c ∧ c ≤ maxLen ∧ Fr w w'
def RelM (w : World) (n : Nat) (x y : Int) (sum i : Value) (wr : World) : Prop :=
  ∃ (j : Nat) (A : Option Addr) (c : Nat), j ≤ n ∧ i = .int .i64 (j : Int) ∧ sum = .slice A n c ∧ n ≤ c ∧ c ≤ maxLen ∧ Rd bolv wr A (bitsI n (x * (y % 2 ^ j))) ∧ Fr w wr
set_option maxHeartbeats 6400000 in
set_option maxRecDepth 10000 in
theorem rmul_any (A B : Option Addr) (n c d : Nat) (x y : Int) (hn : n ≤ 128) (w : World) (ha : Rd bolv w A (bitsI n x)) (hb : Rd bolv w B (bitsI n y)) :
    Calls Try.prog 26 #[.slice A n c, .slice B n d] w fun e w' => AnsR w n (x * y) e w' := by
  have HA := Lib.hid ha
  have HB := Lib.hid hb
  have H0 := Lib.hid (fun n hn wx => noughts_b n hn wx)
  have HC := Lib.hid (fun A m c x wx hm hr => rcut_b A m c n x false hm (by omega) wx hr)
  have HD := Lib.hid (fun A B c d x y wx ha hb => radd_b A B n c d x y false (by omega) wx ha hb)
  clear ha hb
  go_enter Try.func26, Try.ntmps26
  go_wp2_with (first
    | (go_at_call 49
       refine (H0.out n (by omega) _).mono ?_
       rintro e w1 ⟨A1, c1, rfl, ho, hr, hl1, hm1, hf⟩
       have HR1 := Lib.hid hr
       have HF1 := Lib.hid hf
       clear ho hr hf))
  go_loopw [5, 12] (fun sum i wr => RelM w n x y sum i wr) (fun _ i _ => n - (intOf i).toNat)
  case atStart => exact ⟨0, A1, c1, by omega, rfl, rfl, hl1, hm1, by simpa using HR1.out, HF1.out⟩
  case round =>
    obtain ⟨j, A2, c2, hj, rfl, rfl, hl2, hm2, hr2, hf2⟩ := hrel
    have HR2 := Lib.hid hr2
    have HF2 := Lib.hid hf2
    clear hr2 hf2
    by_cases hlt : j < n
    · obtain ⟨g', o', rfl, _, hc'⟩ := (HB.out.fr HF2.out) (by rw [bitsI_length]; omega)
      have h2 := hc' j (by rw [bitsI_length]; omega)
      rw [bitsI_get] at h2
      change _ = some (Value.bool _) at h2
      have EB := Lib.hid (mul_step x y j)
      have EM := Lib.hid (moved_row j n x)
      generalize bitI y j = q at *
      clear hc'
      have HAr := Lib.hid (HA.out.fr HF2.out)
      cases q
      · go_wp2
        go_roundw
        case rel => exact ⟨j + 1, A2, c2, by omega, by go_num, rfl, hl2, hm2, by rw [EB.out]; simpa using HR2.out, HF2.out⟩
        case measure => simp [intOf]; omega
      · go_wp2_with (first
          | (go_at_call_of 49 (Value.int IntKind.i64 (j : Int))
             refine (H0.out j (by omega) _).mono ?_
             rintro e w3 ⟨A3, c3, rfl, ho, hr, hl3, hm3, hf⟩
             have HO3 := Lib.hid ho
             have HF3 := Lib.hid hf
             clear ho hr hf)
          | (at_builtin; refine wpList_append_rd one_bool _ rfl (.tmp 21) (.tmp 22) 41 rfl wr.heap.size 4 Try.underlying41 Try.infob rfl _ (bitsI j 0) rfl (by first | exact HO3.out | (rw [bitsI_length]; exact HO3.out)) A n c (bitsI n x) rfl (bitsI_length _ _) (HAr.out.fr HF3.out) (by rw [bitsI_length]; unfold maxLen; omega) (by rw [bitsI_length]; omega) HF3.out.size ?_
             intro x4 w4 HG
             obtain ⟨A4, c4, rfl, hl4, hm4, hr4⟩ := HG.out.own.val
             rw [bitsI_append] at hr4
             have HR4 := Lib.hid hr4
             have HF4 := Lib.hid (HG.out.fr HF3.out (Nat.le_refl _) HO3.out.base_le)
             rw [List.length_append, bitsI_length, bitsI_length] at hl4 ⊢
             clear HG hr4)
          | (go_at_call_of 49 A4
             refine (HC.out _ _ _ _ _ (by omega) HR4.out).mono ?_
             rintro e w5 ⟨A5, c5, rfl, ho, hr, hl5, hm5, hf⟩
             have HR5 := Lib.hid hr
             have HF5 := Lib.hid (HF4.out.call hf)
             clear ho hr hf)
          | (go_at_call 24
             refine (HD.out _ _ _ _ _ _ _ (HR2.out.fr HF5.out) HR5.out).mono ?_
             rintro e w6 ⟨A6, c6, rfl, ho, hr, hl6, hm6, hf⟩
             have HR6 := Lib.hid hr
             have HF6 := Lib.hid (HF2.out.call (HF5.out.call hf))
             clear ho hr hf))
        go_roundw
        case rel =>
          refine ⟨j + 1, A6, c6, by omega, by go_num, rfl, hl6, hm6, ?_, HF6.out⟩
          have h := HR6.out
          rwa [bitsI_congr (show _ % 2 ^ n = (x * (y % 2 ^ (j + 1))) % 2 ^ n by rw [EB.out, show b2i false = 0 from rfl, Int.add_zero]; simp only [if_true]; exact add_mod_congr rfl EM.out)] at h
        case measure => simp [intOf]; omega
    · obtain rfl : j = n := by omega
      have HE := Lib.hid (bitsI_congr (mul_all x y j))
      go_wp2
      go_ret
      exact ⟨A2, c2, rfl, by rw [← HE.out]; exact HR2.out, hl2, hm2, HF2.out⟩
end Go.Proofs.Ytglgbhlnfafhjaa
