/- The document's some and truth. -/
import Derived.Test.YtglgbhlnfafhjaaRst
import Derived.Test.YtglgbhlnfafhjaaRar
import Derived.Test.YtglgbhlnfafhjaaGj
namespace Go.Proofs.Ytglgbhlnfafhjaa
open Go.RowKit

theorem none_step {x : Int} {j : Nat} (h : x % 2 ^ j = 0) (hb : bitI x j = false) : x % 2 ^ (j + 1) = 0 := by rw [mod_succ, h, hb]; simp
theorem some_stop {x : Int} {j n : Nat} (hj : j < n) (hb : bitI x j = true) : x % 2 ^ n ≠ 0 := fun h => by
  have h2 := bitI_mod x hj
  rw [h, hb] at h2
  simp [bitI] at h2
def RelSm (w : World) (n : Nat) (x : Int) (i : Value) (wr : World) : Prop := ∃ j : Nat, j ≤ n ∧ i = .int .i64 (j : Int) ∧ x % 2 ^ j = 0 ∧ Fr w wr
set_option maxHeartbeats 3200000 in
set_option maxRecDepth 10000 in
theorem rsome_any (A : Option Addr) (m c : Nat) (x : Int) (hm : m ≤ 1000) (w : World) (hr : Rd bolv w A (bitsI m x)) :
    Calls Try.prog 50 #[.slice A m c] w fun e w' => e = .returned (.bool (decide (x % 2 ^ m ≠ 0))) ∧ Fr w w' := by
  have HR := Lib.hid hr
  clear hr
  go_enter Try.func50, Try.ntmps50
  go_wp2
  go_loopw [7] (fun i wr => RelSm w m x i wr) (fun i _ => m - (intOf i).toNat)
  case atStart => exact ⟨0, by omega, rfl, by simp, Fr.refl w⟩
  case round =>
    obtain ⟨j, hj, rfl, hq, hf⟩ := hrel
    have HQ := Lib.hid hq
    have HF := Lib.hid hf
    clear hq hf
    by_cases hlt : j < m
    · obtain ⟨g, o, rfl, _, hc⟩ := (HR.out.fr HF.out) (by rw [bitsI_length]; omega)
      have hcell := hc j (by rw [bitsI_length]; exact hlt)
      rw [bitsI_get] at hcell
      change _ = some (Value.bool _) at hcell
      have HN := Lib.hid (fun hb => none_step (j := j) HQ.out hb)
      have HS := Lib.hid (fun hb => some_stop (x := x) hlt hb)
      generalize bitI x j = q at *
      clear hc
      cases q
      · go_wp2
        go_roundw
        case rel => exact ⟨j + 1, by omega, by go_num, HN.out (by simp), HF.out⟩
        case measure => simp [intOf]; omega
      · go_wp2
        go_ret
        exact ⟨ret_bool (by have := HS.out (by simp); simp [this]), HF.out⟩
    · obtain rfl : j = m := by omega
      go_wp2
      go_ret
      exact ⟨ret_bool (by simp [HQ.out]), HF.out⟩
theorem bits_one (b : Bool) : bitsI 1 (b01 b) = [b] := by cases b <;> rfl
theorem b01_mod (b : Bool) : b01 b % 2 ^ 1 = b01 b := by cases b <;> rfl
set_option maxHeartbeats 3200000 in
theorem rtruth_any (b : Bool) (w : World) :
    Calls Try.prog 29 #[.bool b] w fun e w' => e = .returned (bv 1 (b01 b)) ∧ Fr w w' := by
  have hto := fun A c wx hr => to_any A 1 c (b01 b) (by omega) (by omega) wx hr
  rw [b01_mod] at hto
  have HT := Lib.hid (show ∀ A c wx, Rd bolv wx A (bitsI 1 (b01 b)) → Calls Try.prog 22 #[.slice A 1 c] wx fun e w' => e = .returned (bv 1 (b01 b)) ∧ Fr wx w' from hto)
  have BR := Lib.hid ((Bk.new w 24 #[.int .i64 0, .int .u64 0, .int .u64 0]).fr ((Fr.refl _).alloc (.cells #[.bool b] 4)))
  have hrd := rd_one (f := bolv) (w.alloc (.cells #[.int .i64 0, .int .u64 0, .int .u64 0] 24)) 4 b
  rw [← bits_one, show (w.alloc (.cells #[.int .i64 0, .int .u64 0, .int .u64 0] 24)).heap.size = w.heap.size + 1 by simp] at hrd
  have HRD := Lib.hid hrd
  clear hto hrd
  go_enter Try.func29, Try.ntmps29
  go_wp2_with (first
    | (go_at_call 22
       refine (HT.out _ _ _ HRD.out).mono ?_
       rintro e w1 ⟨rfl, hf⟩
       have HS1 := Lib.hid hf
       clear hf
       obtain ⟨br0_1, br1_1, br2_1⟩ := (BR.out.fr HS1.out).three
       obtain ⟨brf0_1, brf1_1, brf2_1⟩ := (BR.out.fr HS1.out).frees))
  have HF := Lib.hid ((((Fr.refl w).alloc _).alloc _).call HS1.out)
  exact bodyPost_ret (v := bv 1 (b01 b)) (by simp [results, Try.results29, go_sem, *]) rfl ⟨rfl, by repeat (first | with_reducible exact HF.out | (with_reducible refine Fr.set ?_ (by simp) _))⟩
end Go.Proofs.Ytglgbhlnfafhjaa
