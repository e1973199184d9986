/- The text of the least number is read back. -/
import Derived.Test.YtbnaakognnkhdaaGreatDoorZx
import Derived.Test.YtbnaakognnkhdaaGreatDoorZb
import Derived.Lib.ConvBytes
import Derived.Lib.AtoiAllMem
import Derived.Laws.Strings3
import Derived.Laws.Closers25
import Derived.Laws.Closers25b
namespace Go.Proofs.YtbnaakognnkhdaaGreatDoor
open Go.RowKit
set_option linter.unusedSimpArgs false
set_option linter.unusedVariables false

/-- 8000000000000000 -/
def mD : ByteArray := ⟨#[56, 48, 48, 48, 48, 48, 48, 48, 48, 48, 48, 48, 48, 48, 48, 48]⟩
def mV : Nat → Nat
  | 0 => 0
  | k + 1 => 8 * 16 ^ k
theorem mV_lt : ∀ k, k < 16 → mV k < 1152921504606846976 := by decide
theorem mV_next : ∀ k, k < 16 → 0 < k → mV (k + 1) = mV k * 16 := by decide
theorem mD_at : ∀ j, j < 16 → (mD.data.toList.getD j 0).toNat = if j = 0 then 56 else 48 := by decide
set_option maxHeartbeats 6400000 in
set_option maxRecDepth 100000 in
theorem parse16_min (w : World) : Calls Tryz.prog 102 #[.string mD, .int .i64 16, .int .i64 64] w fun e w' => e = .returned (.tuple #[.int .u64 9223372036854775808, .nilIface]) ∧ Fr w w' := by
  have hemp : mD.toList.isEmpty = false := by rw [ByteArray.toList_eq]; rfl
  have hcv := Lib.run_convert_string_bytes (P := Tryz.prog) w 9 67 5 mD (u := .string) Tryz.underlying9 Tryz.underlying67 Tryz.underlying5
  have hB : ∀ j, j < mD.size → (Lib.bytesWorld w 5 mD).cell? ⟨w.heap.size, j, none⟩ = some (.int .u8 (mD.data.toList.getD j 0).toNat) := fun j hj => Lib.bytesWorld_cell w 5 mD j hj
  have hfr : Fr w (Lib.bytesWorld w 5 mD) := Lib.bytesWorld_below w _ mD
  have hsz : mD.size = 16 := rfl
  obtain ⟨W1, hW1⟩ : ∃ W1, W1 = Lib.bytesWorld w 5 mD := ⟨_, rfl⟩
  rw [← hW1] at hcv hB hfr
  clear hW1
  have HB := Lib.hid (fun j (hj : j < 16) => (show W1.cell? ⟨w.heap.size, j, none⟩ = some (.int .u8 ((if j = 0 then 56 else 48 : Nat) : Int)) by rw [hB j hj, mD_at j hj]))
  have HF := Lib.hid hfr
  clear hB hfr
  generalize mD = t at *
  have hmv : IntKind.u64.wrap (IntKind.u64.wrap 18446744073709551616 - 1) = 18446744073709551615 := by
    rw [IntKind.wrap_u64, IntKind.wrap_u64]
    decide
  go_enter Tryz.func102, Tryz.ntmps102
  go_wp2
  go_loop [12, 13, 101] (fun vu vn vi => ∃ (k : Nat) (a : Int), vu = .bool false ∧ vn = .int .u64 a ∧ vi = .int .i64 k ∧ k ≤ 16 ∧ Hid (a = (mV k : Int)))
    (fun _ _ vi => 16 - (intOf vi).toNat)
  case atStart => exact ⟨0, 0, rfl, rfl, rfl, by omega, rfl⟩
  case round =>
    obtain ⟨k, a, rfl, rfl, rfl, hk, hh⟩ := hrel
    have ha := hh.out
    clear hh
    by_cases hkn : k < 16
    · have hc := HB.out k hkn
      have hlt := mV_lt k hkn
      have a0 : 0 ≤ a := by omega
      have a1 : a < 1152921504606846976 := by omega
      by_cases hk0 : k = 0
      · subst hk0
        rw [if_pos rfl] at hc
        obtain rfl : a = 0 := ha
        clear hlt a0 a1
        go_wp2
        refine ⟨⟨1, 8, rfl, (by first | rfl | (congr 1; omega)), (by first | rfl | (congr 1; omega)), by omega, rfl⟩, by simp [intOf]⟩
      · rw [if_neg hk0] at hc
        have HN : Hid (a * 16 = ((mV (k + 1) : Nat) : Int)) := Lib.hid (by rw [mV_next k hkn (by omega)]; omega)
        clear ha hlt
        go_wp2
        refine ⟨⟨k + 1, a * 16, rfl, (by first | rfl | (congr 1; omega)), (by first | rfl | (congr 1; omega)), by omega, HN⟩, by simp [intOf]; omega⟩
    · obtain rfl : k = 16 := by omega
      have ha2 : a = 9223372036854775808 := ha
      subst ha2
      go_wp2
      go_ret2
      exact ⟨rfl, HF.out⟩
set_option maxHeartbeats 1600000 in
set_option maxRecDepth 100000 in
theorem parseUint_min (w : World) : Calls Tryz.prog 97 #[.string mD, .int .i64 16, .int .i64 64] w fun e w' => e = .returned (.tuple #[.int .u64 9223372036854775808, .nilIface]) ∧ Fr w w' := by
  have HP := Lib.hid (parse16_min w)
  generalize mD = t at *
  go_enter Tryz.func97, Tryz.ntmps97
  go_wp2_with (go_at_call 102; refine HP.out.mono ?_; rintro e w1 ⟨rfl, hf1⟩; have HF := Lib.hid hf1; clear hf1)
  go_ret2
  exact ⟨rfl, HF.out⟩
theorem any_min (w : World) : Calls Tryz.prog 98 #[.string mD, .string ⟨#[65, 66, 67, 68, 69, 70]⟩] w fun e w' => e = .returned (.bool false) ∧ Fr w w' := by
  have h := Tryz.strings_ContainsAny_laid mD ⟨#[65, 66, 67, 68, 69, 70]⟩ w (by decide) (by decide) (fun j b hb => by
      have hm : b ∈ mD.data.toList := List.mem_of_getElem? hb
      exact (show ∀ b ∈ mD.data.toList, b.toNat < 128 by decide) b hm) (fun j b hb => by
      have hm : b ∈ (⟨#[65, 66, 67, 68, 69, 70]⟩ : ByteArray).data.toList := List.mem_of_getElem? hb
      exact (show ∀ b ∈ (⟨#[65, 66, 67, 68, 69, 70]⟩ : ByteArray).data.toList, b.toNat < 128 by decide) b hm)
  have e : Lib.containsAny mD.data.toList (⟨#[65, 66, 67, 68, 69, 70]⟩ : ByteArray).data.toList = false := by rfl
  rw [e] at h
  exact h
set_option maxHeartbeats 1600000 in
set_option maxRecDepth 100000 in
theorem bitsOf_min (w : World) : Calls Tryz.prog 92 #[.string mD] w fun e w' => e = .returned (.tuple #[.int .i64 (-9223372036854775808), .bool true]) ∧ Fr w w' := by
  have HP := Lib.hid (parseUint_min)
  have HA := Lib.hid (any_min)
  have hsz : mD.size = 16 := rfl
  have hw : IntKind.i64.wrap 9223372036854775808 = -9223372036854775808 := by decide
  generalize mD = t at *
  go_enter Tryz.func92, Tryz.ntmps92
  go_wp2_with (first
    | (go_at_call 97; refine (HP.out _).mono ?_; rintro e w1 ⟨rfl, hf1⟩; have HF := Lib.hid hf1; clear hf1)
    | (go_at_call 98; refine (HA.out _).mono ?_; rintro e w2 ⟨rfl, hf2⟩; have HF2 := Lib.hid (HF.out.call hf2); clear hf2)
    | fail)
  go_ret2
  exact ⟨rfl, HF2.out⟩
/-- 0x8000000000000000 is the least number. -/
theorem num_min (w0 : World) : NumC w0 ⟨minTx.toArray⟩ (-9223372036854775808) := by
  refine ⟨by unfold I64; decide, fun w hz => ?_⟩
  have hcp := fun w => Tryz.strings_CutPrefix ⟨minTx.toArray⟩ ⟨#[48, 120]⟩ w
  have e1 : Lib.hasPrefix (⟨minTx.toArray⟩ : ByteArray).data.toList (⟨#[48, 120]⟩ : ByteArray).data.toList = true := rfl
  have e2 : (⟨(Lib.trimPrefix (⟨minTx.toArray⟩ : ByteArray).data.toList (⟨#[48, 120]⟩ : ByteArray).data.toList).toArray⟩ : ByteArray) = mD := rfl
  rw [e1, e2] at hcp
  have HB := Lib.hid bitsOf_min
  clear e1 e2
  generalize mD = t at *
  generalize (⟨minTx.toArray⟩ : ByteArray) = u at *
  go_enter Tryz.func85, Tryz.ntmps85
  go_wp2_with (first
    | (go_at_call 91; refine (hcp _).mono ?_; rintro e w1 ⟨rfl, rfl⟩)
    | (go_at_call 92; refine (HB.out _).mono ?_; rintro e w2 ⟨rfl, hf2⟩; have HF := Lib.hid hf2; clear hf2)
    | fail)
  go_ret2
  exact ⟨rfl, HF.out⟩
end Go.Proofs.YtbnaakognnkhdaaGreatDoor
