/- The set-up of every law of the layer answers true, in whatever world. -/
import Derived.Test.YtcndmiolaheaeabGreatDoorEx
namespace Go.Proofs.YtcndmiolaheaeabGreatDoor
open Go.RowKit
set_option linter.unusedSimpArgs false
set_option linter.unusedVariables false

theorem toy_check {B : Nat} {w : World} {v : Value} (ht : ToyAt B w v) (hB : B ≤ w.heap.size) : Calls Tryz.prog 9 #[v] w fun e w' => e = .returned (.tuple #[.int .i64 0, .int .i64 0]) ∧ Below B w w' :=
  res_calls check_eval (by decide) (by decide) ht hB rfl
theorem toy_size {B : Nat} {w : World} {v : Value} (ht : ToyAt B w v) (hB : B ≤ w.heap.size) : Calls Tryz.prog 14 #[v, .int .i64 0] w fun e w' => e = .returned (.int .i64 1) ∧ Below B w w' :=
  res_calls size_eval (by decide) (by decide) ht hB rfl
theorem toy_apart01 {B : Nat} {w : World} {v : Value} (ht : ToyAt B w v) (hB : B ≤ w.heap.size) : Calls Tryz.prog 15 #[v, .int .i64 0, .int .i64 1] w fun e w' => e = .returned (.bool true) ∧ Below B w w' :=
  res_calls apart01_eval (by decide) (by decide) ht hB rfl
theorem toy_apart00 {B : Nat} {w : World} {v : Value} (ht : ToyAt B w v) (hB : B ≤ w.heap.size) : Calls Tryz.prog 15 #[v, .int .i64 0, .int .i64 0] w fun e w' => e = .returned (.bool false) ∧ Below B w w' :=
  res_calls apart00_eval (by decide) (by decide) ht hB rfl
/-- A call of toy, then one on it. -/
theorem toy_next {w w1 w2 : World} (h : Fr w w1) (k : Below w.heap.size w1 w2) : Fr w w2 := Below.trans h k

set_option maxHeartbeats 3200000 in
theorem alive5 (w : World) : Calls Tryz.prog 7 #[] w fun e w' => e = .returned (.bool true) ∧ Fr w w' := by
  go_enter Tryz.func7, Tryz.ntmps7
  go_wp2_with (go_at_call 13; refine (toy_calls w).mono ?_; rintro e w1 ⟨v1, rfl, hf1, ht1⟩)
  have HT1 := Lib.hid ht1; have HS1 := Lib.hid hf1.size; have HK1 := Lib.hid hf1; clear hf1 ht1
  go_wp2_with (go_at_call 9; refine (toy_check HT1.out HS1.out).mono ?_; rintro e w2 ⟨rfl, hf2⟩)
  have HF2 := Lib.hid ((toy_next HK1.out hf2)); clear hf2
  go_wp2_with (go_at_call 13; refine (toy_calls w2).mono ?_; rintro e w3 ⟨v3, rfl, hf3, ht3⟩)
  have HT3 := Lib.hid ht3; have HS3 := Lib.hid hf3.size; have HK3 := Lib.hid hf3; clear hf3 ht3
  go_wp2_with (go_at_call 14; refine (toy_size HT3.out HS3.out).mono ?_; rintro e w4 ⟨rfl, hf4⟩)
  have HF4 := Lib.hid (HF2.out.call (toy_next HK3.out hf4)); clear hf4
  go_wp2_with (go_at_call 13; refine (toy_calls w4).mono ?_; rintro e w5 ⟨v5, rfl, hf5, ht5⟩)
  have HT5 := Lib.hid ht5; have HS5 := Lib.hid hf5.size; have HK5 := Lib.hid hf5; clear hf5 ht5
  go_wp2_with (go_at_call 15; refine (toy_apart01 HT5.out HS5.out).mono ?_; rintro e w6 ⟨rfl, hf6⟩)
  have HF6 := Lib.hid (HF4.out.call (toy_next HK5.out hf6)); clear hf6
  go_wp2_with (go_at_call 13; refine (toy_calls w6).mono ?_; rintro e w7 ⟨v7, rfl, hf7, ht7⟩)
  have HT7 := Lib.hid ht7; have HS7 := Lib.hid hf7.size; have HK7 := Lib.hid hf7; clear hf7 ht7
  go_wp2_with (go_at_call 15; refine (toy_apart00 HT7.out HS7.out).mono ?_; rintro e w8 ⟨rfl, hf8⟩)
  have HF8 := Lib.hid (HF6.out.call (toy_next HK7.out hf8)); clear hf8
  go_wp2
  go_ret
  exact ⟨ret_bool (by simp), HF8.out⟩
end Go.Proofs.YtcndmiolaheaeabGreatDoor
