/- Small functions on numbers, of the program and of the reference. -/
import Derived.Test.YtcndmiolaheaeabGreatDoorVa
import Derived.Test.YtcndmiolaheaeabGreatDoorChecked
namespace Go.Proofs.YtcndmiolaheaeabGreatDoor
open Go.RowKit
set_option linter.unusedSimpArgs false
set_option linter.unusedVariables false

theorem bool_iff {a b : Bool} (h : a = true ↔ b = true) : Ending.returned (.bool a) = .returned (.bool b) := by rw [Bool.eq_iff_iff.2 h]
theorem wide_any (x : Int) (w : World) : Calls Tryz.prog 92 #[.int .i64 x] w fun e w' => e = .returned (.int .i64 (wideI x)) ∧ w' = w := by
  go_enter Tryz.func92, Tryz.ntmps92
  go_wp2
  all_goals (go_ret; exact ⟨ret_int (by unfold wideI; split <;> omega), rfl⟩)
theorem shared_any (x y : Int) (w : World) : Calls Tryz.prog 97 #[.int .i64 x, .int .i64 y] w fun e w' => e = .returned (.int .i64 (sharedI x y)) ∧ w' = w := by
  go_enter Tryz.func97, Tryz.ntmps97
  go_wp2
  all_goals (go_ret; exact ⟨ret_int (by unfold sharedI; split <;> simp_all), rfl⟩)
theorem stored_any (x : Int) (w : World) : Calls Tryz.prog 96 #[.int .i64 x] w fun e w' => e = .returned (.bool (memB x)) ∧ w' = w := by
  go_enter Tryz.func96, Tryz.ntmps96
  go_wp2
  all_goals (go_ret; exact ⟨bool_iff (by simp [memB]; try omega), rfl⟩)
theorem rwide_any (x : Int) (w : World) : Calls Tryz.prog 24 #[.int .i64 x] w fun e w' => e = .returned (.bool (decide (1 ≤ x) && decide (x ≤ 128))) ∧ w' = w := by
  go_enter Tryz.func24, Tryz.ntmps24
  go_wp2
  all_goals (go_ret; exact ⟨bool_iff (by simp; omega), rfl⟩)
theorem rmemory_any (x : Int) (w : World) : Calls Tryz.prog 27 #[.int .i64 x] w fun e w' => e = .returned (.bool (memB x)) ∧ w' = w := by
  go_enter Tryz.func27, Tryz.ntmps27
  go_wp2
  all_goals (go_ret; exact ⟨bool_iff (by simp [memB]; try omega), rfl⟩)
theorem rplace_any (x : Int) (n : Nat) (w : World) : Calls Tryz.prog 26 #[.int .i64 x, .int .i64 (n : Int)] w fun e w' => e = .returned (.bool (plB x n)) ∧ w' = w := by
  go_enter Tryz.func26, Tryz.ntmps26
  go_wp2
  all_goals (go_ret; exact ⟨bool_iff (by simp [plB]; omega), rfl⟩)
theorem filePlace_any (x : Int) (A : Option Addr) (n c : Nat) (w : World) : Calls Tryz.prog 82 #[.int .i64 x, .slice A n c] w fun e w' => e = .returned (.bool (plB x n)) ∧ w' = w := by
  go_enter Tryz.func82, Tryz.ntmps82
  go_wp2
  all_goals (go_ret; exact ⟨bool_iff (by simp [plB]; omega), rfl⟩)
theorem classPlace_any (x : Int) (A : Option Addr) (n c : Nat) (w : World) : Calls Tryz.prog 83 #[.int .i64 x, .slice A n c] w fun e w' => e = .returned (.bool (plB x n)) ∧ w' = w := by
  go_enter Tryz.func83, Tryz.ntmps83
  go_wp2
  all_goals (go_ret; exact ⟨bool_iff (by simp [plB]; omega), rfl⟩)
theorem argPlace_any (x : Int) (A : Option Addr) (n c : Nat) (w : World) : Calls Tryz.prog 100 #[.int .i64 x, .slice A n c] w fun e w' => e = .returned (.bool (plB x n)) ∧ w' = w := by
  go_enter Tryz.func100, Tryz.ntmps100
  go_wp2
  all_goals (go_ret; exact ⟨bool_iff (by simp [plB]; omega), rfl⟩)
theorem formPlace_any (x : Int) (A : Option Addr) (n c : Nat) (w : World) : Calls Tryz.prog 22 #[.int .i64 x, .slice A n c] w fun e w' => e = .returned (.bool (plB x n)) ∧ w' = w := by
  go_enter Tryz.func22, Tryz.ntmps22
  go_wp2
  all_goals (go_ret; exact ⟨bool_iff (by simp [plB]; omega), rfl⟩)
theorem flagPlace_any (x : Int) (A : Option Addr) (n c : Nat) (w : World) : Calls Tryz.prog 95 #[.int .i64 x, .slice A n c] w fun e w' => e = .returned (.bool (plB x n)) ∧ w' = w := by
  go_enter Tryz.func95, Tryz.ntmps95
  go_wp2
  all_goals (go_ret; exact ⟨bool_iff (by simp [plB]; omega), rfl⟩)
theorem kidsOf_any (x : Int) (w : World) : Calls Tryz.prog 56 #[.int .i64 x] w fun e w' => e = .returned (.int .i64 (kidsI x)) ∧ w' = w := by
  go_enter Tryz.func56, Tryz.ntmps56
  go_wp2
  all_goals (go_ret; exact ⟨ret_int (by unfold kidsI; simp_all; try omega), rfl⟩)
end Go.Proofs.YtcndmiolaheaeabGreatDoor
