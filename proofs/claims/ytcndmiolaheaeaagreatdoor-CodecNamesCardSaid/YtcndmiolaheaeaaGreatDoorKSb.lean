/- The tests on one byte. -/
import Derived.Test.YtcndmiolaheaeaaGreatDoorProg
import Derived.Test.YtcndmiolaheaeaaGreatDoorKSr
import Derived.Test.YtcndmiolaheaeaaGreatDoorKSn
import Derived.WalkLawsBesides
namespace Go.Proofs.YtcndmiolaheaeaaGreatDoor
open Go.RowKit
set_option linter.unusedSimpArgs false
set_option linter.unusedVariables false

theorem txB_int {c : UInt8} {m : Int} (h : (c.toNat : Int) = m) : txB c = decide (32 ≤ m ∧ m ≤ 126 ∧ m ≠ 34) := by unfold txB; exact decide_eq_decide.2 (by omega)
theorem inB_int {c : UInt8} {m : Int} (h : (c.toNat : Int) = m) : inB c = decide (32 < m ∧ m < 127 ∧ m ≠ 40 ∧ m ≠ 41 ∧ m ≠ 34 ∧ m ≠ 59) := by unfold inB; exact decide_eq_decide.2 (by omega)
theorem nuB_int {c : UInt8} {m : Int} (h : (c.toNat : Int) = m) : nuB c = decide (m = 45 ∨ (48 ≤ m ∧ m ≤ 57)) := by unfold nuB; exact decide_eq_decide.2 (by omega)
set_option maxHeartbeats 1600000 in
theorem in_any (c : UInt8) (w : World) : Calls Tryz.prog 108 #[.int .u8 (c.toNat : Int)] w fun e w' => e = .returned (.bool (inB c)) ∧ w = w' := by
  have hc := c.toNat_lt
  obtain ⟨m, hm⟩ : ∃ m : Int, (c.toNat : Int) = m := ⟨_, rfl⟩
  rw [inB_int hm, hm]
  have h0 : 0 ≤ m := by omega
  have h1 : m < 256 := by omega
  clear hm hc
  generalize hq : decide (32 < m ∧ m < 127 ∧ m ≠ 40 ∧ m ≠ 41 ∧ m ≠ 34 ∧ m ≠ 59) = q
  have HQ := Lib.hid hq
  clear hq
  go_enter Tryz.func108, Tryz.ntmps108
  go_wp2
  all_goals
    go_ret
    exact ⟨ret_bool (by rw [← HQ.out, Bool.eq_iff_iff]; simp; try omega), rfl⟩
end Go.Proofs.YtcndmiolaheaeaaGreatDoor
