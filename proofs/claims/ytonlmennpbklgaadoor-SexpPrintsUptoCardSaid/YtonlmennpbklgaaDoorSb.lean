/- The tests on one byte. -/
import Derived.Test.YtonlmennpbklgaaDoorProg
import Derived.Test.YtonlmennpbklgaaDoorSr
import Derived.Test.YtonlmennpbklgaaDoorSn
import Derived.WalkLawsBesides
namespace Go.Proofs.YtonlmennpbklgaaDoor
open Go.RowKit
set_option linter.unusedSimpArgs false
set_option linter.unusedVariables false

theorem txB_int {c : UInt8} {m : Int} (h : (c.toNat : Int) = m) : txB c = decide (32 ≤ m ∧ m ≤ 126 ∧ m ≠ 34) := by unfold txB; exact decide_eq_decide.2 (by omega)
theorem inB_int {c : UInt8} {m : Int} (h : (c.toNat : Int) = m) : inB c = decide (32 < m ∧ m < 127 ∧ m ≠ 40 ∧ m ≠ 41 ∧ m ≠ 34 ∧ m ≠ 59) := by unfold inB; exact decide_eq_decide.2 (by omega)
theorem nuB_int {c : UInt8} {m : Int} (h : (c.toNat : Int) = m) : nuB c = decide (m = 45 ∨ (48 ≤ m ∧ m ≤ 57)) := by unfold nuB; exact decide_eq_decide.2 (by omega)
set_option maxHeartbeats 1600000 in
theorem istext_any (c : UInt8) (w : World) : Calls Tryd.prog 48 #[.int .u8 (c.toNat : Int)] w fun e w' => e = .returned (.bool (txB c)) ∧ w = w' := by
  have hc := c.toNat_lt
  obtain ⟨m, hm⟩ : ∃ m : Int, (c.toNat : Int) = m := ⟨_, rfl⟩
  rw [txB_int hm, hm]
  have h0 : 0 ≤ m := by omega
  have h1 : m < 256 := by omega
  clear hm hc
  generalize hq : decide (32 ≤ m ∧ m ≤ 126 ∧ m ≠ 34) = q
  have HQ := Lib.hid hq
  clear hq
  go_enter Tryd.func48, Tryd.ntmps48
  go_wp2
  all_goals
    go_ret
    exact ⟨ret_bool (by rw [← HQ.out, Bool.eq_iff_iff]; simp; try omega), rfl⟩
set_option maxHeartbeats 1600000 in
theorem isrun_any (c : UInt8) (w : World) : Calls Tryd.prog 56 #[.int .u8 (c.toNat : Int)] w fun e w' => e = .returned (.bool (inB c)) ∧ w = w' := by
  have hc := c.toNat_lt
  obtain ⟨m, hm⟩ : ∃ m : Int, (c.toNat : Int) = m := ⟨_, rfl⟩
  have HT := Lib.hid (istext_any c)
  rw [txB_int hm, hm] at HT
  rw [inB_int hm, hm]
  have h0 : 0 ≤ m := by omega
  have h1 : m < 256 := by omega
  clear hm hc
  generalize hq : decide (32 < m ∧ m < 127 ∧ m ≠ 40 ∧ m ≠ 41 ∧ m ≠ 34 ∧ m ≠ 59) = q
  generalize hp : decide (32 ≤ m ∧ m ≤ 126 ∧ m ≠ 34) = p at *
  have HQ := Lib.hid hq
  have HP := Lib.hid hp
  clear hq hp
  by_cases h32 : 32 < m <;> cases p
  all_goals
    go_enter Tryd.func56, Tryd.ntmps56
    go_wp2_with (go_at_call 48; refine (HT.out _).mono ?_; rintro e w' ⟨rfl, rfl⟩)
    all_goals
      go_ret
      exact ⟨ret_bool (by have k := HP.out; rw [← HQ.out, Bool.eq_iff_iff]; simp at k ⊢; try omega), rfl⟩
set_option maxHeartbeats 1600000 in
theorem begins_any (c : UInt8) (w : World) : Calls Tryd.prog 50 #[.int .u8 (c.toNat : Int)] w fun e w' => e = .returned (.bool (nuB c)) ∧ w = w' := by
  have hc := c.toNat_lt
  obtain ⟨m, hm⟩ : ∃ m : Int, (c.toNat : Int) = m := ⟨_, rfl⟩
  rw [nuB_int hm, hm]
  have h0 : 0 ≤ m := by omega
  have h1 : m < 256 := by omega
  clear hm hc
  generalize hq : decide (m = 45 ∨ (48 ≤ m ∧ m ≤ 57)) = q
  have HQ := Lib.hid hq
  clear hq
  go_enter Tryd.func50, Tryd.ntmps50
  go_wp2
  all_goals
    go_ret
    exact ⟨ret_bool (by rw [← HQ.out, Bool.eq_iff_iff]; simp; try omega), rfl⟩
set_option maxHeartbeats 1600000 in
theorem in_any (c : UInt8) (w : World) : Calls Tryd.prog 25 #[.int .u8 (c.toNat : Int)] w fun e w' => e = .returned (.bool (inB c)) ∧ w = w' := by
  have hc := c.toNat_lt
  obtain ⟨m, hm⟩ : ∃ m : Int, (c.toNat : Int) = m := ⟨_, rfl⟩
  rw [inB_int hm, hm]
  have h0 : 0 ≤ m := by omega
  have h1 : m < 256 := by omega
  clear hm hc
  generalize hq : decide (32 < m ∧ m < 127 ∧ m ≠ 40 ∧ m ≠ 41 ∧ m ≠ 34 ∧ m ≠ 59) = q
  have HQ := Lib.hid hq
  clear hq
  go_enter Tryd.func25, Tryd.ntmps25
  go_wp2
  all_goals
    go_ret
    exact ⟨ret_bool (by rw [← HQ.out, Bool.eq_iff_iff]; simp; try omega), rfl⟩
set_option maxHeartbeats 1600000 in
theorem isnumber_any (n : Int) (w : World) : Calls Tryd.prog 42 #[.int .i64 n] w fun e w' => e = .returned (.bool (decide (-999999999999999999 ≤ n ∧ n ≤ 999999999999999999))) ∧ w = w' := by
  generalize hq : decide (-999999999999999999 ≤ n ∧ n ≤ 999999999999999999) = q
  have HQ := Lib.hid hq
  clear hq
  go_enter Tryd.func42, Tryd.ntmps42
  go_wp2
  all_goals
    go_ret
    exact ⟨ret_bool (by rw [← HQ.out, Bool.eq_iff_iff]; simp; try omega), rfl⟩
end Go.Proofs.YtonlmennpbklgaaDoor
