/- How long a run is; whether all bytes are a text's. -/
import Derived.Test.YtonlmennpbklgaaDoorSb
namespace Go.Proofs.YtonlmennpbklgaaDoor
open Go.RowKit
set_option linter.unusedSimpArgs false
set_option linter.unusedVariables false

theorem drop_at (s : ByteArray) (k : Nat) (h : k < s.size) : s.data.toList.drop k = s[k] :: s.data.toList.drop (k + 1) := by
  have h2 : k < s.data.toList.length := by simpa using h
  rw [List.drop_eq_getElem_cons h2]; rfl
theorem drop_all (s : ByteArray) : s.data.toList.drop s.size = [] := by simp
def RelR (s : ByteArray) (i : Value) : Prop := ∃ k : Nat, k ≤ s.size ∧ i = .int .i64 (k : Int) ∧ ruN s.data.toList = k + ruN (s.data.toList.drop k)
set_option maxHeartbeats 1600000 in
theorem runLen_any (s : ByteArray) (w : World) (hs : s.size ≤ maxLen) :
    Calls Tryd.prog 49 #[.string s] w fun e w' => e = .returned (.int .i64 (ruN s.data.toList : Int)) ∧ w = w' := by
  unfold maxLen at hs
  have HI := Lib.hid (fun c w => isrun_any c w)
  go_enter Tryd.func49, Tryd.ntmps49
  go_wp2
  go_loop [3, 6] (fun _ i => RelR s i) (fun _ i => s.size - (intOf i).toNat)
  case atStart => exact ⟨0, Nat.zero_le _, rfl, by simp⟩
  case round =>
    obtain ⟨k, hk, rfl, hq⟩ := hrel
    have HQ := Lib.hid hq
    clear hq
    by_cases hlt : k < s.size
    · have HD := Lib.hid (drop_at s k hlt)
      have HIc := Lib.hid (fun w => HI.out s[k] w)
      have HR := Lib.hid (show ruN (s[k] :: s.data.toList.drop (k + 1)) = if inB s[k] then ruN (s.data.toList.drop (k + 1)) + 1 else 0 from rfl)
      generalize inB s[k] = b at *
      cases b
      · go_wp2_with (go_at_call 56; refine (HIc.out _).mono ?_; rintro e w' ⟨rfl, rfl⟩)
        go_ret
        exact ⟨ret_int (by have h1 := HQ.out; have h2 := HD.out; have h3 := HR.out; rw [h2, h3] at h1; simp at h1; omega), rfl⟩
      · go_wp2_with (go_at_call 56; refine (HIc.out _).mono ?_; rintro e w' ⟨rfl, rfl⟩)
        go_round
        case rel => exact ⟨k + 1, by omega, by go_num, by have h1 := HQ.out; have h2 := HD.out; have h3 := HR.out; rw [h2, h3] at h1; simp at h1; omega⟩
        case measure => simp [intOf]; omega
    · obtain rfl : k = s.size := by omega
      go_wp2
      go_ret
      exact ⟨ret_int (by have h1 := HQ.out; rw [drop_all] at h1; simp [ruN] at h1; omega), rfl⟩
end Go.Proofs.YtonlmennpbklgaaDoor
