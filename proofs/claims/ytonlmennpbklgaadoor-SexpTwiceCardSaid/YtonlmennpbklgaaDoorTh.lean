/- The printer's look at trees that are sound. -/
import Derived.Test.YtonlmennpbklgaaDoorTg
import Derived.Test.YtonlmennpbklgaaDoorSc
import Derived.Deep.LoopGhost
namespace Go.Proofs.YtonlmennpbklgaaDoor
open Go.RowKit
set_option linter.unusedSimpArgs false
set_option linter.unusedVariables false

theorem wordB_spec {s : ByteArray} (h : wordB s = true) : ∃ h0 : 0 < s.size, nuB s[0] = false ∧ ruN s.data.toList = s.size ∧ s.toList ≠ [] := by
  unfold wordB at h
  have hl : s.data.toList.length = s.size := by simp
  have hr := drop_at s 0
  rcases hd : s.data.toList with _ | ⟨c, r⟩
  · rw [hd] at h; simp at h
  · have h0 : 0 < s.size := by rw [← hl, hd]; simp
    have e := hr h0
    rw [List.drop_zero, hd] at e
    injection e with e1 e2
    rw [hd] at h
    simp only [Bool.and_eq_true] at h
    refine ⟨h0, by rw [← e1]; simpa using h.1, ?_, ?_⟩
    · have := ruN_stop (l := c :: r) (c0 := 10) (Y := []) h.2 (by decide)
      rw [ruN_app] at this
      rw [this, ← hl, hd]
    · rw [ByteArray.toList_eq, hd]; simp
set_option maxHeartbeats 1600000 in
set_option maxRecDepth 100000 in
theorem isword_true (s : ByteArray) (w : World) (hs : s.size ≤ 300000) (h : wordB s = true) : Calls Tryd.prog 41 #[.string s] w fun e w' => e = .returned (.bool true) ∧ w = w' := by
  obtain ⟨h0, hn, hr, hne⟩ := wordB_spec h
  have HR := Lib.hid (runLen_any s w (by unfold maxLen; omega))
  have HB := Lib.hid (begins_any s[0] w)
  rw [hn] at HB
  rw [hr] at HR
  have e1 : (!s.toList.isEmpty) = true := by cases hl : s.toList with
    | nil => exact absurd hl hne
    | cons a b => rfl
  have e2 : (s.toList == []) = false := by cases hl : s.toList with
    | nil => exact absurd hl hne
    | cons a b => rfl
  have e3 : (!s.toList == []) = true := by rw [e2]; rfl
  clear h hn hr hne
  go_enter Tryd.func41, Tryd.ntmps41
  go_wp2_with (first
    | (go_at_call 49; refine (HR.out).mono ?_; rintro e w' ⟨rfl, rfl⟩)
    | (go_at_call 50; refine (HB.out).mono ?_; rintro e w' ⟨rfl, rfl⟩))
  go_ret
  exact ⟨ret_bool (by simp), rfl⟩
set_option maxHeartbeats 1600000 in
theorem istext_true (s : ByteArray) (w : World) (hs : s.size ≤ 300000) (h : textB s = true) : Calls Tryd.prog 43 #[.string s] w fun e w' => e = .returned (.bool true) ∧ w = w' := by
  have HI := Lib.hid (fun c w => istext_any c w)
  have HA := Lib.hid (show ∀ (k : Nat) (hk : k < s.size), txB s[k] = true from fun k hk => by
    unfold textB at h
    have hk' : k < s.data.toList.length := by simpa using hk
    exact List.all_eq_true.1 h _ (List.getElem_mem hk'))
  clear h
  go_enter Tryd.func43, Tryd.ntmps43
  go_wp2
  go_loop [6] (fun i => ∃ k : Nat, k ≤ s.size ∧ i = .int .i64 (k : Int)) (fun i => s.size - (intOf i).toNat)
  case atStart => exact ⟨0, Nat.zero_le _, rfl⟩
  case round =>
    obtain ⟨k, hk, rfl⟩ := hrel
    by_cases hlt : k < s.size
    · have hI := HI.out s[k]
      rw [HA.out k hlt] at hI
      have HIc := Lib.hid hI
      clear hI
      go_wp2_with (go_at_call 48; refine (HIc.out _).mono ?_; rintro e w' ⟨rfl, rfl⟩)
      go_round
      case rel => exact ⟨k + 1, by omega, by go_num⟩
      case measure => simp [intOf]; omega
    · obtain rfl : k = s.size := by omega
      go_wp2
      go_ret
      exact ⟨rfl, rfl⟩
set_option maxHeartbeats 3200000 in
set_option maxRecDepth 100000 in
theorem sound_true (k n : Int) (s : ByteArray) (ks : List T) (A : Option Addr) (c : Nat) (w : World) (h : soT (.node k s n ks)) (hs : s.size ≤ 300000) :
    Calls Tryd.prog 32 #[tva k s n A ks.length c] w fun e w' => e = .returned (.bool true) ∧ Fr w w' := by
  unfold soT at h
  have HF := Lib.hid ((Fr.refl w).alloc (.cells #[.int .i64 k, .string s, .int .i64 n, .slice A ks.length c] 38))
  rcases h with ⟨rfl, hw, rfl, rfl⟩ | ⟨rfl, rfl, hn, rfl⟩ | ⟨rfl, ht, rfl, rfl⟩ | ⟨rfl, rfl, rfl, _⟩
  · have HW := Lib.hid (fun w => isword_true s w hs hw)
    clear hw
    go_enter Tryd.func32, Tryd.ntmps32
    go_wp2_with (go_at_call 41; refine (HW.out _).mono ?_; rintro e w' ⟨rfl, rfl⟩)
    go_ret
    exact ⟨ret_bool (by simp), HF.out⟩
  · have hW := isnumber_any n
    unfold okN at hn
    rw [show decide (-999999999999999999 ≤ n ∧ n ≤ 999999999999999999) = true from decide_eq_true (by omega)] at hW
    have HW := Lib.hid hW
    clear hn hW
    go_enter Tryd.func32, Tryd.ntmps32
    go_wp2_with (go_at_call 42; refine (HW.out _).mono ?_; rintro e w' ⟨rfl, rfl⟩)
    go_ret
    exact ⟨ret_bool (by simp), HF.out⟩
  · have HW := Lib.hid (fun w => istext_true s w hs ht)
    clear ht
    go_enter Tryd.func32, Tryd.ntmps32
    go_wp2_with (go_at_call 43; refine (HW.out _).mono ?_; rintro e w' ⟨rfl, rfl⟩)
    go_ret
    exact ⟨ret_bool (by simp), HF.out⟩
  · go_enter Tryd.func32, Tryd.ntmps32
    go_wp2
    go_ret
    exact ⟨ret_bool (by simp), HF.out⟩
end Go.Proofs.YtonlmennpbklgaaDoor
