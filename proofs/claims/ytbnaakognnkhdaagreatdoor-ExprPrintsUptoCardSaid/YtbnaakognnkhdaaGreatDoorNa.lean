/- Names, as the document has them: letters, digits. -/
import Derived.Test.YtbnaakognnkhdaaGreatDoorRow
import Derived.Test.YtbnaakognnkhdaaGreatDoorChecked
namespace Go.Proofs.YtbnaakognnkhdaaGreatDoor
open Go.RowKit
set_option linter.unusedSimpArgs false
set_option linter.unusedVariables false

def letI' (m : Int) : Bool := decide ((65 ≤ m ∧ m ≤ 90) ∨ (97 ≤ m ∧ m ≤ 122) ∨ m = 95 ∨ m = 46 ∨ m = 36)
def digI (m : Int) : Bool := decide (48 ≤ m ∧ m ≤ 57)
def letB (c : UInt8) : Bool := letI' (c.toNat : Int)
def digB (c : UInt8) : Bool := digI (c.toNat : Int)
/-- Is it a name? -/
def nameL : List UInt8 → Bool
  | [] => false
  | c :: r => letB c && r.all fun d => letB d || digB d
def nameB (s : ByteArray) : Bool := nameL s.data.toList
set_option maxHeartbeats 1600000 in
theorem letter_int (m : Int) (h0 : 0 ≤ m) (h1 : m < 256) (w : World) : Calls Tryz.prog 35 #[.int .u8 m] w fun e w' => e = .returned (.bool (letI' m)) ∧ w = w' := by
  generalize hq : letI' m = q
  have HQ := Lib.hid hq
  clear hq
  go_enter Tryz.func35, Tryz.ntmps35
  go_wp2
  all_goals
    go_ret
    exact ⟨ret_bool (by rw [← HQ.out]; unfold letI'; first | (symm; rw [decide_eq_true_eq]; omega) | (symm; rw [decide_eq_false_iff_not]; omega) | (rw [Bool.eq_iff_iff]; simp only [Bool.or_eq_true, Bool.and_eq_true, beq_iff_eq, decide_eq_true_eq]; omega)), rfl⟩
theorem letter_any (c : UInt8) (w : World) : Calls Tryz.prog 35 #[.int .u8 (c.toNat : Int)] w fun e w' => e = .returned (.bool (letB c)) ∧ w = w' := by
  have hc := c.toNat_lt
  exact letter_int _ (by omega) (by omega) w
theorem digit_any (c : UInt8) (w : World) : Calls Tryz.prog 36 #[.int .u8 (c.toNat : Int)] w fun e w' => e = .returned (.bool (digB c)) ∧ w = w' := by
  have hc := c.toNat_lt
  obtain ⟨m, hm⟩ : ∃ m : Int, (c.toNat : Int) = m := ⟨_, rfl⟩
  unfold digB
  rw [hm]
  have h0 : 0 ≤ m := by omega
  have h1 : m < 256 := by omega
  clear hm hc
  generalize hq : digI m = q
  have HQ := Lib.hid hq
  clear hq
  go_enter Tryz.func36, Tryz.ntmps36
  go_wp2
  all_goals
    go_ret
    exact ⟨ret_bool (by rw [← HQ.out]; unfold digI; first | (symm; rw [decide_eq_true_eq]; omega) | (symm; rw [decide_eq_false_iff_not]; omega) | (simp_all; try omega)), rfl⟩
theorem drop_at (s : ByteArray) (k : Nat) (h : k < s.size) : s.data.toList.drop k = s[k] :: s.data.toList.drop (k + 1) := by
  have h2 : k < s.data.toList.length := by simpa using h
  rw [List.drop_eq_getElem_cons h2]; rfl
theorem drop_all (s : ByteArray) : s.data.toList.drop s.size = [] := by simp
theorem toList_nil {s : ByteArray} (h : s.size = 0) : s.toList = [] := by
  rw [ByteArray.toList_eq]
  exact List.eq_nil_of_length_eq_zero (by simpa using h)
theorem toList_ne {s : ByteArray} (h : 0 < s.size) : s.toList ≠ [] := by
  rw [ByteArray.toList_eq]
  intro e
  have h2 := congrArg List.length e
  have h3 : s.data.toList.length = s.size := by simp
  rw [List.length_nil] at h2; omega
/-- What stays true over the rest of a name. -/
def RelNm (s : ByteArray) (i : Value) : Prop := ∃ k : Nat, 1 ≤ k ∧ k ≤ s.size ∧ i = .int .i64 (k : Int) ∧ nameB s = (s.data.toList.drop k).all fun d => letB d || digB d
set_option maxHeartbeats 1600000 in
theorem name_any (s : ByteArray) (w : World) (hs : s.size ≤ maxLen) : Calls Tryz.prog 24 #[.string s] w fun e w' => e = .returned (.bool (nameB s)) ∧ w = w' := by
  unfold maxLen at hs
  by_cases h0 : s.size = 0
  · have e2 : (s.toList == []) = true := by rw [toList_nil h0]; rfl
    have e1 : s.toList.isEmpty = true := by rw [toList_nil h0]; rfl
    have HX := Lib.hid (show nameB s = false by
      unfold nameB
      rw [show s.data.toList = [] from List.eq_nil_of_length_eq_zero (by simpa using h0)]
      rfl)
    clear h0 hs
    go_enter Tryz.func24, Tryz.ntmps24
    go_wp2
    go_ret
    exact ⟨ret_bool HX.out.symm, rfl⟩
  · have hp : 0 < s.size := by omega
    have hne := toList_ne hp
    have e1 : s.toList.isEmpty = false := by cases hl : s.toList with
      | nil => exact absurd hl hne
      | cons a b => rfl
    have e2 : (s.toList == []) = false := by cases hl : s.toList with
      | nil => exact absurd hl hne
      | cons a b => rfl
    have HL := Lib.hid (fun k (h : k < s.size) w => letter_any s[k] w)
    have HD := Lib.hid (fun k (h : k < s.size) w => digit_any s[k] w)
    have HN := Lib.hid (show nameB s = (letB s[0] && (s.data.toList.drop 1).all fun d => letB d || digB d) by
      unfold nameB
      have := drop_at s 0 hp
      rw [List.drop_zero] at this
      rw [this]
      rfl)
    have HL0 := Lib.hid (letter_any s[0] w)
    clear hne
    generalize hb : letB s[0] = b0 at *
    cases b0
    · go_enter Tryz.func24, Tryz.ntmps24
      go_wp2_with (go_at_call 35; refine (HL0.out).mono ?_; rintro e w' ⟨rfl, rfl⟩)
      go_ret
      exact ⟨ret_bool (by rw [HN.out]; rfl), rfl⟩
    · go_enter Tryz.func24, Tryz.ntmps24
      go_wp2_with (go_at_call 35; refine (HL0.out).mono ?_; rintro e w' ⟨rfl, rfl⟩)
      go_loop [3] (fun i => RelNm s i) (fun i => s.size - (intOf i).toNat)
      case atStart => exact ⟨1, Nat.le_refl _, hp, rfl, by rw [HN.out]; rfl⟩
      case round =>
        obtain ⟨k, hk1, hk, rfl, hq⟩ := hrel
        have HQ := Lib.hid hq
        clear hq
        by_cases hlt : k < s.size
        · have HLk := Lib.hid (fun w => HL.out k hlt w)
          have HDk := Lib.hid (fun w => HD.out k hlt w)
          have HA := Lib.hid (drop_at s k hlt)
          have HR := Lib.hid (show ((s[k] :: s.data.toList.drop (k + 1)).all fun d => letB d || digB d) = ((letB s[k] || digB s[k]) && (s.data.toList.drop (k + 1)).all fun d => letB d || digB d) from rfl)
          generalize letB s[k] = b at *
          cases b
          · generalize digB s[k] = b at *
            cases b
            · go_wp2_with (first
                | (go_at_call 35; refine (HLk.out _).mono ?_; rintro e w' ⟨rfl, rfl⟩)
                | (go_at_call 36; refine (HDk.out _).mono ?_; rintro e w' ⟨rfl, rfl⟩))
              go_ret
              exact ⟨ret_bool (by rw [HQ.out, HA.out, HR.out]; rfl), rfl⟩
            · go_wp2_with (first
                | (go_at_call 35; refine (HLk.out _).mono ?_; rintro e w' ⟨rfl, rfl⟩)
                | (go_at_call 36; refine (HDk.out _).mono ?_; rintro e w' ⟨rfl, rfl⟩))
              go_round
              case rel => exact ⟨k + 1, by omega, by omega, by go_num, by rw [HQ.out, HA.out, HR.out]; rfl⟩
              case measure => simp [intOf]; omega
          · go_wp2_with (go_at_call 35; refine (HLk.out _).mono ?_; rintro e w' ⟨rfl, rfl⟩)
            go_round
            case rel => exact ⟨k + 1, by omega, by omega, by go_num, by rw [HQ.out, HA.out, HR.out]; rfl⟩
            case measure => simp [intOf]; omega
        · obtain rfl : k = s.size := by omega
          go_wp2
          go_ret
          exact ⟨ret_bool (by rw [HQ.out, drop_all]; rfl), rfl⟩
end Go.Proofs.YtbnaakognnkhdaaGreatDoor
