/- What the program takes for a name. -/
import Derived.Test.YtbnaakognnkhdaaGreatDoorZj
namespace Go.Proofs.YtbnaakognnkhdaaGreatDoor
open Go.RowKit
set_option linter.unusedSimpArgs false
set_option linter.unusedVariables false

set_option maxHeartbeats 1600000 in
theorem isLetter_int (m : Int) (h0 : 0 ≤ m) (h1 : m < 256) (w : World) : Calls Tryz.prog 52 #[.int .u8 m] w fun e w' => e = .returned (.bool (letI' m)) ∧ w = w' := by
  generalize hq : letI' m = q
  have HQ := Lib.hid hq
  clear hq
  go_enter Tryz.func52, Tryz.ntmps52
  go_wp2
  all_goals
    go_ret
    exact ⟨ret_bool (by rw [← HQ.out]; unfold letI'; first | (symm; rw [decide_eq_true_eq]; omega) | (symm; rw [decide_eq_false_iff_not]; omega) | (rw [Bool.eq_iff_iff]; simp only [Bool.or_eq_true, Bool.and_eq_true, beq_iff_eq, decide_eq_true_eq]; omega)), rfl⟩
theorem isLetter_any (c : UInt8) (w : World) : Calls Tryz.prog 52 #[.int .u8 (c.toNat : Int)] w fun e w' => e = .returned (.bool (letB c)) ∧ w = w' := by
  have hc := c.toNat_lt
  exact isLetter_int _ (by omega) (by omega) w
set_option maxHeartbeats 1600000 in
theorem isDigit_any (c : UInt8) (w : World) : Calls Tryz.prog 43 #[.int .u8 (c.toNat : Int)] w fun e w' => e = .returned (.bool (digB c)) ∧ w = w' := by
  have hc := c.toNat_lt
  obtain ⟨m, hm⟩ : ∃ m : Int, (c.toNat : Int) = m := ⟨_, rfl⟩
  unfold digB
  rw [hm]
  have h0 : 0 ≤ m := by omega
  have h1 : m < 256 := by omega
  clear hm hc
  generalize hq : digI m = q
  have HQ := Lib.hid hq
  clear hq
  go_enter Tryz.func43, Tryz.ntmps43
  go_wp2
  all_goals
    go_ret
    exact ⟨ret_bool (by rw [← HQ.out]; unfold digI; first | (symm; rw [decide_eq_true_eq]; omega) | (symm; rw [decide_eq_false_iff_not]; omega) | (simp_all; try omega)), rfl⟩
def nmB (c : UInt8) : Bool := letB c || digB c
/-- How many bytes of a name or a number a text begins with. -/
def runL : List UInt8 → Nat
  | [] => 0
  | c :: r => if nmB c = true then runL r + 1 else 0
theorem runL_le : ∀ l : List UInt8, runL l ≤ l.length
  | [] => Nat.le_refl _
  | c :: r => by rw [runL]; have := runL_le r; split <;> simp <;> omega
/-- k bytes have been passed. -/
def RelRu (s : ByteArray) (i : Value) : Prop := ∃ k : Nat, k ≤ s.size ∧ i = .int .i64 (k : Int) ∧ runL s.data.toList = k + runL (s.data.toList.drop k)
set_option maxHeartbeats 1600000 in
set_option maxRecDepth 100000 in
theorem runLength_any (s : ByteArray) (w : World) (hs : s.size ≤ maxLen) : Calls Tryz.prog 44 #[.string s] w fun e w' => e = .returned (.int .i64 (runL s.data.toList : Int)) ∧ w = w' := by
  unfold maxLen at hs
  go_enter Tryz.func44, Tryz.ntmps44
  go_wp2
  go_loop [6] (fun i => RelRu s i) (fun i => s.size - (intOf i).toNat)
  case atStart => exact ⟨0, Nat.zero_le _, rfl, by simp⟩
  case round =>
    obtain ⟨k, hk, rfl, hq⟩ := hrel
    have HQ := Lib.hid hq
    clear hq
    by_cases hlt : k < s.size
    · have HLk := Lib.hid (fun w => isLetter_any s[k] w)
      have HDk := Lib.hid (fun w => isDigit_any s[k] w)
      have HR := Lib.hid (show runL (s.data.toList.drop k) = if (letB s[k] || digB s[k]) = true then runL (s.data.toList.drop (k + 1)) + 1 else 0 by rw [drop_at s k hlt]; rfl)
      generalize letB s[k] = b1 at *
      generalize digB s[k] = b2 at *
      cases b1
      · cases b2
        · go_wp2_with (first
            | (go_at_call 52; refine (HLk.out _).mono ?_; rintro e w' ⟨rfl, rfl⟩)
            | (go_at_call 43; refine (HDk.out _).mono ?_; rintro e w' ⟨rfl, rfl⟩))
          go_ret
          exact ⟨ret_int (by rw [HQ.out, HR.out]; simp), rfl⟩
        · go_wp2_with (first
            | (go_at_call 52; refine (HLk.out _).mono ?_; rintro e w' ⟨rfl, rfl⟩)
            | (go_at_call 43; refine (HDk.out _).mono ?_; rintro e w' ⟨rfl, rfl⟩))
          go_round
          case rel => exact ⟨k + 1, by omega, by go_num, by rw [HQ.out, HR.out]; simp; omega⟩
          case measure => simp [intOf]; omega
      · go_wp2_with (go_at_call 52; refine (HLk.out _).mono ?_; rintro e w' ⟨rfl, rfl⟩)
        go_round
        case rel => exact ⟨k + 1, by omega, by go_num, by rw [HQ.out, HR.out]; simp; omega⟩
        case measure => simp [intOf]; omega
    · obtain rfl : k = s.size := by omega
      have HX := Lib.hid (show runL s.data.toList = s.size by rw [HQ.out, drop_all]; rfl)
      go_wp2
      go_ret
      exact ⟨ret_int (by rw [HX.out]), rfl⟩
theorem runL_all : ∀ l : List UInt8, (runL l = l.length) ↔ (l.all fun d => letB d || digB d) = true
  | [] => by simp [runL]
  | c :: r => by
    have ih := runL_all r
    rw [runL, List.all_cons, Bool.and_eq_true, ← ih]
    show _ ↔ nmB c = true ∧ _
    cases nmB c <;> simp
theorem let_dig (c : UInt8) : letB c = true → digB c = false := by
  unfold letB digB letI' digI
  simp only [decide_eq_true_eq, decide_eq_false_iff_not]
  omega
theorem name_run {c : UInt8} {r : List UInt8} : nameL (c :: r) = (!digB c && decide (runL (c :: r) = (c :: r).length)) := by
  rw [Bool.eq_iff_iff]
  simp only [Bool.and_eq_true, decide_eq_true_eq, Bool.not_eq_true']
  rw [runL_all]
  simp only [nameL, List.all_cons, Bool.and_eq_true, Bool.or_eq_true]
  constructor
  · rintro ⟨h1, h2⟩
    exact ⟨let_dig c h1, .inl h1, h2⟩
  · rintro ⟨h1, h2, h3⟩
    rw [h1] at h2
    exact ⟨by simpa using h2, h3⟩
set_option maxHeartbeats 1600000 in
set_option maxRecDepth 100000 in
theorem isName_any (s : ByteArray) (w : World) (hs : s.size ≤ maxLen) : Calls Tryz.prog 29 #[.string s] w fun e w' => e = .returned (.bool (nameB s)) ∧ w = w' := by
  have hr := fun w => runLength_any s w hs
  unfold maxLen at hs
  by_cases h0 : s.size = 0
  · have e2 : (s.toList == []) = true := by rw [toList_nil h0]; rfl
    have e1 : s.toList.isEmpty = true := by rw [toList_nil h0]; rfl
    have HX := Lib.hid (show nameB s = false by
      unfold nameB
      rw [show s.data.toList = [] from List.eq_nil_of_length_eq_zero (by simpa using h0)]
      rfl)
    clear h0 hs hr
    go_enter Tryz.func29, Tryz.ntmps29
    go_wp2
    go_ret
    exact ⟨ret_bool HX.out.symm, rfl⟩
  · have hp : 0 < s.size := by omega
    have hne := toList_ne hp
    have e1 : s.toList.isEmpty = false := by cases hl : s.toList with
      | nil => exact absurd hl hne
      | cons a b => rfl
    have e2 : (s.toList == []) = false := by cases hl : s.toList with
      | nil => exact absurd hl hne
      | cons a b => rfl
    have HD := Lib.hid (fun w => isDigit_any s[0] w)
    have HX := Lib.hid (show nameB s = (!digB s[0] && decide (runL s.data.toList = s.size)) by
      have e := drop_at s 0 hp
      rw [List.drop_zero] at e
      unfold nameB
      rw [e, name_run, ← e]
      congr 2)
    have hle := runL_le s.data.toList
    have hsz : s.data.toList.length = s.size := by simp
    rw [hsz] at hle
    generalize digB s[0] = b at *
    generalize runL s.data.toList = m at *
    clear hne hsz
    cases b
    · go_enter Tryz.func29, Tryz.ntmps29
      go_wp2_with (first
        | (go_at_call 43; refine (HD.out _).mono ?_; rintro e w' ⟨rfl, rfl⟩)
        | (go_at_call 44; refine (hr _).mono ?_; rintro e w' ⟨rfl, rfl⟩))
      go_ret
      exact ⟨ret_bool (by rw [HX.out, Bool.eq_iff_iff]; simp; try omega), rfl⟩
    · go_enter Tryz.func29, Tryz.ntmps29
      go_wp2_with (first
        | (go_at_call 43; refine (HD.out _).mono ?_; rintro e w' ⟨rfl, rfl⟩)
        | (go_at_call 44; refine (hr _).mono ?_; rintro e w' ⟨rfl, rfl⟩))
      go_ret
      exact ⟨ret_bool (by rw [HX.out]; rfl), rfl⟩
end Go.Proofs.YtbnaakognnkhdaaGreatDoor
