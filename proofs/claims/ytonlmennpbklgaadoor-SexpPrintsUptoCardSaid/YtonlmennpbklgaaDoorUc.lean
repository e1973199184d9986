/- Which words, texts and trees are sound: what the program and the document answer. Which trees are sound, but for what they hold: the program's answer. -/
import Derived.Test.YtonlmennpbklgaaDoorTg
import Derived.Test.YtonlmennpbklgaaDoorSc
import Derived.Test.YtonlmennpbklgaaDoorSbc
import Derived.Deep.LoopGhost
namespace Go.Proofs.YtonlmennpbklgaaDoor
open Go.RowKit
set_option linter.unusedSimpArgs false
set_option linter.unusedVariables false

theorem ruN_all : ∀ {l : List UInt8}, ruN l = l.length → l.all inB = true
  | [], _ => rfl
  | c :: r, h => by
    unfold ruN at h
    split at h
    · next hc =>
      rw [List.all_cons, Bool.and_eq_true]
      exact ⟨hc, ruN_all (by simpa using h)⟩
    · simp at h
theorem wordB_of {s : ByteArray} (h0 : 0 < s.size) (h1 : ruN s.data.toList = s.size) : wordB s = !nuB s[0] := by
  have hl : s.data.toList.length = s.size := by simp
  have hd := drop_at s 0 h0
  rw [List.drop_zero] at hd
  have ha := ruN_all (l := s.data.toList) (by omega)
  unfold wordB
  rw [hd] at ha ⊢
  simp only [ha, Bool.and_true]
theorem wordB_not {s : ByteArray} (h1 : ruN s.data.toList ≠ s.size) : wordB s = false := by
  have hl : s.data.toList.length = s.size := by simp
  unfold wordB
  rcases hd : s.data.toList with _ | ⟨c, r⟩
  · rfl
  · cases hb : (c :: r).all inB with
    | false => show (!nuB c && (c :: r).all inB) = false; rw [hb, Bool.and_false]
    | true =>
      have := ruN_stop (l := c :: r) (c0 := 10) (Y := []) hb (by decide)
      rw [ruN_app, ← hd] at this
      omega
theorem wordB_empty {s : ByteArray} (h : s.size = 0) : wordB s = false := by
  have hl : s.data.toList.length = s.size := by simp
  unfold wordB
  rcases hd : s.data.toList with _ | ⟨c, r⟩
  · rfl
  · rw [hd] at hl; simp at hl; omega
theorem toList_nil {s : ByteArray} (h : s.size = 0) : s.toList = [] := by
  rw [ByteArray.toList_eq]
  exact List.eq_nil_of_length_eq_zero (by simpa using h)
theorem toList_ne {s : ByteArray} (h : 0 < s.size) : s.toList ≠ [] := by
  rw [ByteArray.toList_eq]
  intro e
  have h2 := congrArg List.length e
  have h3 : s.data.toList.length = s.size := by simp
  rw [List.length_nil] at h2; omega
set_option maxHeartbeats 1600000 in
set_option maxRecDepth 100000 in
theorem isword_any (s : ByteArray) (w : World) (hs : s.size ≤ 1100000) : Calls Tryd.prog 41 #[.string s] w fun e w' => e = .returned (.bool (wordB s)) ∧ w = w' := by
  by_cases h0 : s.size = 0
  · have e2 : (s.toList == []) = true := by rw [toList_nil h0]; rfl
    have e1 : s.toList.isEmpty = true := by rw [toList_nil h0]; rfl
    have e3 : (!s.toList == []) = false := by rw [e2]; rfl
    have HX := Lib.hid (wordB_empty h0)
    clear h0
    go_enter Tryd.func41, Tryd.ntmps41
    go_wp2
    go_ret
    exact ⟨ret_bool HX.out.symm, rfl⟩
  · have hp : 0 < s.size := by omega
    have hne := toList_ne hp
    have e1 : (!s.toList.isEmpty) = true := by cases hl : s.toList with
      | nil => exact absurd hl hne
      | cons a b => rfl
    have e2 : (s.toList == []) = false := by cases hl : s.toList with
      | nil => exact absurd hl hne
      | cons a b => rfl
    have e3 : (!s.toList == []) = true := by rw [e2]; rfl
    have HR := Lib.hid (runLen_any s w (by unfold maxLen; omega))
    by_cases hr : ruN s.data.toList = s.size
    · have HX := Lib.hid (wordB_of hp hr)
      rw [hr] at HR
      have HB := Lib.hid (begins_any s[0] w)
      clear hr hne
      go_enter Tryd.func41, Tryd.ntmps41
      go_wp2_with (first
        | (go_at_call 49; refine (HR.out).mono ?_; rintro e w' ⟨rfl, rfl⟩)
        | (go_at_call 50; refine (HB.out).mono ?_; rintro e w' ⟨rfl, rfl⟩))
      go_ret
      exact ⟨ret_bool HX.out.symm, rfl⟩
    · have HX := Lib.hid (wordB_not hr)
      have hle := ruN_le s.data.toList
      have d1 : decide ((ruN s.data.toList : Int) = (s.size : Int)) = false := by rw [decide_eq_false_iff_not]; omega
      have d2 : ((ruN s.data.toList : Int) == (s.size : Int)) = false := by rw [beq_eq_false_iff_ne]; omega
      have hle2 : (ruN s.data.toList : Int) ≤ 1100000 := by simp at hle; omega
      generalize ruN s.data.toList = q at *
      clear hr hne hle
      go_enter Tryd.func41, Tryd.ntmps41
      go_wp2_with (go_at_call 49; refine (HR.out).mono ?_; rintro e w' ⟨rfl, rfl⟩)
      go_ret
      exact ⟨ret_bool HX.out.symm, rfl⟩
theorem textB_cut {s : ByteArray} (k : Nat) (h : k < s.size) (hk : txB s[k] = false) : textB s = false := by
  unfold textB
  have h2 : k < s.data.toList.length := by simpa using h
  rw [List.all_eq_false]
  exact ⟨_, List.getElem_mem h2, by have : s.data.toList[k] = s[k] := rfl; rw [this, hk]; decide⟩
theorem textB_full {s : ByteArray} (h : ∀ (k : Nat) (h : k < s.size), txB s[k] = true) : textB s = true := by
  unfold textB
  rw [List.all_eq_true]
  intro c hc
  obtain ⟨k, hk, rfl⟩ := List.getElem_of_mem hc
  exact h k (by simpa using hk)
def RelTx (s : ByteArray) (i : Value) : Prop := ∃ k : Nat, k ≤ s.size ∧ i = .int .i64 (k : Int) ∧ ∀ (j : Nat) (hj : j < s.size), j < k → txB s[j] = true
set_option maxHeartbeats 1600000 in
theorem istext_any2 (s : ByteArray) (w : World) (hs : s.size ≤ 1100000) : Calls Tryd.prog 43 #[.string s] w fun e w' => e = .returned (.bool (textB s)) ∧ w = w' := by
  have HI := Lib.hid (fun c w => istext_any c w)
  go_enter Tryd.func43, Tryd.ntmps43
  go_wp2
  go_loop [6] (fun i => RelTx s i) (fun i => s.size - (intOf i).toNat)
  case atStart => exact ⟨0, Nat.zero_le _, rfl, fun j _ h => absurd h (by omega)⟩
  case round =>
    obtain ⟨k, hk, rfl, hq⟩ := hrel
    have HQ := Lib.hid hq
    clear hq
    by_cases hlt : k < s.size
    · have hI := HI.out s[k]
      cases hb : txB s[k] with
      | true =>
        rw [hb] at hI
        have HB := Lib.hid hb
        have HIc := Lib.hid hI
        clear hI hb
        go_wp2_with (go_at_call 48; refine (HIc.out _).mono ?_; rintro e w' ⟨rfl, rfl⟩)
        go_round
        case rel =>
          refine ⟨k + 1, by omega, by go_num, fun j hj h => ?_⟩
          by_cases e : j < k
          · exact HQ.out j hj e
          · obtain rfl : j = k := by omega
            exact HB.out
        case measure => simp [intOf]; omega
      | false =>
        rw [hb] at hI
        have HX := Lib.hid (textB_cut k hlt hb)
        have HIc := Lib.hid hI
        clear hI hb
        go_wp2_with (go_at_call 48; refine (HIc.out _).mono ?_; rintro e w' ⟨rfl, rfl⟩)
        go_ret
        exact ⟨ret_bool HX.out.symm, rfl⟩
    · have HX := Lib.hid (textB_full (s := s) fun j hj => HQ.out j hj (by omega))
      obtain rfl : k = s.size := by omega
      go_wp2
      go_ret
      exact ⟨ret_bool HX.out.symm, rfl⟩
theorem wordB_in {s : ByteArray} (k : Nat) (h : k < s.size) (hk : inB s[k] = false) : wordB s = false := by
  have h2 : k < s.data.toList.length := by simpa using h
  have ha : s.data.toList.all inB = false := by
    rw [List.all_eq_false]
    exact ⟨_, List.getElem_mem h2, by have : s.data.toList[k] = s[k] := rfl; rw [this, hk]; decide⟩
  unfold wordB
  rcases hd : s.data.toList with _ | ⟨c, r⟩
  · rfl
  · rw [hd] at ha
    show (!nuB c && (c :: r).all inB) = false
    rw [ha, Bool.and_false]
theorem wordB_all {s : ByteArray} (h0 : 0 < s.size) (h : ∀ (k : Nat) (h : k < s.size), inB s[k] = true) : wordB s = !nuB s[0] := by
  have hd := drop_at s 0 h0
  rw [List.drop_zero] at hd
  have ha : s.data.toList.all inB = true := by
    rw [List.all_eq_true]
    intro c hc
    obtain ⟨k, hk, rfl⟩ := List.getElem_of_mem hc
    exact h k (by simpa using hk)
  unfold wordB
  rw [hd] at ha ⊢
  show (!nuB s[0] && (s[0] :: _).all inB) = _
  rw [ha, Bool.and_true]
def RelWd (s : ByteArray) (i : Value) : Prop := ∃ k : Nat, k ≤ s.size ∧ i = .int .i64 (k : Int) ∧ ∀ (j : Nat) (hj : j < s.size), j < k → inB s[j] = true
set_option maxHeartbeats 1600000 in
set_option maxRecDepth 100000 in
theorem refword_any (s : ByteArray) (w : World) (hs : s.size ≤ 1100000) : Calls Tryd.prog 29 #[.string s] w fun e w' => e = .returned (.bool (wordB s)) ∧ w = w' := by
  have HI := Lib.hid (fun c w => in_any c w)
  go_enter Tryd.func29, Tryd.ntmps29
  go_wp2
  go_loop [3] (fun i => RelWd s i) (fun i => s.size - (intOf i).toNat)
  case atStart => exact ⟨0, Nat.zero_le _, rfl, fun j _ h => absurd h (by omega)⟩
  case round =>
    obtain ⟨k, hk, rfl, hq⟩ := hrel
    have HQ := Lib.hid hq
    clear hq
    by_cases hlt : k < s.size
    · have hI := HI.out s[k]
      cases hb : inB s[k] with
      | true =>
        rw [hb] at hI
        have HB := Lib.hid hb
        have HIc := Lib.hid hI
        clear hI hb
        go_wp2_with (go_at_call 25; refine (HIc.out _).mono ?_; rintro e w' ⟨rfl, rfl⟩)
        go_round
        case rel =>
          refine ⟨k + 1, by omega, by go_num, fun j hj h => ?_⟩
          by_cases e : j < k
          · exact HQ.out j hj e
          · obtain rfl : j = k := by omega
            exact HB.out
        case measure => simp [intOf]; omega
      | false =>
        rw [hb] at hI
        have HX := Lib.hid (wordB_in k hlt hb)
        have HIc := Lib.hid hI
        clear hI hb
        go_wp2_with (go_at_call 25; refine (HIc.out _).mono ?_; rintro e w' ⟨rfl, rfl⟩)
        go_ret
        exact ⟨ret_bool HX.out.symm, rfl⟩
    · obtain rfl : k = s.size := by omega
      by_cases h0 : 0 < s.size
      · have HX := Lib.hid (wordB_all h0 fun j hj => HQ.out j hj hj)
        go_wp2
        all_goals
          go_ret
          refine ⟨ret_bool ?_, rfl⟩
          rw [HX.out, nuB_int (c := s[0]) (m := (s[0].toNat : Int)) rfl, Bool.eq_iff_iff]
          generalize (s[0].toNat : Int) = m at *
          simp
          try omega
      · have HX := Lib.hid (wordB_empty (s := s) (by omega))
        go_wp2
        go_ret
        exact ⟨ret_bool HX.out.symm, rfl⟩
set_option maxHeartbeats 1600000 in
theorem reftext_any (s : ByteArray) (w : World) (hs : s.size ≤ 1100000) : Calls Tryd.prog 30 #[.string s] w fun e w' => e = .returned (.bool (textB s)) ∧ w = w' := by
  go_enter Tryd.func30, Tryd.ntmps30
  go_wp2
  go_loop [3] (fun i => RelTx s i) (fun i => s.size - (intOf i).toNat)
  case atStart => exact ⟨0, Nat.zero_le _, rfl, fun j _ h => absurd h (by omega)⟩
  case round =>
    obtain ⟨k, hk, rfl, hq⟩ := hrel
    have HQ := Lib.hid hq
    clear hq
    by_cases hlt : k < s.size
    · have hi := txB_int (c := s[k]) (m := (s[k].toNat : Int)) rfl
      have hgo := fun h : txB s[k] = false => textB_cut k hlt h
      have hn : ∀ h : txB s[k] = true, RelTx s (.int .i64 ((k : Int) + 1)) := fun hb => by
        refine ⟨k + 1, by omega, by go_num, fun j hj h => ?_⟩
        by_cases e : j < k
        · exact HQ.out j hj e
        · obtain rfl : j = k := by omega
          exact hb
      have HG := Lib.hid hgo
      have HN := Lib.hid hn
      clear hgo hn
      cases hb : txB s[k] with
      | true =>
        rw [hb] at hi
        have hi2 := of_decide_eq_true hi.symm
        obtain ⟨i1, i2, i3⟩ := hi2
        have d1 : decide ((s[k].toNat : Int) < 32) = false := by rw [decide_eq_false_iff_not]; omega
        have d2 : decide (126 < (s[k].toNat : Int)) = false := by rw [decide_eq_false_iff_not]; omega
        have d3 : ((s[k].toNat : Int) == 34) = false := by rw [beq_eq_false_iff_ne]; exact i3
        have R := Lib.hid (HN.out hb)
        clear hi i1 i2 i3
        go_wp2
        go_round
        case rel => exact R.out
        case measure => simp [intOf]; omega
      | false =>
        rw [hb] at hi
        have HX := Lib.hid (HG.out hb)
        have hi2 : (s[k].toNat : Int) < 32 ∨ 126 < (s[k].toNat : Int) ∨ (s[k].toNat : Int) = 34 := by
          have := of_decide_eq_false hi.symm
          omega
        clear hi
        rcases hi2 with h | h | h
        all_goals
          go_wp2
          go_ret
          exact ⟨ret_bool HX.out.symm, rfl⟩
    · have HX := Lib.hid (textB_full (s := s) fun j hj => HQ.out j hj (by omega))
      obtain rfl : k = s.size := by omega
      go_wp2
      go_ret
      exact ⟨ret_bool HX.out.symm, rfl⟩
end Go.Proofs.YtonlmennpbklgaaDoor
namespace Go.Proofs.YtonlmennpbklgaaDoor
open Go.RowKit
set_option linter.unusedSimpArgs false
set_option linter.unusedVariables false

/-- A tree is sound but for what it holds. -/
def soS (k : Int) (s : ByteArray) (n : Int) (m : Nat) : Prop := (k = 1 ∧ wordB s = true ∧ n = 0 ∧ m = 0) ∨ (k = 2 ∧ s.size = 0 ∧ okN n ∧ m = 0) ∨ (k = 3 ∧ textB s = true ∧ n = 0 ∧ m = 0) ∨ (k = 4 ∧ s.size = 0 ∧ n = 0)
theorem size_nil {s : ByteArray} : s.size = 0 ↔ s = ⟨#[]⟩ := by
  constructor
  · intro h
    cases s
    congr
    exact Array.eq_empty_of_size_eq_zero h
  · rintro rfl; rfl
theorem len_nil {α : Type} {l : List α} : l.length = 0 ↔ l = [] := List.length_eq_zero_iff
theorem soT_iff {k n : Int} {s : ByteArray} {ks : List T} : soT (.node k s n ks) ↔ soS k s n ks.length ∧ soL ks := by
  unfold soT soS
  rw [size_nil, len_nil]
  constructor
  · rintro (⟨a, b, c, rfl⟩ | ⟨a, b, c, rfl⟩ | ⟨a, b, c, rfl⟩ | ⟨a, b, c, d⟩)
    · exact ⟨.inl ⟨a, b, c, rfl⟩, by unfold soL; trivial⟩
    · exact ⟨.inr (.inl ⟨a, b, c, rfl⟩), by unfold soL; trivial⟩
    · exact ⟨.inr (.inr (.inl ⟨a, b, c, rfl⟩)), by unfold soL; trivial⟩
    · exact ⟨.inr (.inr (.inr ⟨a, b, c⟩)), d⟩
  · rintro ⟨h | h | h | ⟨a, b, c⟩, d⟩
    · exact .inl h
    · exact .inr (.inl h)
    · exact .inr (.inr (.inl h))
    · exact .inr (.inr (.inr ⟨a, b, c, d⟩))
/-- It answers whether P. -/
def Ans (P : Prop) (w : World) (e : Ending) (w' : World) : Prop := ∃ b, e = .returned (.bool b) ∧ (b = true ↔ P) ∧ Fr w w'
theorem Ans.iff {P Q : Prop} {w w' : World} {e : Ending} (h : P ↔ Q) (k : Ans P w e w') : Ans Q w e w' := by
  obtain ⟨b, h1, h2, h3⟩ := k
  exact ⟨b, h1, h2.trans h, h3⟩
theorem str_zero {s : ByteArray} : (s.toList == []) = decide (s.size = 0) := by
  by_cases h : s.size = 0
  · rw [toList_nil h]; simp [h]
  · have := toList_ne (s := s) (by omega)
    rw [decide_eq_false h, beq_eq_false_iff_ne]; exact this
set_option maxHeartbeats 3200000 in
set_option maxRecDepth 100000 in
theorem sound_any (k n : Int) (s : ByteArray) (m : Nat) (A : Option Addr) (c : Nat) (w : World) (hs : s.size ≤ 1100000) (hm : m ≤ 1100000) :
    Calls Tryd.prog 32 #[tva k s n A m c] w fun e w' => Ans (soS k s n m) w e w' := by
  have HF := Lib.hid ((Fr.refl w).alloc (.cells #[.int .i64 k, .string s, .int .i64 n, .slice A m c] 38))
  have HW := Lib.hid (fun w => isword_any s w hs)
  have HX := Lib.hid (fun w => istext_any2 s w hs)
  have HN := Lib.hid (fun w => isnumber_any n w)
  have e1 := str_zero (s := s)
  by_cases h1 : k = 1
  · subst h1
    have HS := Lib.hid (show soS 1 s n m ↔ (wordB s = true ∧ n = 0 ∧ m = 0) from by simp [soS])
    cases hb : wordB s <;> rw [hb] at HW HS
    all_goals
      by_cases hn : n = 0
      · subst hn
        by_cases h2 : m = 0
        · subst h2
          go_enter Tryd.func32, Tryd.ntmps32
          go_wp2_with (go_at_call 41; refine (HW.out _).mono ?_; rintro e w' ⟨rfl, rfl⟩)
          go_ret
          exact ⟨_, rfl, by rw [HS.out]; simp, HF.out⟩
        · have d1 : decide (m = 0) = false := decide_eq_false h2
          have d2 : ((m : Int) == 0) = false := by rw [beq_eq_false_iff_ne]; omega
          go_enter Tryd.func32, Tryd.ntmps32
          go_wp2_with (go_at_call 41; refine (HW.out _).mono ?_; rintro e w' ⟨rfl, rfl⟩)
          go_ret
          exact ⟨_, rfl, by rw [HS.out]; simp [h2], HF.out⟩
      · have d1 : (n == 0) = false := by rw [beq_eq_false_iff_ne]; exact hn
        go_enter Tryd.func32, Tryd.ntmps32
        go_wp2_with (go_at_call 41; refine (HW.out _).mono ?_; rintro e w' ⟨rfl, rfl⟩)
        go_ret
        exact ⟨_, rfl, by rw [HS.out]; simp [hn], HF.out⟩
  · by_cases h3 : k = 3
    · subst h3
      have HS := Lib.hid (show soS 3 s n m ↔ (textB s = true ∧ n = 0 ∧ m = 0) from by simp [soS])
      cases hb : textB s <;> rw [hb] at HX HS
      all_goals
        by_cases hn : n = 0
        · subst hn
          by_cases h2 : m = 0
          · subst h2
            go_enter Tryd.func32, Tryd.ntmps32
            go_wp2_with (go_at_call 43; refine (HX.out _).mono ?_; rintro e w' ⟨rfl, rfl⟩)
            go_ret
            exact ⟨_, rfl, by rw [HS.out]; simp, HF.out⟩
          · have d2 : ((m : Int) == 0) = false := by rw [beq_eq_false_iff_ne]; omega
            go_enter Tryd.func32, Tryd.ntmps32
            go_wp2_with (go_at_call 43; refine (HX.out _).mono ?_; rintro e w' ⟨rfl, rfl⟩)
            go_ret
            exact ⟨_, rfl, by rw [HS.out]; simp [h2], HF.out⟩
        · have d1 : (n == 0) = false := by rw [beq_eq_false_iff_ne]; exact hn
          go_enter Tryd.func32, Tryd.ntmps32
          go_wp2_with (go_at_call 43; refine (HX.out _).mono ?_; rintro e w' ⟨rfl, rfl⟩)
          go_ret
          exact ⟨_, rfl, by rw [HS.out]; simp [hn], HF.out⟩
    · by_cases h2 : k = 2
      · subst h2
        have HS := Lib.hid (show soS 2 s n m ↔ (okN n ∧ s.size = 0 ∧ m = 0) from by simp [soS]; exact ⟨fun ⟨a, b, c⟩ => ⟨b, a, c⟩, fun ⟨a, b, c⟩ => ⟨b, a, c⟩⟩)
        have HO := Lib.hid (show okN n ↔ decide (-999999999999999999 ≤ n ∧ n ≤ 999999999999999999) = true from by unfold okN; rw [decide_eq_true_eq]; omega)
        cases hb : decide (-999999999999999999 ≤ n ∧ n ≤ 999999999999999999) <;> rw [hb] at HN HO
        all_goals
          by_cases hz : s.size = 0
          · have d3 : (s.toList == []) = true := by rw [e1]; exact decide_eq_true hz
            have d4 : s.toList.isEmpty = true := by rw [toList_nil hz]; rfl
            by_cases h2 : m = 0
            · subst h2
              go_enter Tryd.func32, Tryd.ntmps32
              go_wp2_with (go_at_call 42; refine (HN.out _).mono ?_; rintro e w' ⟨rfl, rfl⟩)
              go_ret
              exact ⟨_, rfl, by rw [HS.out, HO.out]; simp [hz], HF.out⟩
            · have d2 : ((m : Int) == 0) = false := by rw [beq_eq_false_iff_ne]; omega
              go_enter Tryd.func32, Tryd.ntmps32
              go_wp2_with (go_at_call 42; refine (HN.out _).mono ?_; rintro e w' ⟨rfl, rfl⟩)
              go_ret
              exact ⟨_, rfl, by rw [HS.out, HO.out]; simp [h2], HF.out⟩
          · have d3 : (s.toList == []) = false := by rw [e1]; exact decide_eq_false hz
            have d4 : s.toList.isEmpty = false := by
              have := toList_ne (s := s) (by omega)
              cases hl : s.toList with
              | nil => exact absurd hl this
              | cons a b => rfl
            go_enter Tryd.func32, Tryd.ntmps32
            go_wp2_with (go_at_call 42; refine (HN.out _).mono ?_; rintro e w' ⟨rfl, rfl⟩)
            go_ret
            exact ⟨_, rfl, by rw [HS.out, HO.out]; simp [hz], HF.out⟩
      · by_cases h4 : k = 4
        · subst h4
          have HS := Lib.hid (show soS 4 s n m ↔ (s.size = 0 ∧ n = 0) from by simp [soS])
          by_cases hz : s.size = 0
          · have d3 : (s.toList == []) = true := by rw [e1]; exact decide_eq_true hz
            have d4 : s.toList.isEmpty = true := by rw [toList_nil hz]; rfl
            by_cases hn : n = 0
            · subst hn
              go_enter Tryd.func32, Tryd.ntmps32
              go_wp2
              go_ret
              exact ⟨_, rfl, by rw [HS.out]; simp [hz], HF.out⟩
            · have d1 : (n == 0) = false := by rw [beq_eq_false_iff_ne]; exact hn
              go_enter Tryd.func32, Tryd.ntmps32
              go_wp2
              go_ret
              exact ⟨_, rfl, by rw [HS.out]; simp [hn], HF.out⟩
          · have d3 : (s.toList == []) = false := by rw [e1]; exact decide_eq_false hz
            have d4 : s.toList.isEmpty = false := by
              have := toList_ne (s := s) (by omega)
              cases hl : s.toList with
              | nil => exact absurd hl this
              | cons a b => rfl
            go_enter Tryd.func32, Tryd.ntmps32
            go_wp2
            go_ret
            exact ⟨_, rfl, by rw [HS.out]; simp [hz], HF.out⟩
        · have HS := Lib.hid (show soS k s n m ↔ False from by simp [soS, h1, h2, h3, h4])
          have d1 : (k == 1) = false := by rw [beq_eq_false_iff_ne]; exact h1
          have d2 : (k == 2) = false := by rw [beq_eq_false_iff_ne]; exact h2
          have d3 : (k == 3) = false := by rw [beq_eq_false_iff_ne]; exact h3
          have d4 : (k == 4) = false := by rw [beq_eq_false_iff_ne]; exact h4
          go_enter Tryd.func32, Tryd.ntmps32
          go_wp2
          go_ret
          exact ⟨_, rfl, by rw [HS.out]; simp, HF.out⟩
end Go.Proofs.YtonlmennpbklgaaDoor
