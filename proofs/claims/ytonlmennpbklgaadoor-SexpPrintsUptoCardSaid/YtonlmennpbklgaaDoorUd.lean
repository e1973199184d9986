/- Which trees are sound: the document's answer. -/
import Derived.Test.YtonlmennpbklgaaDoorUc
namespace Go.Proofs.YtonlmennpbklgaaDoor
open Go.RowKit
set_option linter.unusedSimpArgs false
set_option linter.unusedVariables false

theorem soL_snoc2 : ∀ (l : List T) (t : T), soL (l ++ [t]) ↔ soL l ∧ soT t
  | [], t => by simp only [List.nil_append]; unfold soL; unfold soL; simp
  | x :: r, t => by
    simp only [List.cons_append]
    unfold soL
    rw [soL_snoc2 r t, and_assoc]
theorem soL_take {ks : List T} {j : Nat} (h : j < ks.length) : soL (ks.take (j + 1)) ↔ soL (ks.take j) ∧ soT ks[j] := by
  rw [List.take_succ_eq_append_getElem h, soL_snoc2]
def SoC (N : Nat) : Prop := ∀ (k n : Int) (s : ByteArray) (ks : List T) (A : Option Addr) (c : Nat) (F : Nat → Prop) (w : World), cntT (.node k s n ks) ≤ N → cntT (.node k s n ks) ≤ 1100000 → smT 1100000 (.node k s n ks) → RdL w F A ks → (∀ b, F b → b < w.heap.size) →
  Calls Tryd.prog 16 #[tva k s n A ks.length c] w fun e w' => Ans (soT (.node k s n ks)) w e w'
def RelSo (ks : List T) (w : World) (i : Value) (wr : World) : Prop := ∃ j : Nat, j ≤ ks.length ∧ i = .int .i64 (j : Int) ∧ Fr w wr ∧ soL (ks.take j)
set_option maxHeartbeats 3200000 in
set_option maxRecDepth 100000 in
theorem so_list (N : Nat) (ih : SoC N) (n : Int) (s : ByteArray) (ks : List T) (A : Option Addr) (c : Nat) (F : Nat → Prop) (w : World) (hN : cntL ks ≤ N) (hN2 : cntL ks ≤ 1100000) (hs : s.size ≤ 1100000) (hsm : smL 1100000 ks) (hr : RdL w F A ks) (hF : ∀ b, F b → b < w.heap.size) :
    Calls Tryd.prog 16 #[tva 4 s n A ks.length c] w fun e w' => Ans (soT (.node 4 s n ks)) w e w' := by
  have HI := Lib.hid ih
  have HSM := Lib.hid hsm
  have HR := Lib.hid hr
  have HF := Lib.hid hF
  have HX := Lib.hid (soT_iff (k := 4) (n := n) (s := s) (ks := ks))
  have HS := Lib.hid (show soS 4 s n ks.length ↔ (s.size = 0 ∧ n = 0) from by simp [soS])
  have e1 := str_zero (s := s)
  have hln := len_le_cnt ks
  have hll : (ks.length : Int) ≤ 1100000 := by omega
  have HB := Lib.hid (Bk.new w 38 #[.int .i64 4, .string s, .int .i64 n, .slice A ks.length c])
  have HFA := Lib.hid ((Fr.refl w).alloc (.cells #[.int .i64 4, .string s, .int .i64 n, .slice A ks.length c] 38))
  obtain ⟨r0, r1, r2, r3, _, _, _, _⟩ := (HB.out).four
  clear ih hsm hr hF
  go_enter Tryd.func16, Tryd.ntmps16
  go_wp2_with fail
  go_loopw [65] (fun i wr => RelSo ks (w.alloc (.cells #[.int .i64 4, .string s, .int .i64 n, .slice A ks.length c] 38)) i wr) (fun i _ => ks.length - (intOf i).toNat)
  case atStart => exact ⟨0, Nat.zero_le _, rfl, Fr.refl _, by simp [soL]⟩
  case round =>
    obtain ⟨j, hj, rfl, hf, hs⟩ := hrel
    have HW := Lib.hid (HFA.out.call hf)
    have HSJ := Lib.hid hs
    have HBW := Lib.hid (HB.out.fr hf)
    obtain ⟨r0, r1, r2, r3, _, _, _, _⟩ := (HBW.out).four
    clear hs
    have H0 := Lib.hid hf
    clear hf
    by_cases hlt : j < ks.length
    · obtain ⟨b, o, rfl, hbF, ht⟩ := HR.out.elem j hlt
      have HST := Lib.hid (soL_take hlt)
      have HCUT := Lib.hid (fun (h : ¬ soT ks[j]) (hs : soL ks) => h (soL_at hlt hs))
      have HSm := Lib.hid (smL_at hlt HSM.out)
      have hct := cnt_get ks j hlt
      generalize ks[j] = x at *
      obtain ⟨kd, s2, n2, kk⟩ := x
      unfold RdT at ht
      obtain ⟨A2, c2, hc2, h0, h1, h2, h3, hkk⟩ := ht
      rw [Nat.mul_comm 4 j] at h0 h1 h2 h3
      have a0 := HW.out.get h0
      have a1 := HW.out.get h1
      have a2 := HW.out.get h2
      have a3 := HW.out.get h3
      have HC := Lib.hid (fun w' (k : Fr wr w') => HI.out kd n2 s2 kk A2 c2 F w' (by omega) (by omega) HSm.out (hkk.old (HW.out.call k) HF.out) (fun b h => Nat.lt_of_lt_of_le (HF.out b h) (HW.out.call k).size))
      clear hkk h0 h1 h2 h3
      go_wp2_with fail
      refine (HC.out _ ((Fr.refl wr).alloc _)).mono ?_
      rintro e w5 ⟨bb, rfl, hb, hf5⟩
      have HB5 := Lib.hid hb
      have HF5 := Lib.hid (((Fr.refl wr).alloc _).call hf5)
      clear hb hf5
      cases bb with
      | true =>
        have R := Lib.hid (show RelSo ks (w.alloc (.cells #[.int .i64 4, .string s, .int .i64 n, .slice (some ⟨b, o, none⟩) ks.length c] 38)) (.int .i64 ((j : Int) + 1)) w5 from ⟨j + 1, by omega, by go_num, H0.out.call HF5.out, HST.out.2 ⟨HSJ.out, HB5.out.1 rfl⟩⟩)
        go_wp2
        go_roundw
        case rel => exact R.out
        case measure => simp [intOf]; omega
      | false =>
        have R := Lib.hid (show Ans (soT (.node 4 s n ks)) w (.returned (.bool false)) w5 from ⟨false, rfl, by
          have h1 := HCUT.out
          have h2 := HX.out
          have h3 := HB5.out
          simp only [Bool.false_eq_true, false_iff] at h3 ⊢
          intro h
          exact h1 h3 (h2.1 h).2, HW.out.call HF5.out⟩)
        go_wp2
        go_ret
        exact R.out
    · obtain rfl : j = ks.length := by omega
      have hsl : soL ks := by have := HSJ.out; rwa [List.take_of_length_le (Nat.le_refl _)] at this
      have HE := Lib.hid (show soT (.node 4 s n ks) ↔ (s.size = 0 ∧ n = 0) from by rw [HX.out, HS.out]; exact ⟨fun h => h.1, fun h => ⟨h, hsl⟩⟩)
      clear hsl hlt
      by_cases hz : s.size = 0
      · have d3 : (s.toList == []) = true := by rw [e1]; exact decide_eq_true hz
        have d4 : s.toList.isEmpty = true := by rw [toList_nil hz]; rfl
        by_cases hn : n = 0
        · subst hn
          go_wp2
          go_ret
          exact ⟨_, rfl, by rw [HE.out]; simp [hz], HW.out⟩
        · have d1 : (n == 0) = false := by rw [beq_eq_false_iff_ne]; exact hn
          go_wp2
          go_ret
          exact ⟨_, rfl, by rw [HE.out]; simp [hn], HW.out⟩
      · have d3 : (s.toList == []) = false := by rw [e1]; exact decide_eq_false hz
        have d4 : s.toList.isEmpty = false := by
          have := toList_ne (s := s) (by omega)
          cases hl : s.toList with
          | nil => exact absurd hl this
          | cons a b => rfl
        go_wp2
        go_ret
        exact ⟨_, rfl, by rw [HE.out]; simp [hz], HW.out⟩
set_option maxHeartbeats 3200000 in
set_option maxRecDepth 100000 in
theorem so_leaf1 (n : Int) (s : ByteArray) (m : Nat) (A : Option Addr) (c : Nat) (w : World) (hs : s.size ≤ 1100000) (hm : m ≤ 1100000) :
    Calls Tryd.prog 16 #[tva 1 s n A m c] w fun e w' => Ans (soS 1 s n m) w e w' := by
  have HF := Lib.hid ((Fr.refl w).alloc (.cells #[.int .i64 1, .string s, .int .i64 n, .slice A m c] 38))
  have HW := Lib.hid (fun w => refword_any s w hs)
  have HS := Lib.hid (show soS 1 s n m ↔ (wordB s = true ∧ n = 0 ∧ m = 0) from by simp [soS])
  cases hb : wordB s <;> rw [hb] at HW HS
  all_goals
    by_cases hn : n = 0
    · subst hn
      by_cases h2 : m = 0
      · subst h2
        go_enter Tryd.func16, Tryd.ntmps16
        go_wp2_with (go_at_call 29; refine (HW.out _).mono ?_; rintro e w' ⟨rfl, rfl⟩)
        go_ret
        exact ⟨_, rfl, by rw [HS.out]; simp, HF.out⟩
      · have d2 : ((m : Int) == 0) = false := by rw [beq_eq_false_iff_ne]; omega
        go_enter Tryd.func16, Tryd.ntmps16
        go_wp2_with (go_at_call 29; refine (HW.out _).mono ?_; rintro e w' ⟨rfl, rfl⟩)
        go_ret
        exact ⟨_, rfl, by rw [HS.out]; simp [h2], HF.out⟩
    · have d1 : (n == 0) = false := by rw [beq_eq_false_iff_ne]; exact hn
      go_enter Tryd.func16, Tryd.ntmps16
      go_wp2_with (go_at_call 29; refine (HW.out _).mono ?_; rintro e w' ⟨rfl, rfl⟩)
      go_ret
      exact ⟨_, rfl, by rw [HS.out]; simp [hn], HF.out⟩
set_option maxHeartbeats 3200000 in
set_option maxRecDepth 100000 in
theorem so_leaf3 (n : Int) (s : ByteArray) (m : Nat) (A : Option Addr) (c : Nat) (w : World) (hs : s.size ≤ 1100000) (hm : m ≤ 1100000) :
    Calls Tryd.prog 16 #[tva 3 s n A m c] w fun e w' => Ans (soS 3 s n m) w e w' := by
  have HF := Lib.hid ((Fr.refl w).alloc (.cells #[.int .i64 3, .string s, .int .i64 n, .slice A m c] 38))
  have HW := Lib.hid (fun w => reftext_any s w hs)
  have HS := Lib.hid (show soS 3 s n m ↔ (textB s = true ∧ n = 0 ∧ m = 0) from by simp [soS])
  cases hb : textB s <;> rw [hb] at HW HS
  all_goals
    by_cases hn : n = 0
    · subst hn
      by_cases h2 : m = 0
      · subst h2
        go_enter Tryd.func16, Tryd.ntmps16
        go_wp2_with (go_at_call 30; refine (HW.out _).mono ?_; rintro e w' ⟨rfl, rfl⟩)
        go_ret
        exact ⟨_, rfl, by rw [HS.out]; simp, HF.out⟩
      · have d2 : ((m : Int) == 0) = false := by rw [beq_eq_false_iff_ne]; omega
        go_enter Tryd.func16, Tryd.ntmps16
        go_wp2_with (go_at_call 30; refine (HW.out _).mono ?_; rintro e w' ⟨rfl, rfl⟩)
        go_ret
        exact ⟨_, rfl, by rw [HS.out]; simp [h2], HF.out⟩
    · have d1 : (n == 0) = false := by rw [beq_eq_false_iff_ne]; exact hn
      go_enter Tryd.func16, Tryd.ntmps16
      go_wp2_with (go_at_call 30; refine (HW.out _).mono ?_; rintro e w' ⟨rfl, rfl⟩)
      go_ret
      exact ⟨_, rfl, by rw [HS.out]; simp [hn], HF.out⟩
set_option maxHeartbeats 3200000 in
set_option maxRecDepth 100000 in
theorem so_leaf2 (n : Int) (s : ByteArray) (m : Nat) (A : Option Addr) (c : Nat) (w : World) (hm : m ≤ 1100000) :
    Calls Tryd.prog 16 #[tva 2 s n A m c] w fun e w' => Ans (soS 2 s n m) w e w' := by
  have HF := Lib.hid ((Fr.refl w).alloc (.cells #[.int .i64 2, .string s, .int .i64 n, .slice A m c] 38))
  have HS := Lib.hid (show soS 2 s n m ↔ (s.size = 0 ∧ m = 0 ∧ -1000000000000000000 < n ∧ n < 1000000000000000000) from by simp [soS, okN]; omega)
  have e1 := str_zero (s := s)
  by_cases hz : s.size = 0
  · have d3 : (s.toList == []) = true := by rw [e1]; exact decide_eq_true hz
    have d4 : s.toList.isEmpty = true := by rw [toList_nil hz]; rfl
    by_cases h2 : m = 0
    · subst h2
      by_cases hl : -1000000000000000000 < n
      · have d5 : decide (-1000000000000000000 < n) = true := decide_eq_true hl
        by_cases hg : n < 1000000000000000000
        · have d6 : decide (n < 1000000000000000000) = true := decide_eq_true hg
          go_enter Tryd.func16, Tryd.ntmps16
          go_wp2
          go_ret
          exact ⟨_, rfl, by rw [HS.out]; simp [hz, hl, hg], HF.out⟩
        · have d6 : decide (n < 1000000000000000000) = false := decide_eq_false hg
          go_enter Tryd.func16, Tryd.ntmps16
          go_wp2
          go_ret
          exact ⟨_, rfl, by rw [HS.out]; simp [hz, hl, hg], HF.out⟩
      · have d5 : decide (-1000000000000000000 < n) = false := decide_eq_false hl
        go_enter Tryd.func16, Tryd.ntmps16
        go_wp2
        go_ret
        exact ⟨_, rfl, by rw [HS.out]; simp [hz, hl]; omega, HF.out⟩
    · have d2 : ((m : Int) == 0) = false := by rw [beq_eq_false_iff_ne]; omega
      go_enter Tryd.func16, Tryd.ntmps16
      go_wp2
      go_ret
      exact ⟨_, rfl, by rw [HS.out]; simp [h2], HF.out⟩
  · have d3 : (s.toList == []) = false := by rw [e1]; exact decide_eq_false hz
    have d4 : s.toList.isEmpty = false := by
      have := toList_ne (s := s) (by omega)
      cases hl : s.toList with
      | nil => exact absurd hl this
      | cons a b => rfl
    go_enter Tryd.func16, Tryd.ntmps16
    go_wp2
    go_ret
    exact ⟨_, rfl, by rw [HS.out]; simp [hz], HF.out⟩
set_option maxHeartbeats 3200000 in
set_option maxRecDepth 100000 in
theorem so_none (k n : Int) (s : ByteArray) (m : Nat) (A : Option Addr) (c : Nat) (w : World) (h1 : k ≠ 1) (h2 : k ≠ 2) (h3 : k ≠ 3) (h4 : k ≠ 4) :
    Calls Tryd.prog 16 #[tva k s n A m c] w fun e w' => Ans (soS k s n m) w e w' := by
  have HF := Lib.hid ((Fr.refl w).alloc (.cells #[.int .i64 k, .string s, .int .i64 n, .slice A m c] 38))
  have HS := Lib.hid (show soS k s n m ↔ False from by simp [soS, h1, h2, h3, h4])
  have d1 : (k == 1) = false := by rw [beq_eq_false_iff_ne]; exact h1
  have d2 : (k == 2) = false := by rw [beq_eq_false_iff_ne]; exact h2
  have d3 : (k == 3) = false := by rw [beq_eq_false_iff_ne]; exact h3
  have d4 : (k == 4) = false := by rw [beq_eq_false_iff_ne]; exact h4
  go_enter Tryd.func16, Tryd.ntmps16
  go_wp2
  go_ret
  exact ⟨_, rfl, by rw [HS.out]; simp, HF.out⟩
theorem soS_leaf {k n : Int} {s : ByteArray} {ks : List T} (h : k ≠ 4) : soS k s n ks.length ↔ soT (.node k s n ks) := by
  rw [soT_iff]
  refine ⟨fun hs => ⟨hs, ?_⟩, fun hs => hs.1⟩
  have h0 : ks.length = 0 := by
    unfold soS at hs
    rcases hs with ⟨_, _, _, h⟩ | ⟨_, _, _, h⟩ | ⟨_, _, _, h⟩ | ⟨h4, _⟩
    · exact h
    · exact h
    · exact h
    · exact absurd h4 h
  rw [len_nil.1 h0]
  unfold soL; trivial
theorem so_all : ∀ N, SoC N
  | 0 => fun k n s ks A c F w hN => absurd hN (by simp [cntT])
  | N + 1 => fun k n s ks A c F w hN hN2 hsm hr hF => by
    unfold smT at hsm
    simp only [cntT] at hN hN2
    have hln := len_le_cnt ks
    by_cases h1 : k = 1
    · subst h1
      exact (so_leaf1 n s ks.length A c w hsm.1 (by omega)).mono fun e w' h => h.iff (soS_leaf (by decide))
    · by_cases h2 : k = 2
      · subst h2
        exact (so_leaf2 n s ks.length A c w (by omega)).mono fun e w' h => h.iff (soS_leaf (by decide))
      · by_cases h3 : k = 3
        · subst h3
          exact (so_leaf3 n s ks.length A c w hsm.1 (by omega)).mono fun e w' h => h.iff (soS_leaf (by decide))
        · by_cases h4 : k = 4
          · subst h4
            exact so_list N (so_all N) n s ks A c F w (by omega) (by omega) hsm.1 hsm.2 hr hF
          · exact (so_none k n s ks.length A c w h1 h2 h3 h4).mono fun e w' h => h.iff (soS_leaf h4)
/-- The document's Sound answers whether a tree is sound. -/
theorem refsound_any (k n : Int) (s : ByteArray) (ks : List T) (A : Option Addr) (c : Nat) (F : Nat → Prop) (w : World) (hN : cntT (.node k s n ks) ≤ 1100000) (hsm : smT 1100000 (.node k s n ks)) (hr : RdL w F A ks) (hF : ∀ b, F b → b < w.heap.size) :
    Calls Tryd.prog 16 #[tva k s n A ks.length c] w fun e w' => Ans (soT (.node k s n ks)) w e w' := so_all _ k n s ks A c F w (Nat.le_refl _) hN hsm hr hF
end Go.Proofs.YtonlmennpbklgaaDoor
