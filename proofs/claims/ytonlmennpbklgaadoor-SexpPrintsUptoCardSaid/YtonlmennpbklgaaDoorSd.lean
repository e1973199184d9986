/- The reader's skip. -/
import Derived.Test.YtonlmennpbklgaaDoorSk
import Derived.Deep.QuietTactic
import Derived.BigQuiet
import Derived.Deep.LoopGhost
import Derived.Outline
namespace Go.Proofs.YtonlmennpbklgaaDoor
open Go.RowKit
set_option linter.unusedSimpArgs false
set_option linter.unusedVariables false

/-- A remark up to its line's end. -/
theorem skN_line (l : List UInt8) : (Lib.indexByte l 10 = -1 → skN true l = l.length) ∧ (∀ n : Nat, Lib.indexByte l 10 = n → n ≤ l.length ∧ skN true l = n + skN false (l.drop n)) := by
  induction l with
  | nil => exact ⟨fun _ => rfl, fun n h => by simp [Lib.indexByte] at h⟩
  | cons c r ih =>
    obtain ⟨ih1, ih2⟩ := ih
    by_cases hc : c = 10
    · subst hc
      refine ⟨fun h => by simp [Lib.indexByte] at h, fun n h => ?_⟩
      simp [Lib.indexByte] at h
      obtain rfl : n = 0 := by omega
      refine ⟨by simp, ?_⟩
      simp [skN]
    · have h1 : (c == 10) = false := by simp [hc]
      have h2 : ¬ c.toNat = 10 := fun h => hc (UInt8.toNat_inj.1 h)
      have e : skN true (c :: r) = skN true r + 1 := by rw [skN, if_neg h2]
      have hge := Lib.indexByte_ge r 10
      constructor
      · intro h
        unfold Lib.indexByte at h
        rw [h1, if_neg (by simp)] at h
        have : Lib.indexByte r 10 = -1 := by
          by_cases k : Lib.indexByte r 10 = -1
          · exact k
          · rw [if_neg (by simpa using k)] at h; omega
        rw [e, ih1 this]; simp
      · intro n h
        unfold Lib.indexByte at h
        rw [h1, if_neg (by simp)] at h
        by_cases k : Lib.indexByte r 10 = -1
        · rw [if_pos (by simpa using k)] at h; omega
        · rw [if_neg (by simpa using k)] at h
          obtain ⟨m, hm⟩ : ∃ m : Nat, Lib.indexByte r 10 = m := ⟨(Lib.indexByte r 10).toNat, by omega⟩
          obtain ⟨i1, i2⟩ := ih2 m hm
          obtain rfl : n = m + 1 := by omega
          refine ⟨by simp; omega, ?_⟩
          rw [e, i2, List.drop_succ_cons]; omega
/-- Where a ; stands: so many bytes up to its line's end. -/
theorem skN_remark {c : UInt8} {r : List UInt8} (hc : c.toNat = 59) : (Lib.indexByte (c :: r) 10 = -1 → skN false (c :: r) = (c :: r).length) ∧ (∀ n : Nat, Lib.indexByte (c :: r) 10 = n → 0 < n ∧ n ≤ (c :: r).length ∧ skN false (c :: r) = n + skN false ((c :: r).drop n)) := by
  have e1 : skN false (c :: r) = skN true r + 1 := by rw [skN, if_neg (by omega), if_pos hc]
  have e2 : skN true (c :: r) = skN true r + 1 := by rw [skN, if_neg (by omega)]
  have e : skN false (c :: r) = skN true (c :: r) := by rw [e1, e2]
  rw [e]
  refine ⟨(skN_line (c :: r)).1, fun n h => ?_⟩
  obtain ⟨h1, h2⟩ := (skN_line (c :: r)).2 n h
  refine ⟨?_, h1, h2⟩
  cases n with
  | succ n => omega
  | zero =>
    exfalso
    unfold Lib.indexByte at h
    rw [if_neg (by intro k; have := eq_of_beq k; subst this; simp at hc)] at h
    split at h
    · omega
    · have := Lib.indexByte_ge r 10
      next k => simp at k; omega
theorem tail_of (s : ByteArray) (j : Nat) : (s.extract j s.size).data.toList = s.data.toList.drop j := by
  simp [List.take_of_length_le]
def SkRel (s : ByteArray) (p i k : Nat) (w : World) (g : Nat) (wr : World) : Prop :=
  ∃ j : Nat, g = s.size - j ∧ i ≤ j ∧ j ≤ s.size ∧ Pa wr p s j k ∧ i + skN false (s.data.toList.drop i) = j + skN false (s.data.toList.drop j) ∧ Wr p w wr
set_option maxHeartbeats 6400000 in
set_option maxRecDepth 100000 in
theorem skip_any (p i k : Nat) (s : ByteArray) (w : World) (hp : Pa w p s i k) (hi : i ≤ s.size) (hs : s.size ≤ maxLen) :
    Calls Tryd.prog 27 #[.pointer (some ⟨p, 0, none⟩)] w fun e w' => e = .returned (.tuple #[]) ∧ Pa w' p s (i + skN false (s.data.toList.drop i)) k ∧ Wr p w w' := by
  unfold maxLen at hs
  have HX := Lib.hid (fun (s : ByteArray) (w : World) => Tryd.strings_IndexByte s 10 w)
  have HP := Lib.hid hp
  clear hp
  go_enter Tryd.func27, Tryd.ntmps27
  go_wp2
  go_loopg [] (s.size - i) (fun g wr => SkRel s p i k w g wr)
  case atStart => exact ⟨i, rfl, Nat.le_refl _, hi, HP.out, rfl, Wr.refl p w⟩
  case round =>
    obtain ⟨j, hg, hij, hjs, hpa, hq, hw⟩ := hrel
    have HG := Lib.hid hg
    have HPA := Lib.hid hpa
    have HQ := Lib.hid hq
    have HW := Lib.hid hw
    obtain ⟨c0, c1, c2, f1, f2⟩ := hpa.three
    clear hg hpa hq hw
    by_cases hlt : j < s.size
    · have hD := drop_at s j hlt
      obtain ⟨N, hN⟩ : ∃ N, Lib.indexByte (s.extract j s.size).data.toList (10 : Int).toNat.toUInt8 = N := ⟨_, rfl⟩
      have hX := fun w => HX.out (s.extract j s.size) w
      rw [hN] at hX
      have HXj := Lib.hid hX
      have hge : -1 ≤ N := hN ▸ Lib.indexByte_ge _ _
      have HR := Lib.hid (show s[j].toNat = 59 → (N = -1 → skN false (s.data.toList.drop j) = s.size - j) ∧ (∀ n : Nat, N = n → 0 < n ∧ n ≤ s.size - j ∧ skN false (s.data.toList.drop j) = n + skN false (s.data.toList.drop (j + n))) from by
        intro h59
        rw [tail_of, hD] at hN
        have hl : (s[j] :: s.data.toList.drop (j + 1)).length = s.size - j := by rw [← hD]; simp
        obtain ⟨r1, r2⟩ := skN_remark (r := s.data.toList.drop (j + 1)) h59
        rw [hl] at r1 r2
        rw [← hD] at r1 r2 hN
        refine ⟨fun h => r1 (hN.trans h), fun n h => ?_⟩
        obtain ⟨q1, q2, q3⟩ := r2 n (hN.trans h)
        rw [List.drop_drop] at q3
        exact ⟨q1, q2, q3⟩)
      have HBL := Lib.hid (show s[j].toNat = 32 ∨ s[j].toNat = 10 → skN false (s.data.toList.drop j) = skN false (s.data.toList.drop (j + 1)) + 1 from fun h => by rw [hD, skN, if_pos h])
      have HNB := Lib.hid (show ¬ (s[j].toNat = 32 ∨ s[j].toNat = 10) → ¬ s[j].toNat = 59 → skN false (s.data.toList.drop j) = 0 from fun h h2 => by rw [hD, skN, if_neg h, if_neg h2])
      clear hN hX hD HX
      have hj2 : (j : Int) ≤ (s.size : Int) := by omega
      go_wp2
      go_quiet (fail)
      go_wp2
      go_quiet (fail)
      go_wp2
      · have h1 : ((s[j].toNat : Int) == 32) = true := by assumption
        go_roundg (s.size - (j + 1))
        case measure => have := HG.out; omega
        case rel => exact ⟨j + 1, rfl, by omega, by omega, (HPA.out.fr (by repeat (first | exact Fr.refl _ | apply Fr.drewN))).seti (j + 1), by have := HBL.out (by simp at h1; omega); have := HQ.out; omega, (HW.out.fr (by repeat (first | exact Fr.refl _ | apply Fr.drewN))).setp 1 _⟩
      · have h1 : ((s[j].toNat : Int) == 10) = true := by assumption
        go_roundg (s.size - (j + 1))
        case measure => have := HG.out; omega
        case rel => exact ⟨j + 1, rfl, by omega, by omega, (HPA.out.fr (by repeat (first | exact Fr.refl _ | apply Fr.drewN))).seti (j + 1), by have := HBL.out (by simp at h1; omega); have := HQ.out; omega, (HW.out.fr (by repeat (first | exact Fr.refl _ | apply Fr.drewN))).setp 1 _⟩
      · have h1 : ((s[j].toNat : Int) == 59) = true := by assumption
        obtain ⟨hR1, hR2⟩ := HR.out (by simp at h1; omega)
        by_cases hN1 : N < 0
        · have hN2 : N = -1 := by omega
          subst hN2
          have HR1 := Lib.hid (hR1 rfl)
          clear hR1 hR2 HBL HNB HR
          go_quiet ((go_at_call 37; exact (HXj.out _).mono fun _ _ h => ⟨h.1, _, h.2⟩))
          go_wp2
          go_quiet (fail)
          go_wp2
          go_roundg 0
          case measure => have := HG.out; omega
          case rel =>
            have es : (j : Int) + ((s.size : Int) - (j : Int)) = ((s.size : Nat) : Int) := by omega
            rw [es]
            exact ⟨s.size, by omega, by omega, Nat.le_refl _, (HPA.out.fr (by repeat (first | exact Fr.refl _ | apply Fr.drewN))).seti s.size, by have := HR1.out; have := HQ.out; rw [drop_all, show skN false [] = 0 from rfl]; omega, (HW.out.fr (by repeat (first | exact Fr.refl _ | apply Fr.drewN))).setp 1 _⟩
        · obtain ⟨n, rfl⟩ := Int.eq_ofNat_of_zero_le (show 0 ≤ N by omega)
          obtain ⟨g1, g2, g3⟩ := hR2 n rfl
          have HG3 := Lib.hid g3
          clear hR1 hR2 HBL HNB HR g3
          go_quiet ((go_at_call 37; exact (HXj.out _).mono fun _ _ h => ⟨h.1, _, h.2⟩))
          go_wp2
          go_roundg (s.size - (j + n))
          case measure => have := HG.out; omega
          case rel => exact ⟨j + n, rfl, by omega, by omega, (HPA.out.fr (by repeat (first | exact Fr.refl _ | apply Fr.drewN))).seti (j + n), by have := HG3.out; have := HQ.out; omega, (HW.out.fr (by repeat (first | exact Fr.refl _ | apply Fr.drewN))).setp 1 _⟩
      · have h1 : ((s[j].toNat : Int) == 32) = false := by assumption
        have h2 : ((s[j].toNat : Int) == 10) = false := by assumption
        have h3 : ((s[j].toNat : Int) == 59) = false := by assumption
        have HE := Lib.hid (HNB.out (by simp at h1 h2; omega) (by simp at h3; omega))
        have hq := HQ.out
        rw [HE.out, Nat.add_zero] at hq
        refine bodyPost_ret (results_none rfl _ _ _) rfl ⟨rfl, ?_, HW.out.fr (by repeat (first | exact Fr.refl _ | apply Fr.drewN))⟩
        rw [hq]
        exact HPA.out.fr (by repeat (first | exact Fr.refl _ | apply Fr.drewN))
    · obtain rfl : j = s.size := by omega
      go_wp2
      go_quiet (fail)
      go_wp2
      have hq := HQ.out
      rw [drop_all, show skN false [] = 0 from rfl, Nat.add_zero] at hq
      refine bodyPost_end (results_none rfl _ _ _) rfl ⟨rfl, ?_, HW.out.fr (by repeat (first | exact Fr.refl _ | apply Fr.drewN))⟩
      rw [hq]
      exact HPA.out.fr (by repeat (first | exact Fr.refl _ | apply Fr.drewN))
end Go.Proofs.YtonlmennpbklgaaDoor
