/- The reader's run. -/
import Derived.Test.YtcndmiolaheaeaaGreatDoorKSe
import Derived.Test.YtcndmiolaheaeaaGreatDoorKSu
import Derived.Laws.Closers25
import Derived.Deep.RegionWith
import Derived.Lib.AtoiErrMem
namespace Go.Proofs.YtcndmiolaheaeaaGreatDoor
open Go.RowKit
set_option linter.unusedSimpArgs false
set_option linter.unusedVariables false

theorem digL_from (l : List UInt8) : ∀ a : Nat, digL (a : Int) l = (Lib.decFrom a l).map fun (m : Nat) => (m : Int) := by
  induction l with
  | nil => intro a; rfl
  | cons c r ih =>
    intro a
    rw [digL_cons]
    unfold Lib.decFrom Lib.digitVal
    by_cases h : 48 ≤ c.toNat ∧ c.toNat ≤ 57
    · rw [if_pos h, if_pos h]
      simp only
      rw [← ih (a * 10 + (c.toNat - 48))]
      congr 1; omega
    · rw [if_neg h, if_neg h]; rfl
theorem decNat_dec (u : Nat) : Lib.decNat (Lib.decDigits u) = some u := by
  unfold Lib.decNat
  have hne := dec_ne u
  have h := digL_from (Lib.decDigits u) 0
  rw [show ((0 : Nat) : Int) = 0 from rfl, digL_dec u] at h
  rw [if_neg (by simpa using hne)]
  cases e : Lib.decFrom 0 (Lib.decDigits u) with
  | none => rw [e] at h; cases h
  | some m => rw [e] at h; simp at h; congr 1; omega
theorem atoi_itoa {n : Int} (h : okN n) : Lib.atoiAll (Lib.itoa n) = .ok n := by
  obtain ⟨h1, h2⟩ := h
  unfold Lib.itoa
  by_cases hn : n < 0
  · rw [if_pos hn, Lib.atoiAll_minus, Lib.signed_short (dec_len (by omega)), decNat_dec]
    simp [Lib.NumEnd.ofOption]; omega
  · rw [if_neg hn]
    obtain ⟨c, r, e, d1, d2⟩ := first_digit n.toNat
    have hl : (Lib.decDigits n.toNat).length ≤ 18 := dec_len (by omega)
    have hd := decNat_dec n.toNat
    rw [e] at hl hd ⊢
    rw [Lib.atoiAll_plain c r (by omega) (by omega), Lib.signless_short hl, hd]
    simp [Lib.NumEnd.ofOption]; omega
/-- Which runs are numbers: what Atoi reads, within the bounds, and is written so. -/
theorem numL_none_of {w : List UInt8} (h : ∀ v, Lib.atoiAll w = .ok v → okN v → Lib.itoa v ≠ w) : numL w = none := by
  cases e : numL w with
  | none => rfl
  | some n =>
    obtain ⟨h1, h2⟩ := numL_some e
    exact absurd h1.symm (h n (by rw [h1]; exact atoi_itoa h2) h2)
theorem ruN_split {c : UInt8} {r : List UInt8} (h : inB c = true) : ruN (c :: r) = ruN r + 1 := by rw [show ruN (c :: r) = if inB c then ruN r + 1 else 0 from rfl, if_pos h]
theorem ruN_none {c : UInt8} {r : List UInt8} (h : inB c = false) : ruN (c :: r) = 0 := by rw [show ruN (c :: r) = if inB c then ruN r + 1 else 0 from rfl, h]; rfl
theorem empty_no {s : ByteArray} (h : 0 < s.size) : s.toList.isEmpty = false := by
  rw [← decide_eq_emptyBytes]; exact decide_eq_false fun k => by subst k; simp at h
theorem empty_yes {s : ByteArray} (h : s.size = 0) : s.toList.isEmpty = true := by
  rw [← decide_eq_emptyBytes]; exact decide_eq_true (by apply ByteArray.ext; apply Array.eq_empty_of_size_eq_zero; exact h)
theorem sub_list (s : ByteArray) (j n : Nat) : (s.extract j (j + n)).data.toList = (s.data.toList.drop j).take n := by simp
theorem sub_head (s : ByteArray) (j n : Nat) (hn : 0 < n) (hj : j + n ≤ s.size) : 0 < (s.extract j (j + n)).size ∧ ∀ h : 0 < (s.extract j (j + n)).size, (s.extract j (j + n))[0] = s[j] := by
  refine ⟨by simp; omega, fun h => ?_⟩
  simp [ByteArray.getElem_extract]
end Go.Proofs.YtcndmiolaheaeaaGreatDoor
