/- Files and registers, of the program and of the reference. -/
import Derived.Test.YtcndmiolaheaeabGreatDoorVb
namespace Go.Proofs.YtcndmiolaheaeabGreatDoor
open Go.RowKit
set_option linter.unusedSimpArgs false
set_option linter.unusedVariables false

theorem plB_ex {x : Int} {n : Nat} (h : plB x n = true) : ∃ j : Nat, x = j ∧ j < n := by
  simp only [plB, Bool.and_eq_true, decide_eq_true_eq] at h
  exact ⟨x.toNat, by omega, by omega⟩
theorem if_isSome {α : Type} {c : Bool} {x : α} : (if c then some x else none : Option α).isSome = c := by cases c <;> rfl
theorem plB_nat (j n : Nat) : plB (j : Int) n = decide (j < n) := by simp [plB]
theorem fileO_no {E : Env} {x : Int} (h : plB x E.files.length = false) : fileO E x = none := by
  unfold fileO
  by_cases h0 : 0 ≤ x
  · rw [if_pos h0, List.getElem?_eq_none (by simp [plB, h0] at h; omega)]
  · rw [if_neg h0]
theorem fileO_at {E : Env} {j : Nat} (h : j < E.files.length) : fileO E (j : Int) = if fileB E.files[j] then some E.files[j] else none := by
  unfold fileO
  rw [if_pos (by omega)]
  simp [h]
set_option maxHeartbeats 3200000 in
theorem fileRight_any {E : Env} {w : World} {Fa Ca Aa Ga Ma : Option Addr} (hE : EnvAt E w Fa Ca Aa) (a : Int) (n0 n1 n3 n7 n8 n9 n10 n11 n12 : Value) (fc gc cc ml mc : Nat) :
    Calls Tryz.prog 48 #[.agg #[n0, n1, .slice Fa E.files.length fc, n3, .slice Ga E.nflags gc, .slice Ca E.classes.length cc, .slice Ma ml mc, n7, n8, n9, n10, n11, n12], .int .i64 a] w
      fun e w' => e = .returned (.bool (fileO E a).isSome) ∧ Fr w w' := by
  cases hb : plB a E.files.length with
  | false =>
    have HB := Lib.hid hb
    rw [fileO_no hb]
    clear hb hE
    go_enter Tryz.func48, Tryz.ntmps48
    go_wp2_with (go_at_call 82; refine (filePlace_any _ _ _ _ _).mono ?_; rintro e w1 ⟨rfl, rfl⟩; rw [HB.out])
    go_ret
    exact ⟨rfl, (Fr.refl w).alloc _⟩
  | true =>
    have HB := Lib.hid hb
    obtain ⟨j, rfl, hj⟩ := plB_ex hb
    rw [fileO_at hj, if_isSome]
    obtain ⟨b, o, rfl, n, h0, h1, h2, h3⟩ := hE.files.at hj
    rw [Nat.mul_comm 4 j] at h0 h1 h2 h3
    generalize E.files[j] = f at *
    obtain ⟨f1, f2, f3⟩ := f
    have hbl := lt_of_cell h0
    clear hb hE
    go_enter Tryz.func48, Tryz.ntmps48
    go_wp2_with (go_at_call 82; refine (filePlace_any _ _ _ _ _).mono ?_; rintro e w1 ⟨rfl, rfl⟩; rw [HB.out])
    all_goals (go_ret; exact ⟨bool_iff (by simp [fileB]; try omega), Fr.alloc (Fr.alloc (Fr.refl w) _) _⟩)
end Go.Proofs.YtcndmiolaheaeabGreatDoor
