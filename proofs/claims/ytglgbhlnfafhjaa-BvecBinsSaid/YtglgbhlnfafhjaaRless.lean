/- The document's less. -/
import Derived.Test.YtglgbhlnfafhjaaRof
import Derived.Deep.QuietTactic
import Derived.BigQuiet
namespace Go.Proofs.Ytglgbhlnfafhjaa
open Go.RowKit

theorem mod_bit (x : Int) {n i : Nat} (h : i < n) : x % 2 ^ n / 2 ^ i = 2 * (x % 2 ^ n / 2 ^ (i + 1)) + b2i (bitI x i) := by
  rw [← bitI_mod x h]; exact div_succ _ _
theorem b2i_ne {p q : Bool} (h : p ≠ q) : (b2i p < b2i q ↔ q = true) := by
  cases p <;> cases q <;> simp [b2i] at * 
theorem less_of (x y : Int) (_n i : Nat) (hx : x / 2 ^ i < y / 2 ^ i) : x < y := by
  rcases Int.lt_or_le x y with h | h
  · exact h
  · have := Int.ediv_le_ediv (two_pos i) h; omega
/-- Everything from place j on is equal. -/
def RelLs (x y : Int) (n : Nat) (i : Value) (w wr : World) : Prop := ∃ j : Nat, j ≤ n ∧ i = .int .i64 ((j : Int) - 1) ∧ x % 2 ^ n / 2 ^ j = y % 2 ^ n / 2 ^ j ∧ Fr w wr
set_option maxHeartbeats 3200000 in
set_option maxRecDepth 10000 in
theorem rless_any (A B : Option Addr) (n c d : Nat) (x y : Int) (hn : n ≤ 1000) (w : World) (ha : Rd bolv w A (bitsI n x)) (hb : Rd bolv w B (bitsI n y)) :
    Calls Try.prog 30 #[.slice A n c, .slice B n d] w fun e w' => e = .returned (.bool (decide (x % 2 ^ n < y % 2 ^ n))) ∧ Fr w w' := by
  have HA := Lib.hid ha
  have HB := Lib.hid hb
  clear ha hb
  have hx1 := Int.emod_nonneg x (two_ne n)
  have hx2 := Int.emod_lt_of_pos x (two_pos n)
  have hy1 := Int.emod_nonneg y (two_ne n)
  have hy2 := Int.emod_lt_of_pos y (two_pos n)
  have hs : x % 2 ^ n / 2 ^ n = y % 2 ^ n / 2 ^ n := by rw [Int.ediv_eq_zero_of_lt hx1 hx2, Int.ediv_eq_zero_of_lt hy1 hy2]
  have HS := Lib.hid hs
  clear hs hx1 hx2 hy1 hy2
  go_enter Try.func30, Try.ntmps30
  go_wp2
  go_loopw [5] (fun i wr => RelLs x y n i w wr) (fun i _ => (intOf i + 1).toNat)
  case atStart => exact ⟨n, Nat.le_refl _, rfl, HS.out, Fr.refl w⟩
  case round =>
    obtain ⟨j, hj, rfl, hq, hfr⟩ := hrel
    have HQ := Lib.hid hq
    have HF := Lib.hid hfr
    clear hq hfr
    by_cases hlt : 0 < j
    · obtain ⟨i, rfl⟩ : ∃ i, j = i + 1 := ⟨j - 1, by omega⟩
      have ei : ((i + 1 : Nat) : Int) - 1 = (i : Int) := by omega
      rw [ei]
      clear ei
      obtain ⟨g, o, rfl, _, hc⟩ := (HA.out.fr HF.out) (by rw [bitsI_length]; omega)
      obtain ⟨g', o', rfl, _, hc'⟩ := (HB.out.fr HF.out) (by rw [bitsI_length]; omega)
      have h1 := hc i (by rw [bitsI_length]; omega)
      have h2 := hc' i (by rw [bitsI_length]; omega)
      rw [bitsI_get] at h1 h2
      have EX := Lib.hid (mod_bit x (show i < n by omega))
      have EY := Lib.hid (mod_bit y (show i < n by omega))
      generalize bitI x i = p at *
      generalize bitI y i = q at *
      clear hc hc'
      have HL := Lib.hid (less_of (x % 2 ^ n) (y % 2 ^ n) n i)
      have HL' := Lib.hid (less_of (y % 2 ^ n) (x % 2 ^ n) n i)
      by_cases hpq : p = q
      · subst hpq
        go_wp2
        go_quiet (fail)
        go_wp2
        go_roundw
        case rel => exact ⟨i, by omega, rfl, by rw [EX.out, EY.out, HQ.out], HF.out.drewN _⟩
        case measure => simp [intOf]
      · obtain rfl : q = !p := by cases p <;> cases q <;> simp at *
        clear hpq
        have HR := Lib.hid (show decide (x % 2 ^ n < y % 2 ^ n) = !p from by
          have h1 := EX.out
          have h2 := EY.out
          have h3 := HQ.out
          have h4 := HL.out
          have h5 := HL'.out
          cases p
          · simp [b2i] at h1 h2 ⊢; exact h4 (by omega)
          · simp [b2i] at h1 h2 ⊢; exact Int.le_of_lt (h5 (by omega)))
        go_wp2
        go_quiet (fail)
        go_wp2
        go_ret
        exact ⟨ret_bool HR.out.symm, HF.out.drewN _⟩
    · obtain rfl : j = 0 := by omega
      have HR := Lib.hid (show decide (x % 2 ^ n < y % 2 ^ n) = false from by
        have h3 := HQ.out
        simp at h3 ⊢
        omega)
      go_wp2
      go_ret
      exact ⟨ret_bool HR.out.symm, HF.out⟩
end Go.Proofs.Ytglgbhlnfafhjaa
