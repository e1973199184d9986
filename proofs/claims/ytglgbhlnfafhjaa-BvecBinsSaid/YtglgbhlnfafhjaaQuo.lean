/- quoRem with a divisor of one word: quotient and rest; and the plain arithmetic of a round of its loop for a divisor of two words. -/
import Derived.Test.YtglgbhlnfafhjaaDiva
import Derived.Test.YtglgbhlnfafhjaaGq
namespace Go.Proofs.Ytglgbhlnfafhjaa
open Go.RowKit

theorem quo_words (H L B : Int) (hH : Word H) (hL : Word L) (hB : 0 < B) (hB2 : B < 18446744073709551616) :
    hi ((H * 18446744073709551616 + L) / B) = H / B ∧ lo ((H * 18446744073709551616 + L) / B) = (H % B * 18446744073709551616 + L) / B ∧
      hi ((H * 18446744073709551616 + L) % B) = 0 ∧ lo ((H * 18446744073709551616 + L) % B) = (H % B * 18446744073709551616 + L) % B := by
  obtain ⟨a0, a1⟩ := hH; obtain ⟨b0, b1⟩ := hL
  have hd := Int.mul_ediv_add_emod H B
  have r0 := Int.emod_nonneg H (by omega : B ≠ 0)
  have r1 := Int.emod_lt_of_pos H hB
  have q0 : 0 ≤ H / B := Int.ediv_nonneg a0 (Int.le_of_lt hB)
  have q1 : H / B ≤ H := Int.ediv_le_self _ a0
  have e : H * 18446744073709551616 + L = (H % B * 18446744073709551616 + L) + H / B * 18446744073709551616 * B := by
    have : H / B * 18446744073709551616 * B = B * (H / B) * 18446744073709551616 := by rw [Int.mul_comm B, Int.mul_assoc, Int.mul_assoc, Int.mul_comm B]
    rw [this]; omega
  have eq : (H * 18446744073709551616 + L) / B = (H % B * 18446744073709551616 + L) / B + H / B * 18446744073709551616 := by
    rw [e, Int.add_mul_ediv_right _ _ (by omega)]
  have em : (H * 18446744073709551616 + L) % B = (H % B * 18446744073709551616 + L) % B := by
    rw [e, Int.add_mul_emod_self_right]
  have x0 : 0 ≤ (H % B * 18446744073709551616 + L) / B := Int.ediv_nonneg (by omega) (Int.le_of_lt hB)
  have x1 : (H % B * 18446744073709551616 + L) / B < 18446744073709551616 := Int.ediv_lt_of_lt_mul hB (by
    have : (H % B + 1) * 18446744073709551616 ≤ B * 18446744073709551616 := Int.mul_le_mul_of_nonneg_right (by omega) (by decide)
    rw [Int.mul_comm 18446744073709551616]; omega)
  have y0 := Int.emod_nonneg (H % B * 18446744073709551616 + L) (by omega : B ≠ 0)
  have y1 := Int.emod_lt_of_pos (H % B * 18446744073709551616 + L) hB
  rw [eq, em]
  generalize (H % B * 18446744073709551616 + L) / B = x at *
  generalize (H % B * 18446744073709551616 + L) % B = y at *
  unfold hi lo
  refine ⟨?_, ?_, ?_, ?_⟩ <;> omega
theorem quoRem_narrow (a b : Int) (hb : hi b = 0) (hl : lo b ≠ 0) (w : World) :
    Calls Try.prog 45 #[wv a, wv b] w fun e w' => e = .returned (.tuple #[wv ((a % 340282366920938463463374607431768211456) / (b % 340282366920938463463374607431768211456)), wv ((a % 340282366920938463463374607431768211456) % (b % 340282366920938463463374607431768211456))]) ∧ Fr w w' := by
  have hlw := lo_word b
  have hB : 0 < lo b := by have := hlw.1; omega
  have hd := fun w => div64_any (hi a % lo b) (lo a) (lo b) (Int.emod_nonneg _ hl) (Int.emod_lt_of_pos _ hB) (lo_word a) hlw.2 w
  have h := quoRem_one a b _ _ hb hl hd w
  obtain ⟨g1, g2, g3, g4⟩ := quo_words (hi a) (lo a) (lo b) (hi_word a) (lo_word a) hB hlw.2
  rw [← g1, ← g2, ← g3, ← g4] at h
  have e : b % 340282366920938463463374607431768211456 = lo b := by rw [← hilo_mod b, hb]; omega
  rw [e, ← hilo_mod a]
  exact h

/-- A round of the long division: q is made of whole multiples of 2^(n+1), r is left, less than B * 2^(n+1). -/
structure Long (A B : Int) (n : Nat) (q r : Int) : Prop where
  sum : q * B + r = A
  r0 : 0 ≤ r
  r1 : r < B * 2 ^ n
  q0 : 0 ≤ q
  mul : q % 2 ^ n = 0
theorem Long.stay {A B : Int} {n : Nat} {q r : Int} (h : Long A B (n + 1) q r) (k : r < B * 2 ^ n) : Long A B n q r := by
  refine ⟨h.sum, h.r0, k, h.q0, ?_⟩
  have hm := h.mul
  have hd := pow_dvd_pow' (by omega : n ≤ n + 1)
  exact Int.emod_eq_zero_of_dvd (Int.dvd_trans hd (Int.dvd_of_emod_eq_zero hm))
theorem Long.take {A B : Int} {n : Nat} {q r : Int} (h : Long A B (n + 1) q r) (k : B * 2 ^ n ≤ r) : Long A B n (q + 2 ^ n) (r - B * 2 ^ n) := by
  have hp := pow_pos' n
  have e : (2 : Int) ^ (n + 1) = 2 ^ n * 2 := Int.pow_succ 2 n
  have h1 := h.r1
  rw [e, ← Int.mul_assoc] at h1
  refine ⟨?_, by omega, by omega, by have := h.q0; omega, ?_⟩
  · rw [Int.add_mul, Int.mul_comm (2 ^ n) B]; have := h.sum; omega
  · have hm := h.mul
    have hd : (2 : Int) ^ n ∣ q := Int.dvd_trans (pow_dvd_pow' (by omega : n ≤ n + 1)) (Int.dvd_of_emod_eq_zero hm)
    exact Int.emod_eq_zero_of_dvd (Int.dvd_add hd (Int.dvd_refl _))
theorem Long.done {A B : Int} {q r : Int} (h : Long A B 0 q r) (hB : 0 < B) : q = A / B ∧ r = A % B := by
  have h1 := h.r1; have h0 := h.r0; have hs := h.sum
  rw [Int.pow_zero, Int.mul_one] at h1
  constructor
  · rw [← hs, Int.add_comm, Int.add_mul_ediv_right _ _ (by omega), Int.ediv_eq_zero_of_lt h0 h1]; omega
  · rw [← hs, Int.add_comm, Int.add_mul_emod_self_right, Int.emod_eq_of_lt h0 h1]
end Go.Proofs.Ytglgbhlnfafhjaa
