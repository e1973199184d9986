/- Plain arithmetic of lists of bits: joined, moved, bit by bit; nothing of the program. -/
import Derived.Test.YtglgbhlnfafhjaaBits
import Derived.Test.YtglgbhlnfafhjaaRcut
import Derived.Test.YtglgbhlnfafhjaaNumc
namespace Go.Proofs.Ytglgbhlnfafhjaa
open Go.RowKit

theorem bitI_cast (m t : Nat) : bitI (m : Int) t = m.testBit t := by
  unfold bitI
  have e : ((2 ^ t : Nat) : Int) = (2 : Int) ^ t := by simp
  rw [← e, Nat.testBit_eq_decide_div_mod_eq]
  refine decide_eq_decide.2 ?_
  omega
/-- Two lists of bits, one behind the other. -/
def joinI (m : Nat) (x y : Int) : Int := x % 2 ^ m + 2 ^ m * y
theorem joinI_low (m : Nat) (x y : Int) (i : Nat) (h : i < m) : bitI (joinI m x y) i = bitI x i := by
  unfold joinI; rw [bitI_shift _ _ h]; exact bitI_mod x h
theorem joinI_high (m : Nat) (x y : Int) (i : Nat) : bitI (joinI m x y) (m + i) = bitI y i := by
  have e : joinI m x y / 2 ^ m = y := by
    unfold joinI
    rw [Int.add_mul_ediv_left _ _ (two_ne m), Int.ediv_eq_zero_of_lt (Int.emod_nonneg _ (two_ne m)) (Int.emod_lt_of_pos _ (two_pos m)), Int.zero_add]
  rw [← bitI_div, e]
theorem bitsI_append (m n : Nat) (x y : Int) : bitsI m x ++ bitsI n y = bitsI (m + n) (joinI m x y) := by
  apply List.ext_getElem
  · simp [bitsI_length]
  · intro i h1 h2
    rw [bitsI_get]
    by_cases hi : i < m
    · rw [List.getElem_append_left (by rw [bitsI_length]; exact hi), bitsI_get, joinI_low _ _ _ _ hi]
    · obtain ⟨j, rfl⟩ : ∃ j, i = m + j := ⟨i - m, by omega⟩
      rw [List.getElem_append_right (by rw [bitsI_length]; omega), bitsI_get, joinI_high]
      congr 1; rw [bitsI_length]; omega
theorem bitsI_ext {n : Nat} {x y : Int} (h : ∀ i, i < n → bitI x i = bitI y i) : bitsI n x = bitsI n y := by
  unfold bitsI
  exact List.map_congr_left fun i hi => h i (List.mem_range.1 hi)
theorem mod_of_bits {n : Nat} {x y : Int} (h : ∀ i, i < n → bitI x i = bitI y i) : x % 2 ^ n = y % 2 ^ n := by
  induction n with
  | zero => simp
  | succ n ih => rw [mod_succ, mod_succ, ih (fun i hi => h i (by omega)), h n (by omega)]
theorem mod_mod_two {m n : Nat} (h : m ≤ n) (x : Int) : x % 2 ^ n % 2 ^ m = x % 2 ^ m :=
  Int.emod_emod_of_dvd _ ⟨2 ^ (n - m), by rw [← Int.pow_add, Nat.add_sub_cancel' h]⟩
/-- A row moved up by i places, cut to n. -/
theorem moved_row (i n : Nat) (x : Int) : fillI (i + n) (joinI i 0 x) false % 2 ^ n = (x * 2 ^ i) % 2 ^ n := by
  unfold fillI joinI
  rw [if_neg (by simp), Int.sub_zero, mod_mod_two (by omega), Int.zero_emod, Int.zero_add, Int.mul_comm]
/-- A product, a bit of the second at a time. -/
theorem mul_step (x y : Int) (j : Nat) : x * (y % 2 ^ (j + 1)) = x * (y % 2 ^ j) + (if bitI y j then x * 2 ^ j else 0) := by
  rw [mod_succ, Int.mul_add]
  cases bitI y j
  · simp
  · simp
theorem mul_all (x y : Int) (n : Nat) : (x * (y % 2 ^ n)) % 2 ^ n = (x * y) % 2 ^ n := by
  rw [Int.mul_emod, Int.emod_emod_of_dvd _ (Int.dvd_refl _), ← Int.mul_emod]
theorem add_mod_congr {n : Nat} {a b c d : Int} (h : a % 2 ^ n = b % 2 ^ n) (k : c % 2 ^ n = d % 2 ^ n) : (a + c) % 2 ^ n = (b + d) % 2 ^ n := by
  rw [Int.add_emod, h, k, ← Int.add_emod]
/-- Bit by bit. -/
theorem bit128 (a : Int) (i : Nat) (h0 : 0 ≤ a) (h1 : a < 340282366920938463463374607431768211456) : bitI a i = (nat128 a).testBit i := by
  rw [← bitI_cast, nat128_eq, mod128_small a h0 h1]
theorem land_bit (a b : Int) (a0 : 0 ≤ a) (a1 : a < 340282366920938463463374607431768211456) (b0 : 0 ≤ b) (b1 : b < 340282366920938463463374607431768211456) (i : Nat) : bitI (landI a b) i = (bitI a i && bitI b i) := by
  rw [bit128 a i a0 a1, bit128 b i b0 b1]; unfold landI; rw [bitI_cast, Nat.testBit_and]
theorem lor_bit (a b : Int) (a0 : 0 ≤ a) (a1 : a < 340282366920938463463374607431768211456) (b0 : 0 ≤ b) (b1 : b < 340282366920938463463374607431768211456) (i : Nat) : bitI (lorI a b) i = (bitI a i || bitI b i) := by
  rw [bit128 a i a0 a1, bit128 b i b0 b1]; unfold lorI; rw [bitI_cast, Nat.testBit_or]
theorem lxor_bit (a b : Int) (a0 : 0 ≤ a) (a1 : a < 340282366920938463463374607431768211456) (b0 : 0 ≤ b) (b1 : b < 340282366920938463463374607431768211456) (i : Nat) : bitI (lxorI a b) i = (bitI a i != bitI b i) := by
  rw [bit128 a i a0 a1, bit128 b i b0 b1]; unfold lxorI; rw [bitI_cast, Nat.testBit_xor]
/-- The sign. -/
theorem sign_bit {n : Nat} {x : Int} (h1 : 1 ≤ n) (x0 : 0 ≤ x) (x1 : x < 2 ^ n) : bitI x (n - 1) = decide (¬ x < 2 ^ (n - 1)) := by
  obtain ⟨k, rfl⟩ : ∃ k, n = k + 1 := ⟨n - 1, by omega⟩
  rw [Nat.add_sub_cancel]
  rw [two_succ] at x1
  have hp := two_pos k
  unfold bitI
  by_cases h : x < 2 ^ k
  · rw [Int.ediv_eq_zero_of_lt x0 h]; simp [h]
  · have e : x / 2 ^ k = 1 := by
      have h1 : 1 ≤ x / 2 ^ k := Int.le_ediv_of_mul_le hp (by omega)
      have h2 : x / 2 ^ k < 2 := Int.ediv_lt_of_lt_mul hp (by omega)
      omega
    rw [e]; simp [h]
/-- A long division, a bit of the first at a time from above: q * y + r is what has been told of x. -/
def LongD (_n : Nat) (x y : Int) (i : Nat) (q r : Int) : Prop := x / 2 ^ i = q * y + r ∧ 0 ≤ r ∧ r < y ∧ 0 ≤ q
theorem LongD.start {n : Nat} {x y : Int} (x0 : 0 ≤ x) (x1 : x < 2 ^ n) (y0 : 0 < y) : LongD n x y n 0 0 := ⟨by rw [Int.ediv_eq_zero_of_lt x0 x1]; simp, by omega, y0, by omega⟩
theorem LongD.keep {n : Nat} {x y : Int} {i : Nat} {q r : Int} (h : LongD n x y (i + 1) q r) (hl : 2 * r + b2i (bitI x i) < y) : LongD n x y i (2 * q) (2 * r + b2i (bitI x i)) := by
  obtain ⟨h1, h2, h3, h4⟩ := h
  have hb : 0 ≤ b2i (bitI x i) ∧ b2i (bitI x i) ≤ 1 := by unfold b2i; split <;> omega
  refine ⟨?_, by omega, hl, by omega⟩
  rw [div_succ, h1, Int.mul_add, ← Int.mul_assoc]
  unfold b2i; omega
theorem LongD.less {n : Nat} {x y : Int} {i : Nat} {q r : Int} (h : LongD n x y (i + 1) q r) (hl : ¬ 2 * r + b2i (bitI x i) < y) : LongD n x y i (2 * q + 1) (2 * r + b2i (bitI x i) - y) := by
  obtain ⟨h1, h2, h3, h4⟩ := h
  have hb : 0 ≤ b2i (bitI x i) ∧ b2i (bitI x i) ≤ 1 := by unfold b2i; split <;> omega
  refine ⟨?_, by omega, by omega, by omega⟩
  rw [div_succ, h1, Int.mul_add, ← Int.mul_assoc, Int.add_mul]
  unfold b2i; omega
theorem LongD.done {n : Nat} {x y : Int} {q r : Int} (h : LongD n x y 0 q r) : q = x / y ∧ r = x % y := by
  obtain ⟨h1, h2, h3, h4⟩ := h
  rw [Int.pow_zero, Int.ediv_one] at h1
  have e1 : x / y = q := by
    rw [h1, Int.add_comm, Int.mul_comm, Int.add_mul_ediv_left _ _ (by omega), Int.ediv_eq_zero_of_lt h2 h3, Int.zero_add]
  have e2 : x % y = r := by
    rw [h1, Int.add_comm, Int.mul_comm, Int.add_mul_emod_self_left, Int.emod_eq_of_lt h2 h3]
  exact ⟨e1.symm, e2.symm⟩
/-- A bit set in the quotient's list. -/
theorem bitsI_set (n i : Nat) (q : Int) (_h : i < n) : (bitsI n (q * 2 ^ (i + 1))).set i true = bitsI n ((2 * q + 1) * 2 ^ i) := by
  apply List.ext_getElem
  · simp [bitsI_length]
  · intro t h1 h2
    rw [List.getElem_set, bitsI_get, bitsI_get]
    have e : (2 * q + 1) * 2 ^ i = 2 ^ i + 2 ^ (i + 1) * q := by
      rw [Int.add_mul, two_succ, Int.one_mul, Int.mul_comm 2 q, Int.mul_assoc, Int.mul_comm (2 ^ i) 2, Int.mul_comm (2 * 2 ^ i) q]; omega
    by_cases k : i = t
    · subst k
      rw [if_pos rfl, e, bitI_shift _ _ (show i < i + 1 by omega)]
      unfold bitI
      rw [Int.ediv_self (two_ne i)]; rfl
    · rw [if_neg k]
      by_cases k2 : t < i
      · have e1 : q * 2 ^ (i + 1) = 0 + 2 ^ i * (2 * q) := by rw [two_succ, Int.zero_add, Int.mul_comm q, Int.mul_assoc]
        have e2 : (2 * q + 1) * 2 ^ i = 0 + 2 ^ i * (2 * q + 1) := by rw [Int.zero_add, Int.mul_comm]
        rw [e1, e2, bitI_shift _ _ k2, bitI_shift _ _ k2]
      · have e1 : q * 2 ^ (i + 1) = joinI (i + 1) 0 q := by unfold joinI; rw [Int.zero_emod, Int.zero_add, Int.mul_comm]
        have e2 : (2 * q + 1) * 2 ^ i = joinI (i + 1) (2 ^ i) q := by
          rw [e]; unfold joinI
          rw [Int.emod_eq_of_lt (by have := two_pos i; omega) (by rw [two_succ]; have := two_pos i; omega)]
        obtain ⟨s, rfl⟩ : ∃ s, t = (i + 1) + s := ⟨t - (i + 1), by omega⟩
        rw [e1, e2, joinI_high, joinI_high]
theorem bitsI_cons (n : Nat) (b : Bool) (r : Int) : b :: bitsI n r = bitsI (n + 1) (2 * r + b2i b) := by
  apply List.ext_getElem
  · simp [bitsI_length]
  · intro t h1 h2
    rw [bitsI_get]
    cases t with
    | zero =>
      rw [List.getElem_cons_zero]; unfold bitI b2i
      cases b
      · simp
      · simp
    | succ t =>
      rw [List.getElem_cons_succ, bitsI_get]
      have hb : 0 ≤ b2i b ∧ b2i b ≤ 1 := by unfold b2i; split <;> omega
      have e : (2 * r + b2i b) / 2 ^ 1 = r := by rw [Int.pow_one]; omega
      rw [show t + 1 = 1 + t by omega, ← bitI_div, e]
end Go.Proofs.Ytglgbhlnfafhjaa
