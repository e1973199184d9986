/- Plain arithmetic of lists of bits, the lowest first; nothing of the program. -/
import Derived.Test.YtglgbhlnfafhjaaNum
namespace Go.Proofs.Ytglgbhlnfafhjaa
open Go.RowKit

/-- The bit of x at place i. -/
def bitI (x : Int) (i : Nat) : Bool := decide (x / 2 ^ i % 2 = 1)
/-- The lowest n bits of x. -/
def bitsI (n : Nat) (x : Int) : List Bool := (List.range n).map (bitI x)
theorem bitsI_length (n : Nat) (x : Int) : (bitsI n x).length = n := by simp [bitsI]
theorem bitsI_get (n : Nat) (x : Int) (i : Nat) (h : i < (bitsI n x).length) : (bitsI n x)[i] = bitI x i := by simp [bitsI]
theorem bitsI_get? (n : Nat) (x : Int) (i : Nat) (h : i < n) : (bitsI n x)[i]? = some (bitI x i) := by
  rw [List.getElem?_eq_getElem (by rw [bitsI_length]; exact h), bitsI_get]
theorem bitsI_zero (x : Int) : bitsI 0 x = [] := rfl
theorem bitsI_snoc (n : Nat) (x : Int) : bitsI (n + 1) x = bitsI n x ++ [bitI x n] := by simp [bitsI, List.range_succ]
theorem two_pos (n : Nat) : (0 : Int) < 2 ^ n := Int.pow_pos (by decide)
theorem two_ne (n : Nat) : (2 : Int) ^ n ≠ 0 := by have := two_pos n; omega
theorem two_succ (n : Nat) : (2 : Int) ^ (n + 1) = 2 ^ n * 2 := by rw [Int.pow_succ]
theorem two_add (m n : Nat) : (2 : Int) ^ (m + n) = 2 ^ m * 2 ^ n := by rw [Int.pow_add]
theorem two_le {m n : Nat} (h : m ≤ n) : (2 : Int) ^ m ≤ 2 ^ n := by
  obtain ⟨k, rfl⟩ : ∃ k, n = m + k := ⟨n - m, by omega⟩
  rw [two_add]
  have h1 := two_pos m
  have h2 := two_pos k
  have h3 : (2 : Int) ^ m * 1 ≤ 2 ^ m * 2 ^ k := Int.mul_le_mul_of_nonneg_left (by omega) (by omega)
  omega
/-- A multiple of 2^n added changes no bit below n. -/
theorem bitI_shift (x c : Int) {n i : Nat} (h : i < n) : bitI (x + 2 ^ n * c) i = bitI x i := by
  obtain ⟨k, rfl⟩ : ∃ k, n = i + (k + 1) := ⟨n - i - 1, by omega⟩
  unfold bitI
  have e : x + 2 ^ (i + (k + 1)) * c = x + 2 ^ i * (2 * (2 ^ k * c)) := by
    rw [two_add, two_succ, Int.mul_assoc, Int.mul_comm (2 ^ k) 2, Int.mul_assoc]
  rw [e, Int.add_mul_ediv_left _ _ (two_ne i), Int.add_mul_emod_self_left]
theorem bitI_mod (x : Int) {n i : Nat} (h : i < n) : bitI (x % 2 ^ n) i = bitI x i := by
  conv => rhs; rw [← Int.mul_ediv_add_emod x (2 ^ n), Int.add_comm]
  exact (bitI_shift (x % 2 ^ n) (x / 2 ^ n) h).symm
theorem bitI_congr {x y : Int} {n i : Nat} (h : x % 2 ^ n = y % 2 ^ n) (hi : i < n) : bitI x i = bitI y i := by
  rw [← bitI_mod x hi, h, bitI_mod y hi]
theorem bitsI_congr {x y : Int} {n : Nat} (h : x % 2 ^ n = y % 2 ^ n) : bitsI n x = bitsI n y := by
  apply List.ext_getElem
  · rw [bitsI_length, bitsI_length]
  · intro i h1 h2
    rw [bitsI_get, bitsI_get]
    exact bitI_congr h (by rwa [bitsI_length] at h1)
theorem bitsI_mod (x : Int) (n : Nat) : bitsI n (x % 2 ^ n) = bitsI n x := bitsI_congr (Int.emod_emod_of_dvd _ (Int.dvd_refl _))
/-- The bits from k on. -/
theorem bitI_div (x : Int) (k i : Nat) : bitI (x / 2 ^ k) i = bitI x (k + i) := by
  unfold bitI
  rw [two_add, Int.ediv_ediv_of_nonneg (by have := two_pos k; omega)]
theorem bitsI_drop (n k : Nat) (x : Int) : (bitsI n x).drop k = bitsI (n - k) (x / 2 ^ k) := by
  apply List.ext_getElem
  · rw [List.length_drop, bitsI_length, bitsI_length]
  · intro i h1 h2
    rw [List.getElem_drop, bitsI_get, bitsI_get, bitI_div]
theorem bitsI_take (n k : Nat) (x : Int) (h : k ≤ n) : (bitsI n x).take k = bitsI k x := by
  apply List.ext_getElem
  · rw [List.length_take, bitsI_length, bitsI_length]; omega
  · intro i h1 h2
    rw [List.getElem_take, bitsI_get, bitsI_get]
/-- A number's lowest n + 1 bits are the lowest n and the one above. -/
theorem mod_succ (x : Int) (n : Nat) : x % 2 ^ (n + 1) = x % 2 ^ n + 2 ^ n * (if bitI x n then 1 else 0) := by
  have hp := two_pos n
  have h1 := Int.mul_ediv_add_emod x (2 ^ n)
  have h2 := Int.emod_nonneg x (two_ne n)
  have h3 := Int.emod_lt_of_pos x hp
  have h4 := Int.mul_ediv_add_emod (x / 2 ^ n) 2
  have hb : (if bitI x n then (1 : Int) else 0) = x / 2 ^ n % 2 := by
    unfold bitI
    by_cases h : x / 2 ^ n % 2 = 1
    · simp [h]
    · simp [h]; omega
  rw [hb]
  have e : x = (x % 2 ^ n + 2 ^ n * (x / 2 ^ n % 2)) + 2 ^ (n + 1) * (x / 2 ^ n / 2) := by
    rw [two_succ, Int.mul_assoc, Int.add_assoc, ← Int.mul_add, Int.add_comm (x / 2 ^ n % 2), h4]; omega
  conv => lhs; rw [e]
  rw [Int.add_mul_emod_self_left]
  have h5 : 0 ≤ x / 2 ^ n % 2 ∧ x / 2 ^ n % 2 ≤ 1 := by omega
  have h6 : (2 : Int) ^ n * (x / 2 ^ n % 2) ≤ 2 ^ n * 1 := Int.mul_le_mul_of_nonneg_left h5.2 (by omega)
  have h7 : 0 ≤ (2 : Int) ^ n * (x / 2 ^ n % 2) := Int.mul_nonneg (by omega) h5.1
  refine Int.emod_eq_of_lt (by omega) ?_
  rw [two_succ]; omega
/-- The highest of n + 1 bits first: a number told bit by bit from above. -/
theorem div_succ (x : Int) (n : Nat) : x / 2 ^ n = 2 * (x / 2 ^ (n + 1)) + (if bitI x n then 1 else 0) := by
  have h4 := Int.mul_ediv_add_emod (x / 2 ^ n) 2
  have hb : (if bitI x n then (1 : Int) else 0) = x / 2 ^ n % 2 := by
    unfold bitI
    by_cases h : x / 2 ^ n % 2 = 1
    · simp [h]
    · simp [h]; omega
  rw [hb, two_succ, ← Int.ediv_ediv_of_nonneg (by have := two_pos n; omega)]
  omega
theorem bitI_not (x : Int) (i : Nat) : bitI (-1 - x) i = !bitI x i := by
  have hp := two_pos i
  have h1 := Int.mul_ediv_add_emod x (2 ^ i)
  have h2 := Int.emod_nonneg x (two_ne i)
  have h3 := Int.emod_lt_of_pos x hp
  have e : (-1 - x) / 2 ^ i = -1 - x / 2 ^ i := by
    have e1 : -1 - x = (2 ^ i - 1 - x % 2 ^ i) + 2 ^ i * (-1 - x / 2 ^ i) := by rw [Int.mul_sub]; omega
    rw [e1, Int.add_mul_ediv_left _ _ (two_ne i), Int.ediv_eq_zero_of_lt (by omega) (by omega)]; omega
  unfold bitI
  rw [e]
  by_cases h : x / 2 ^ i % 2 = 1
  · have : ¬ (-1 - x / 2 ^ i) % 2 = 1 := by omega
    simp [h, this]
  · have : (-1 - x / 2 ^ i) % 2 = 1 := by omega
    simp [h, this]
/-- Sums, bit by bit: the carry into place i, the bit there, the carry out. -/
def carI (x y c : Int) (i : Nat) : Bool := decide ((x % 2 ^ i + y % 2 ^ i + c) / 2 ^ i = 1)
def b2i (b : Bool) : Int := if b then 1 else 0
theorem carI_zero (x y : Int) (c : Bool) : carI x y (b2i c) 0 = c := by
  unfold carI b2i
  simp
theorem add_bit (x y c : Int) (c0 : 0 ≤ c) (c1 : c ≤ 1) (i : Nat) :
    bitI (x + y + c) i = decide ((b2i (bitI x i) + b2i (bitI y i) + b2i (carI x y c i)) % 2 = 1) ∧
    carI x y c (i + 1) = decide (2 ≤ b2i (bitI x i) + b2i (bitI y i) + b2i (carI x y c i)) := by
  have hp := two_pos i
  have x2 := Int.emod_nonneg x (two_ne i)
  have x3 := Int.emod_lt_of_pos x hp
  have y2 := Int.emod_nonneg y (two_ne i)
  have y3 := Int.emod_lt_of_pos y hp
  have hx : x = x % 2 ^ i + 2 ^ i * b2i (bitI x i) + 2 ^ (i + 1) * (x / 2 ^ (i + 1)) := by
    have h1 := Int.mul_ediv_add_emod x (2 ^ (i + 1))
    have h2 := mod_succ x i
    unfold b2i; omega
  have hy : y = y % 2 ^ i + 2 ^ i * b2i (bitI y i) + 2 ^ (i + 1) * (y / 2 ^ (i + 1)) := by
    have h1 := Int.mul_ediv_add_emod y (2 ^ (i + 1))
    have h2 := mod_succ y i
    unfold b2i; omega
  have hmx := mod_succ x i
  have hmy := mod_succ y i
  -- the carry
  have hq0 : 0 ≤ (x % 2 ^ i + y % 2 ^ i + c) / 2 ^ i := Int.ediv_nonneg (by omega) (by omega)
  have hq1 : (x % 2 ^ i + y % 2 ^ i + c) / 2 ^ i < 2 := Int.ediv_lt_of_lt_mul hp (by omega)
  have hc : b2i (carI x y c i) = (x % 2 ^ i + y % 2 ^ i + c) / 2 ^ i := by
    unfold carI b2i
    by_cases h : (x % 2 ^ i + y % 2 ^ i + c) / 2 ^ i = 1
    · simp [h]
    · simp [h]; omega
  have hs := Int.mul_ediv_add_emod (x % 2 ^ i + y % 2 ^ i + c) (2 ^ i)
  have s2 := Int.emod_nonneg (x % 2 ^ i + y % 2 ^ i + c) (two_ne i)
  have s3 := Int.emod_lt_of_pos (x % 2 ^ i + y % 2 ^ i + c) hp
  have bx : 0 ≤ b2i (bitI x i) ∧ b2i (bitI x i) ≤ 1 := by unfold b2i; split <;> omega
  have by' : 0 ≤ b2i (bitI y i) ∧ b2i (bitI y i) ≤ 1 := by unfold b2i; split <;> omega
  rw [hc]
  change x % 2 ^ (i + 1) = x % 2 ^ i + 2 ^ i * b2i (bitI x i) at hmx
  change y % 2 ^ (i + 1) = y % 2 ^ i + 2 ^ i * b2i (bitI y i) at hmy
  generalize hBX : b2i (bitI x i) = bX at *
  generalize hBY : b2i (bitI y i) = bY at *
  generalize hC : (x % 2 ^ i + y % 2 ^ i + c) / 2 ^ i = C at *
  generalize hS : (x % 2 ^ i + y % 2 ^ i + c) % 2 ^ i = s at *
  constructor
  · unfold bitI
    have e : x + y + c = s + 2 ^ i * ((bX + bY + C) + 2 * (x / 2 ^ (i + 1) + y / 2 ^ (i + 1))) := by
      rw [two_succ] at hx hy ⊢
      rw [Int.mul_add, Int.mul_add, Int.mul_add, ← Int.mul_assoc, Int.mul_add]
      omega
    rw [e, Int.add_mul_ediv_left _ _ (two_ne i), Int.ediv_eq_zero_of_lt s2 s3, Int.zero_add, Int.add_mul_emod_self_left]
  · unfold carI
    have e : x % 2 ^ (i + 1) + y % 2 ^ (i + 1) + c = s + 2 ^ i * (bX + bY + C) := by
      rw [hmx, hmy, Int.mul_add, Int.mul_add]; omega
    rw [e, two_succ, ← Int.ediv_ediv_of_nonneg (by omega), Int.add_mul_ediv_left _ _ (two_ne i), Int.ediv_eq_zero_of_lt s2 s3, Int.zero_add]
    exact decide_eq_decide.2 (by omega)
end Go.Proofs.Ytglgbhlnfafhjaa
