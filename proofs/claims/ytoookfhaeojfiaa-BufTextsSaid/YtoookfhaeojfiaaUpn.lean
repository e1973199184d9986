/- Plain arithmetic of rounding up to a power of two. -/
import Derived.Test.YtoookfhaeojfiaaFr
import Derived.Laws.BitsAll
namespace Go.Proofs.Ytoookfhaeojfiaa
open Go.RowKit

/-- A power of two from 1 to 2^30. -/
def Pow (t : Int) : Prop := ∃ k : Nat, k ≤ 30 ∧ t = ((2 ^ k : Nat) : Int)
theorem pow_le {k : Nat} (h : k ≤ 30) : 1 ≤ 2 ^ k ∧ 2 ^ k ≤ 1073741824 :=
  ⟨Nat.one_le_two_pow, by have := Nat.pow_le_pow_right (n := 2) (by omega) h; simpa using this⟩
theorem Pow.range {t : Int} (h : Pow t) : 1 ≤ t ∧ t ≤ 1073741824 := by
  obtain ⟨k, hk, rfl⟩ := h
  have := pow_le hk
  exact ⟨by omega, by omega⟩
theorem ofInt64 (a : Nat) (ha : a < 18446744073709551616) : (BitVec.ofInt 64 (a : Int)).toNat = a := by
  rw [BitVec.ofInt_natCast, BitVec.toNat_ofNat]; exact Nat.mod_eq_of_lt (by omega)
theorem wrap_nat (a : Nat) (ha : a < 9223372036854775808) : IntKind.i64.wrap (a : Int) = (a : Int) := by
  rw [IntKind.wrap_i64]; omega
theorem i64_and (a b : Nat) (ha : a < 9223372036854775808) (hb : b < 9223372036854775808) : bits .and .i64 (a : Int) (b : Int) = ((a &&& b : Nat) : Int) := by
  show IntKind.i64.wrap ((BitVec.ofInt 64 (a : Int) &&& BitVec.ofInt 64 (b : Int)).toNat : Int) = _
  rw [BitVec.toNat_and, ofInt64 a (by omega), ofInt64 b (by omega)]
  exact wrap_nat _ (Nat.lt_of_le_of_lt Nat.and_le_left ha)
theorem and_not_mask (a k : Nat) (ha : a < 18446744073709551616) (hk : k ≤ 62) : (BitVec.ofInt 64 (a : Int) &&& ~~~BitVec.ofInt 64 ((2 ^ k - 1 : Nat) : Int)).toNat = a / 2 ^ k * 2 ^ k := by
  have hp : 2 ^ k ≤ 2 ^ 62 := Nat.pow_le_pow_right (by omega) hk
  have hd : a / 2 ^ k * 2 ^ k ≤ a := Nat.div_mul_le_self _ _
  apply Nat.eq_of_testBit_eq
  intro i
  rw [BitVec.testBit_toNat, BitVec.getLsbD_and, BitVec.getLsbD_not, ← BitVec.testBit_toNat, ← BitVec.testBit_toNat, ofInt64 a ha, ofInt64 _ (by omega), Nat.testBit_two_pow_sub_one, Nat.testBit_mul_two_pow, Nat.testBit_div_two_pow]
  by_cases h64 : i < 64
  · by_cases hik : i < k
    · simp [hik, Nat.not_le.2 hik]
    · have e : i - k + k = i := by omega
      simp [h64, hik, Nat.not_lt.1 hik, e]
  · have ht : a.testBit i = false := Nat.testBit_lt_two_pow (Nat.lt_of_lt_of_le ha (by have := Nat.pow_le_pow_right (n := 2) (by omega) (show 64 ≤ i by omega); simpa using this))
    by_cases hik : k ≤ i
    · have e : i - k + k = i := by omega
      simp [e, ht]
    · simp [hik, ht]
/-- n + t - 1 without the lowest places: the least multiple of t that isn't below n. -/
def upI (n t : Int) : Int := (n + t - 1) / t * t
theorem up_bits {n t : Int} (ht : Pow t) (n0 : 0 ≤ n) (n1 : n ≤ 1099511627776) : bits .andNot .i64 (n + t - 1) (t - 1) = upI n t := by
  obtain ⟨k, hk, rfl⟩ := ht
  obtain ⟨m, rfl⟩ := Int.eq_ofNat_of_zero_le n0
  have hp := pow_le hk
  have e1 : ((m : Int) + ((2 ^ k : Nat) : Int) - 1) = ((m + 2 ^ k - 1 : Nat) : Int) := by omega
  have e2 : (((2 ^ k : Nat) : Int) - 1) = ((2 ^ k - 1 : Nat) : Int) := by omega
  unfold upI
  rw [e1, e2]
  have hd : (m + 2 ^ k - 1) / 2 ^ k * 2 ^ k ≤ m + 2 ^ k - 1 := Nat.div_mul_le_self _ _
  show IntKind.i64.wrap ((BitVec.ofInt 64 ((m + 2 ^ k - 1 : Nat) : Int) &&& ~~~BitVec.ofInt 64 ((2 ^ k - 1 : Nat) : Int)).toNat : Int) = _
  rw [and_not_mask _ k (by omega) (by omega), wrap_nat _ (by omega), Int.natCast_mul, Int.natCast_ediv]
theorem up_le (n t : Int) (h : 1 ≤ t) : n ≤ upI n t ∧ upI n t - n < t ∧ upI n t % t = 0 := by
  have h1 := Int.mul_ediv_add_emod (n + t - 1) t
  have h2 := Int.emod_nonneg (n + t - 1) (show t ≠ 0 by omega)
  have h3 := Int.emod_lt_of_pos (n + t - 1) (show 0 < t by omega)
  have e : upI n t = t * ((n + t - 1) / t) := by unfold upI; rw [Int.mul_comm]
  refine ⟨by omega, by omega, ?_⟩
  rw [e]; exact Int.mul_emod_right _ _
/-- The same, reckoned by the rest. -/
theorem up_rest {n t : Int} (h : 1 ≤ t) : (n % t = 0 → upI n t = n) ∧ (n % t ≠ 0 → upI n t = n - n % t + t) := by
  have h1 := Int.mul_ediv_add_emod n t
  have h2 := Int.emod_nonneg n (show t ≠ 0 by omega)
  have h3 := Int.emod_lt_of_pos n (show 0 < t by omega)
  have g1 := Int.mul_ediv_add_emod (n + t - 1) t
  have g2 := Int.emod_nonneg (n + t - 1) (show t ≠ 0 by omega)
  have g3 := Int.emod_lt_of_pos (n + t - 1) (show 0 < t by omega)
  have e : upI n t = t * ((n + t - 1) / t) := by unfold upI; rw [Int.mul_comm]
  constructor
  · intro h0
    have q : (n + t - 1) / t = n / t := by
      rw [show n + t - 1 = (t - 1) + t * (n / t) by omega, Int.add_mul_ediv_left _ _ (by omega), Int.ediv_eq_zero_of_lt (by omega) (by omega)]; omega
    rw [e, q]; omega
  · intro h0
    have q : (n + t - 1) / t = n / t + 1 := by
      rw [show n + t - 1 = (n % t - 1) + t * (n / t + 1) by rw [Int.mul_add]; omega, Int.add_mul_ediv_left _ _ (by omega), Int.ediv_eq_zero_of_lt (by omega) (by omega)]; omega
    rw [e, q, Int.mul_add]; omega
/-- t and t - 1 have no place in common just if t is a power of two. -/
theorem pow_bits {t : Int} (h0 : 1 ≤ t) (h1 : t ≤ 1073741824) : (bits .and .i64 t (t - 1) = 0) ↔ Pow t := by
  obtain ⟨m, rfl⟩ := Int.eq_ofNat_of_zero_le (show 0 ≤ t by omega)
  have e : ((m : Int) - 1) = ((m - 1 : Nat) : Int) := by omega
  rw [e, i64_and m (m - 1) (by omega) (by omega)]
  constructor
  · intro h
    obtain ⟨k, hk⟩ := (Nat.and_sub_one_eq_zero_iff_isPowerOfTwo (show m ≠ 0 by omega)).1 (by omega)
    refine ⟨k, ?_, by rw [hk]⟩
    apply Nat.le_of_not_lt
    intro hlt
    have := Nat.pow_le_pow_right (n := 2) (by omega) (show 31 ≤ k by omega)
    have h31 : (2 : Nat) ^ 31 = 2147483648 := by decide
    omega
  · rintro ⟨k, hk, hm⟩
    have hm' : m = 2 ^ k := by omega
    have := (Nat.and_sub_one_eq_zero_iff_isPowerOfTwo (show m ≠ 0 by omega)).2 ⟨k, hm'⟩
    omega
end Go.Proofs.Ytoookfhaeojfiaa
