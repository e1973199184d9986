/- Long division of two words by one, digit by digit of 32 bits: plain arithmetic; nothing of the program. -/
import GoSem.Claim
import Derived.WalkKit
namespace Go.Proofs.Ytglgbhlnfafhjaa

/-- The guess q of a digit, with its rest r, of u * 2^32 + d by Y = v1 * 2^32 + v0; Q is the digit. -/
structure Dig (u v1 v0 d Q q r : Int) : Prop where
  rest : r = u - q * v1
  r0 : 0 ≤ r
  ge : Q ≤ q
  q0 : 0 ≤ Q
  lo : Q * (v1 * 4294967296 + v0) ≤ u * 4294967296 + d
  hi : u * 4294967296 + d < (Q + 1) * (v1 * 4294967296 + v0)
  v10 : 0 < v1
  v11 : v1 < 4294967296
  v00 : 0 ≤ v0
  v01 : v0 < 4294967296
  d0 : 0 ≤ d
  d1 : d < 4294967296
  u0 : 0 ≤ u
  u1 : u < v1 * 4294967296 + v0

theorem Dig.eval {u v1 v0 d Q q r : Int} (h : Dig u v1 v0 d Q q r) : q * (v1 * 4294967296 + v0) = (u - r) * 4294967296 + q * v0 := by
  have e : u - r = q * v1 := by rw [h.rest]; omega
  rw [e, Int.mul_add, Int.mul_assoc]
/-- The guess is right where the test says so. -/
theorem Dig.done {u v1 v0 d Q q r : Int} (h : Dig u v1 v0 d Q q r) (k : q * v0 ≤ r * 4294967296 + d) : q = Q := by
  have e := h.eval
  have hY : 0 < v1 * 4294967296 + v0 := by have := h.v10; have := h.v00; omega
  have hle : q * (v1 * 4294967296 + v0) ≤ u * 4294967296 + d := by rw [e]; omega
  have hlt := Int.lt_of_le_of_lt hle h.hi
  have : q < Q + 1 := Int.lt_of_mul_lt_mul_right hlt (Int.le_of_lt hY)
  have := h.ge
  omega
/-- One less, where the test says no. -/
theorem Dig.ge_pred {u v1 v0 d Q q r : Int} (h : Dig u v1 v0 d Q q r) (k : r * 4294967296 + d < q * v0) : Q ≤ q - 1 := by
  have hg := h.ge
  rcases (by omega : Q = q ∨ Q ≤ q - 1) with e | e
  · exfalso
    have hl := h.lo
    rw [e, h.eval] at hl
    omega
  · exact e
theorem Dig.q_lt {u v1 v0 d Q q r : Int} (h : Dig u v1 v0 d Q q r) : Q < 4294967296 := by
  have hY : 0 < v1 * 4294967296 + v0 := by have := h.v10; have := h.v00; omega
  have h1 := h.lo; have h2 := h.u1; have h3 := h.d1; have h4 := h.u0
  have : Q * (v1 * 4294967296 + v0) < 4294967296 * (v1 * 4294967296 + v0) := by
    have : u * 4294967296 + d < (v1 * 4294967296 + v0) * 4294967296 := by omega
    rw [Int.mul_comm 4294967296]; omega
  exact Int.lt_of_mul_lt_mul_right this (Int.le_of_lt hY)
theorem Dig.pred {u v1 v0 d Q q r : Int} (h : Dig u v1 v0 d Q q r) (k : 4294967296 ≤ q ∨ r * 4294967296 + d < q * v0) : Dig u v1 v0 d Q (q - 1) (r + v1) := by
  have hg : Q ≤ q - 1 := by
    rcases k with k | k
    · have := h.q_lt; omega
    · exact h.ge_pred k
  refine ⟨?_, by have := h.r0; have := h.v10; omega, hg, h.q0, h.lo, h.hi, h.v10, h.v11, h.v00, h.v01, h.d0, h.d1, h.u0, h.u1⟩
  rw [h.rest, Int.sub_mul]; omega
/-- Where the rest has passed 2^32 the guess is right. -/
theorem Dig.big {u v1 v0 d Q q r : Int} (h : Dig u v1 v0 d Q q r) (k : 4294967296 ≤ r) : q = Q := by
  have hg := h.ge; have hq := h.q0
  have h1 : q * v1 < 4294967296 * v1 := by
    have e : q * v1 = u - r := by rw [h.rest]; omega
    have := h.u1; have := h.v01
    rw [e, Int.mul_comm]; omega
  have h2 : q < 4294967296 := Int.lt_of_mul_lt_mul_right h1 (Int.le_of_lt h.v10)
  refine h.done ?_
  have h3 : q * v0 ≤ 4294967296 * v0 := Int.mul_le_mul_of_nonneg_right (by omega) h.v00
  have := h.v01; have := h.d0
  omega
/-- The first guess. -/
theorem Dig.start (u v1 v0 d : Int) (v10 : 0 < v1) (v11 : v1 < 4294967296) (v00 : 0 ≤ v0) (v01 : v0 < 4294967296) (d0 : 0 ≤ d) (d1 : d < 4294967296) (u0 : 0 ≤ u) (u1 : u < v1 * 4294967296 + v0) :
    Dig u v1 v0 d ((u * 4294967296 + d) / (v1 * 4294967296 + v0)) (u / v1) (u % v1) := by
  have hY : 0 < v1 * 4294967296 + v0 := by omega
  have hN : 0 ≤ u * 4294967296 + d := by omega
  have hr := Int.mul_ediv_add_emod u v1
  have hr0 := Int.emod_nonneg u (by omega : v1 ≠ 0)
  have hQ0 : 0 ≤ (u * 4294967296 + d) / (v1 * 4294967296 + v0) := Int.ediv_nonneg hN (Int.le_of_lt hY)
  have hlo : (u * 4294967296 + d) / (v1 * 4294967296 + v0) * (v1 * 4294967296 + v0) ≤ u * 4294967296 + d := Int.ediv_mul_le _ (by omega)
  have hhi : u * 4294967296 + d < ((u * 4294967296 + d) / (v1 * 4294967296 + v0) + 1) * (v1 * 4294967296 + v0) := Int.lt_ediv_add_one_mul_self _ hY
  refine ⟨?_, hr0, ?_, hQ0, hlo, hhi, v10, v11, v00, v01, d0, d1, u0, u1⟩
  · rw [Int.mul_comm] at hr; omega
  · generalize (u * 4294967296 + d) / (v1 * 4294967296 + v0) = Q at *
    refine Int.le_ediv_of_mul_le v10 ?_
    have e : Q * (v1 * 4294967296 + v0) = Q * v1 * 4294967296 + Q * v0 := by rw [Int.mul_add, Int.mul_assoc]
    have hp : 0 ≤ Q * v0 := Int.mul_nonneg hQ0 v00
    omega
/-- What is left behind a digit. -/
theorem Dig.left {u v1 v0 d Q q r : Int} (h : Dig u v1 v0 d Q q r) : 0 ≤ u * 4294967296 + d - Q * (v1 * 4294967296 + v0) ∧ u * 4294967296 + d - Q * (v1 * 4294967296 + v0) < v1 * 4294967296 + v0 := by
  have h1 := h.lo; have h2 := h.hi
  rw [Int.add_mul, Int.one_mul] at h2
  omega
/-- Two digits make the quotient. -/
theorem two_digits (U Y S y n Q1 Q0 u2 R d1 d0 u1 : Int) (hS : 0 < S) (hy : 0 < y) (hY : Y = y * S) (hU : U = n * S) (e1 : u1 * 4294967296 + d1 = Q1 * Y + u2) (e2 : u2 * 4294967296 + d0 = Q0 * Y + R) (hR0 : 0 ≤ R) (hR : R < Y)
    (eU : U = (u1 * 4294967296 + d1) * 4294967296 + d0) : Q1 * 4294967296 + Q0 = n / y ∧ R / S = n % y := by
  have hYp : 0 < Y := by rw [hY]; exact Int.mul_pos hy hS
  have eq : U = (Q1 * 4294967296 + Q0) * Y + R := by
    rw [eU, e1, Int.add_mul, Int.add_mul, Int.add_assoc, Int.add_assoc, Int.mul_assoc, Int.mul_comm Y, ← Int.mul_assoc]
    omega
  have hd : U / Y = Q1 * 4294967296 + Q0 := by
    rw [eq, Int.add_comm, Int.add_mul_ediv_right _ _ (by omega), Int.ediv_eq_zero_of_lt hR0 hR]; omega
  have hm : U % Y = R := by
    rw [eq, Int.add_comm, Int.add_mul_emod_self_right]; exact Int.emod_eq_of_lt hR0 hR
  constructor
  · rw [← hd, hU, hY, Int.mul_ediv_mul_of_pos_left _ _ hS]
  · rw [← hm, hU, hY]
    have : n * S % (y * S) = n % y * S := by
      rw [Int.mul_comm n, Int.mul_comm y, Int.mul_emod_mul_of_pos _ _ hS, Int.mul_comm]
    rw [this]; exact Int.mul_ediv_cancel _ (by omega)
end Go.Proofs.Ytglgbhlnfafhjaa
