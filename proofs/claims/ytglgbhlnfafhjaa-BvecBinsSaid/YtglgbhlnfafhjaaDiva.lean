/- math/bits.Div64 for all words with the high one less than the divisor: quotient and rest. -/
import Derived.Test.YtglgbhlnfafhjaaDivw
import Derived.Test.YtglgbhlnfafhjaaNumc
import Derived.Test.YtglgbhlnfafhjaaGr
import Derived.Lib.ItoaNum
namespace Go.Proofs.Ytglgbhlnfafhjaa
open Go.RowKit

theorem bitLen_word (y : Int) (h0 : 0 < y) (h1 : y < 18446744073709551616) : 1 ≤ Lib.bitLen y.toNat ∧ Lib.bitLen y.toNat ≤ 64 ∧ (2 : Int) ^ (Lib.bitLen y.toNat - 1) ≤ y ∧ y < 2 ^ Lib.bitLen y.toNat := by
  have hb := Lib.bitLenAux_bounds 64 y.toNat (by omega) (by omega)
  have e : Lib.bitLenAux 64 y.toNat = Lib.bitLen y.toNat := rfl
  rw [e] at hb
  obtain ⟨b1, b2, b3⟩ := hb
  have c1 := two_pow_cast (Lib.bitLen y.toNat - 1); have c2 := two_pow_cast (Lib.bitLen y.toNat)
  refine ⟨b1, ?_, by omega, by omega⟩
  rcases (by omega : Lib.bitLen y.toNat ≤ 64 ∨ 65 ≤ Lib.bitLen y.toNat) with k | k
  · exact k
  · exfalso
    have hm : 2 ^ 64 ≤ 2 ^ (Lib.bitLen y.toNat - 1) := Nat.pow_le_pow_right (by decide) (by omega)
    omega
theorem digit_step (u v1 v0 d Y : Int) (hY : Y = v1 * 4294967296 + v0) (v10 : 2147483648 ≤ v1) (v11 : v1 < 4294967296) (v00 : 0 ≤ v0) (v01 : v0 < 4294967296) (d0 : 0 ≤ d) (d1 : d < 4294967296) (u0 : 0 ≤ u) (u1 : u < Y) :
    ∃ Q q r u2 : Int, Dig u v1 v0 d Q q r ∧ u.tdiv v1 = q ∧ IntKind.u64.wrap q = q ∧ IntKind.u64.wrap (u - IntKind.u64.wrap (q * v1)) = r ∧ r < 4294967296 ∧ q < 17179869184 ∧
      IntKind.u64.wrap (IntKind.u64.wrap (IntKind.u64.wrap (u * 4294967296) + d) - IntKind.u64.wrap (Q * Y)) = u2 ∧ u * 4294967296 + d = Q * Y + u2 ∧ 0 ≤ u2 ∧ u2 < Y := by
  have D := Dig.start u v1 v0 d (by omega) v11 v00 v01 d0 d1 u0 (by omega)
  have hr := Int.mul_ediv_add_emod u v1
  have hr0 := Int.emod_nonneg u (by omega : v1 ≠ 0)
  have hr1 := Int.emod_lt_of_pos u (by omega : 0 < v1)
  have hq0 : 0 ≤ u / v1 := Int.ediv_nonneg u0 (by omega)
  have hq1 : u / v1 ≤ u := Int.ediv_le_self _ u0
  have hq2 : u / v1 < 17179869184 := Int.ediv_lt_of_lt_mul (by omega) (by omega)
  obtain ⟨l0, l1⟩ := D.left
  rw [← hY] at D l0 l1
  generalize hQ : (u * 4294967296 + d) / Y = Q at *
  refine ⟨Q, u / v1, u % v1, u * 4294967296 + d - Q * Y, D, Int.tdiv_eq_ediv_of_nonneg u0, ?_, ?_, by omega, hq2, ?_, by omega, l0, l1⟩
  · rw [IntKind.wrap_u64]; omega
  · rw [Int.mul_comm] at hr
    generalize u / v1 * v1 = z at *
    simp only [IntKind.wrap_u64]; omega
  · generalize Q * Y = z at *
    simp only [IntKind.wrap_u64]; omega
theorem div64_big (h l y : Int) (hh : 0 < h) (h2 : h < y) (hl : Word l) (hy2 : y < 18446744073709551616) (w : World) :
    Calls Try.prog 56 #[.int .u64 h, .int .u64 l, .int .u64 y] w fun e w' => e = .returned (.tuple #[.int .u64 ((h * 18446744073709551616 + l) / y), .int .u64 ((h * 18446744073709551616 + l) % y)]) ∧ Fr w w' := by
  obtain ⟨b1, b2, b3, b4⟩ := bitLen_word y (by omega) hy2
  have hlz := fun w => lz64 y ⟨by omega, hy2⟩ w
  generalize Lib.bitLen y.toNat = b at *
  have hs : ((64 : Int) - (b : Int)).toNat = 64 - b := by omega
  have hs2 : ((64 : Int) - ((64 : Int) - (b : Int))).toNat = 64 - (64 - b) := by omega
  have hP := pow_pos' (64 - b)
  have hPb : (2 : Int) ^ b * 2 ^ (64 - b) = 18446744073709551616 := by rw [← Int.pow_add, Nat.add_sub_cancel' b2]; rfl
  have hPb1 : (2 : Int) ^ (b - 1) * 2 ^ (64 - b) = 9223372036854775808 := by
    rw [← Int.pow_add, show b - 1 + (64 - b) = 63 by omega]; rfl
  have hY1 : y * 2 ^ (64 - b) < 18446744073709551616 := by rw [← hPb]; exact Int.mul_lt_mul_of_pos_right b4 hP
  have hY0 : 9223372036854775808 ≤ y * 2 ^ (64 - b) := by rw [← hPb1]; exact Int.mul_le_mul_of_nonneg_right b3 (Int.le_of_lt hP)
  obtain ⟨s1, s2⟩ := shl_words (h * 18446744073709551616 + l) (64 - b) (by omega)
  have hhw : Word h := ⟨by omega, by omega⟩
  rw [hi_join h l hhw hl, lo_join h l hl] at s1
  rw [lo_join h l hl] at s2
  obtain ⟨l0, l1⟩ := hl
  have hap : (h * 18446744073709551616 + l) * 2 ^ (64 - b) < y * 2 ^ (64 - b) * 18446744073709551616 := by
    have e : y * 2 ^ (64 - b) * 18446744073709551616 = (y * 18446744073709551616) * 2 ^ (64 - b) := by rw [Int.mul_assoc, Int.mul_comm (2 ^ (64 - b)), ← Int.mul_assoc]
    rw [e]; exact Int.mul_lt_mul_of_pos_right (by omega) hP
  have hann : 0 ≤ (h * 18446744073709551616 + l) * 2 ^ (64 - b) := Int.mul_nonneg (by omega) (Int.le_of_lt hP)
  generalize hU : (h * 18446744073709551616 + l) * 2 ^ (64 - b) = U at *
  generalize hYY : y * 2 ^ (64 - b) = Y at *
  have hu : hi U = U / 18446744073709551616 := by unfold hi; omega
  have ht : lo U = U % 18446744073709551616 := rfl
  have EY : IntKind.u64.wrap (y * 2 ^ ((64 : Int) - (b : Int)).toNat) = Y := by rw [hs, hYY, IntKind.wrap_u64]; omega
  have Ev0 : bits .and .u64 Y 4294967295 = Y % 4294967296 := and_low32 Y (by omega) hY1
  have Eu : bits .or .u64 (IntKind.u64.wrap (h * 2 ^ ((64 : Int) - (b : Int)).toNat)) (l / 2 ^ ((64 : Int) - ((64 : Int) - (b : Int))).toNat) = hi U := by
    rw [hs, hs2, IntKind.wrap_u64]; exact s1
  have Et : IntKind.u64.wrap (l * 2 ^ ((64 : Int) - (b : Int)).toNat) = lo U := by rw [hs, IntKind.wrap_u64]; exact s2
  have tw := lo_word U
  have Ed0 : bits .and .u64 (lo U) 4294967295 = lo U % 4294967296 := and_low32 _ tw.1 tw.2
  have hYs : Y = Y / 4294967296 * 4294967296 + Y % 4294967296 := by omega
  obtain ⟨Q1, q, r, u2, D1, t1, t2, t3, t4, t5, t6, t7, t8, t9⟩ := digit_step (hi U) (Y / 4294967296) (Y % 4294967296) (lo U / 4294967296) Y hYs (by omega) (by omega) (by omega) (by omega) (by have := tw.1; omega) (by have := tw.2; omega) (by rw [hu]; omega) (by rw [hu]; omega)
  obtain ⟨Q0, q2, r2, R, D2, p1, p2, p3, p4, p5, p6, p7, p8, p9⟩ := digit_step u2 (Y / 4294967296) (Y % 4294967296) (lo U % 4294967296) Y hYs (by omega) (by omega) (by omega) (by omega) (by omega) (by omega) t8 t9
  have h3 := D1.q_lt; have h4 := D2.q_lt; have h5 := D1.q0; have h6 := D2.q0
  obtain ⟨g1, g2⟩ := two_digits U Y (2 ^ (64 - b)) y (h * 18446744073709551616 + l) Q1 Q0 u2 R (lo U / 4294967296) (lo U % 4294967296) (hi U) hP (by omega) hYY.symm hU.symm t7 p7 p8 p9 (by rw [hu]; omega)
  have hfin := div64_core h l y ((64 : Int) - (b : Int)) Y (Y / 4294967296) (Y % 4294967296) (hi U) (lo U) (lo U / 4294967296) (lo U % 4294967296) q r Q1 u2 q2 r2 Q0 R (R / 2 ^ (64 - b)) (Q1 * 4294967296 + Q0)
    hh h2 l0 l1 (by omega) hy2 (by omega) (by omega) (by rw [IntKind.wrap_u64]; omega) (by omega) EY rfl Ev0 Eu Et rfl Ed0 t1 t2 t3 D1 t4 t5 t6 p1 p2 p3 D2 p4 p5 (by simp only [IntKind.wrap_u64]; omega) p6 (by rw [hs]) hlz w
  rw [g1, g2] at hfin
  exact hfin
theorem div64_any (h l y : Int) (hh : 0 ≤ h) (h2 : h < y) (hl : Word l) (hy2 : y < 18446744073709551616) (w : World) :
    Calls Try.prog 56 #[.int .u64 h, .int .u64 l, .int .u64 y] w fun e w' => e = .returned (.tuple #[.int .u64 ((h * 18446744073709551616 + l) / y), .int .u64 ((h * 18446744073709551616 + l) % y)]) ∧ Fr w w' := by
  rcases (by omega : h = 0 ∨ 0 < h) with k | k
  · subst k
    have hd := div64_small l y hl (by omega) hy2 w
    rw [Int.zero_mul, Int.zero_add]
    exact hd
  · exact div64_big h l y k h2 hl hy2 w
end Go.Proofs.Ytglgbhlnfafhjaa
