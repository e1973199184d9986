/- Plain arithmetic of parts: what is put into bits, what is taken out; widening and cutting; nothing of the program. -/
import Derived.Test.YtglgbhlnfafhjaaNumb
namespace Go.Proofs.Ytglgbhlnfafhjaa
open Go.RowKit

theorem pow_dvd_pow' {m n : Nat} (h : m ≤ n) : (2 : Int) ^ m ∣ 2 ^ n := ⟨2 ^ (n - m), by rw [← Int.pow_add, Nat.add_sub_cancel' h]⟩
theorem pow_mono' {m n : Nat} (h : m ≤ n) : (2 : Int) ^ m ≤ 2 ^ n := by
  have e : (2 ^ m : Nat) ≤ 2 ^ n := Nat.pow_le_pow_right (by decide) h
  have h1 := two_pow_cast m; have h2 := two_pow_cast n
  omega
theorem cut_cut {m n : Nat} (h : m ≤ n) (t : Int) : cutI m (cutI n t) = cutI m t := Int.emod_emod_of_dvd _ (pow_dvd_pow' h)
theorem cut_sgn {W v : Int} (h : Norm W v) : cutI W.toNat (sgnI W v) = v := by
  obtain ⟨h1, h2, h3, h4⟩ := h
  unfold sgnI
  split
  · exact cutI_small _ _ h3 h4
  · unfold cutI; rw [Int.sub_emod_right]; exact Int.emod_eq_of_lt h3 h4
theorem sgn_range {W v : Int} (h : Norm W v) : -(2 ^ (W.toNat - 1)) ≤ sgnI W v ∧ sgnI W v < 2 ^ (W.toNat - 1) := by
  obtain ⟨h1, h2, h3, h4⟩ := h
  have hp := pow_pred W.toNat (by omega)
  have hq := pow_pos' (W.toNat - 1)
  unfold sgnI; split <;> omega
theorem sgn_of_cut (x t : Int) (h1 : 1 ≤ x) (h : -(2 ^ (x.toNat - 1)) ≤ t ∧ t < 2 ^ (x.toNat - 1)) : sgnI x (cutI x.toNat t) = t := by
  have hp := pow_pred x.toNat (by omega)
  have hq := pow_pos' (x.toNat - 1)
  unfold sgnI
  rcases (by omega : t < 0 ∨ 0 ≤ t) with k | k
  · have e : cutI x.toNat t = t + 2 ^ x.toNat := by
      unfold cutI; rw [← Int.add_emod_right]; exact Int.emod_eq_of_lt (by omega) (by omega)
    rw [e, if_neg (by omega)]; omega
  · rw [cutI_small _ _ k (by omega), if_pos h.2]
theorem sgn_wide {W v x : Int} (h : Norm W v) (hx : W ≤ x) : sgnI x (cutI x.toNat (sgnI W v)) = sgnI W v := by
  have h1 := h.1
  obtain ⟨r1, r2⟩ := sgn_range h
  have hm := pow_mono' (by omega : W.toNat - 1 ≤ x.toNat - 1)
  exact sgn_of_cut x _ (by omega) ⟨by omega, by omega⟩
theorem shrI_small (v : Int) (n : Nat) (h0 : 0 ≤ v) (h1 : v < 340282366920938463463374607431768211456) : shrI v n = v / 2 ^ n := by unfold shrI; rw [mod128_small _ h0 h1]

/-! Bit by bit. -/
theorem nat_of_int (v : Int) (h : 0 ≤ v) : ∃ n : Nat, v = (n : Int) := Int.eq_ofNat_of_zero_le h
/-- u put into v at place y. -/
def insN (v y X u : Nat) : Nat := (v &&& (2 ^ 128 - ((2 ^ X - 1) * 2 ^ y + 1))) ||| (u * 2 ^ y)
theorem insN_bit (v y X u i : Nat) (hX : y + X ≤ 128) (hu : u < 2 ^ X) (hv : v < 2 ^ 128) : (insN v y X u).testBit i = if y ≤ i ∧ i < y + X then u.testBit (i - y) else v.testBit i := by
  have hx : (2 ^ X - 1) * 2 ^ y < 2 ^ 128 := by
    have h1 : 2 ^ X * 2 ^ y ≤ 2 ^ 128 := by rw [← Nat.pow_add]; exact Nat.pow_le_pow_right (by decide) (by omega)
    have h2 : (2 ^ X - 1) * 2 ^ y < 2 ^ X * 2 ^ y := Nat.mul_lt_mul_of_pos_right (by have := Nat.two_pow_pos X; omega) (Nat.two_pow_pos y)
    omega
  unfold insN
  rw [Nat.testBit_or, Nat.testBit_and, Nat.testBit_two_pow_sub_succ hx, Nat.testBit_mul_two_pow, Nat.testBit_mul_two_pow, Nat.testBit_two_pow_sub_one]
  by_cases h1 : y ≤ i
  · by_cases h2 : i < y + X
    · have e1 : i < 128 := by omega
      have e2 : i - y < X := by omega
      simp [h1, h2, e1, e2]
    · have e2 : ¬ i - y < X := by omega
      have e3 : u.testBit (i - y) = false := Nat.testBit_lt_two_pow (Nat.lt_of_lt_of_le hu (Nat.pow_le_pow_right (by decide) (by omega)))
      by_cases e1 : i < 128
      · simp [h1, h2, e1, e2, e3]
      · have e4 : v.testBit i = false := Nat.testBit_lt_two_pow (Nat.lt_of_lt_of_le hv (Nat.pow_le_pow_right (by decide) (by omega)))
        simp [h1, h2, e1, e2, e3, e4]
  · by_cases e1 : i < 128
    · have e5 : ¬ (y ≤ i ∧ i < y + X) := fun k => h1 k.1
      simp [h1, e1]
    · omega
theorem insN_lt (v y X u W : Nat) (hX : y + X ≤ W) (hW : W ≤ 128) (hu : u < 2 ^ X) (hv : v < 2 ^ W) : insN v y X u < 2 ^ W := by
  have hv' : v < 2 ^ 128 := Nat.lt_of_lt_of_le hv (Nat.pow_le_pow_right (by decide) hW)
  apply Nat.lt_pow_two_of_testBit
  intro i hi
  rw [insN_bit v y X u i (by omega) hu hv', if_neg (by omega)]
  exact Nat.testBit_lt_two_pow (Nat.lt_of_lt_of_le hv (Nat.pow_le_pow_right (by decide) hi))
theorem insN_mid (v y X u : Nat) (hX : y + X ≤ 128) (hu : u < 2 ^ X) (hv : v < 2 ^ 128) : insN v y X u / 2 ^ y % 2 ^ X = u := by
  apply Nat.eq_of_testBit_eq
  intro i
  rw [Nat.testBit_mod_two_pow, Nat.testBit_div_two_pow, insN_bit v y X u _ hX hu hv]
  by_cases h : i < X
  · rw [if_pos (by omega)]; simp [h]
  · have e3 : u.testBit i = false := Nat.testBit_lt_two_pow (Nat.lt_of_lt_of_le hu (Nat.pow_le_pow_right (by decide) (by omega)))
    simp [h, e3]
theorem insN_low (v y X u : Nat) (hX : y + X ≤ 128) (hu : u < 2 ^ X) (hv : v < 2 ^ 128) : insN v y X u % 2 ^ y = v % 2 ^ y := by
  apply Nat.eq_of_testBit_eq
  intro i
  rw [Nat.testBit_mod_two_pow, Nat.testBit_mod_two_pow, insN_bit v y X u _ hX hu hv]
  by_cases h : i < y
  · rw [if_neg (by omega)]
  · simp [h]
theorem insN_high (v y X u : Nat) (hX : y + X ≤ 128) (hu : u < 2 ^ X) (hv : v < 2 ^ 128) : insN v y X u / 2 ^ (y + X) = v / 2 ^ (y + X) := by
  apply Nat.eq_of_testBit_eq
  intro i
  rw [Nat.testBit_div_two_pow, Nat.testBit_div_two_pow, insN_bit v y X u _ hX hu hv, if_neg (by omega)]
/-- What Insert reckons is insN. -/
theorem ins_eq (W v y X u : Int) (h : Norm W v) (k : Norm X u) (h0 : 0 ≤ y) (h1 : y ≤ W - X) :
    cutI W.toNat (lorI (landI v (-1 - (2 ^ X.toNat - 1) * 2 ^ y.toNat)) (u * 2 ^ y.toNat)) = ((insN v.toNat y.toNat X.toNat u.toNat : Nat) : Int) := by
  have hv := h.lt128; have hu := k.lt128
  obtain ⟨a1, a2, a3, a4⟩ := h
  obtain ⟨b1, b2, b3, b4⟩ := k
  obtain ⟨V, rfl⟩ := nat_of_int v a3
  obtain ⟨U, rfl⟩ := nat_of_int u b3
  have c1 := two_pow_cast X.toNat; have c2 := two_pow_cast y.toNat; have c3 := two_pow_cast W.toNat
  have hU : U < 2 ^ X.toNat := by omega
  have hV : V < 2 ^ W.toNat := by omega
  have hlt := insN_lt V y.toNat X.toNat U W.toNat (by omega) (by omega) hU hV
  have hx : (2 ^ X.toNat - 1) * 2 ^ y.toNat < 2 ^ 128 := by
    have g1 : 2 ^ X.toNat * 2 ^ y.toNat ≤ 2 ^ 128 := by rw [← Nat.pow_add]; exact Nat.pow_le_pow_right (by decide) (by omega)
    have g2 : (2 ^ X.toNat - 1) * 2 ^ y.toNat < 2 ^ X.toNat * 2 ^ y.toNat := Nat.mul_lt_mul_of_pos_right (by have := Nat.two_pow_pos X.toNat; omega) (Nat.two_pow_pos _)
    omega
  have eM : nat128 (-1 - (2 ^ X.toNat - 1) * 2 ^ y.toNat) = 2 ^ 128 - ((2 ^ X.toNat - 1) * 2 ^ y.toNat + 1) := by
    have e : ((2 : Int) ^ X.toNat - 1) * 2 ^ y.toNat = (((2 ^ X.toNat - 1) * 2 ^ y.toNat : Nat) : Int) := by
      rw [Int.natCast_mul, c2, Int.natCast_sub (Nat.two_pow_pos _), c1]; rfl
    rw [e]
    generalize (2 ^ X.toNat - 1) * 2 ^ y.toNat = z at *
    unfold nat128; omega
  have eV : nat128 (V : Int) = V := nat128_nat _ (by omega)
  have eS : nat128 ((U : Int) * 2 ^ y.toNat) = U * 2 ^ y.toNat := by
    have e : (U : Int) * 2 ^ y.toNat = ((U * 2 ^ y.toNat : Nat) : Int) := by rw [Int.natCast_mul, c2]
    rw [e]
    refine nat128_nat _ ?_
    have g1 : 2 ^ X.toNat * 2 ^ y.toNat ≤ 2 ^ 128 := by rw [← Nat.pow_add]; exact Nat.pow_le_pow_right (by decide) (by omega)
    have g2 : U * 2 ^ y.toNat < 2 ^ X.toNat * 2 ^ y.toNat := Nat.mul_lt_mul_of_pos_right hU (Nat.two_pow_pos _)
    omega
  have eL : nat128 (landI (V : Int) (-1 - (2 ^ X.toNat - 1) * 2 ^ y.toNat)) = V &&& (2 ^ 128 - ((2 ^ X.toNat - 1) * 2 ^ y.toNat + 1)) := by
    unfold landI; rw [eV, eM]
    exact nat128_nat _ (Nat.and_lt_two_pow _ (by omega))
  have : lorI (landI (V : Int) (-1 - (2 ^ X.toNat - 1) * 2 ^ y.toNat)) ((U : Int) * 2 ^ y.toNat) = ((insN V y.toNat X.toNat U : Nat) : Int) := by
    unfold lorI; rw [eL, eS]; rfl
  rw [this, Int.toNat_natCast, Int.toNat_natCast]
  exact cutI_small _ _ (by omega) (by omega)
/-- Joining: v above u. -/
theorem cat_eq (n : Nat) (v u : Int) (hv : 0 ≤ v) (hv2 : v * 2 ^ n < 340282366920938463463374607431768211456) (hu : 0 ≤ u) (hu2 : u < 2 ^ n) (hn : n ≤ 128) : lorI (v * 2 ^ n) u = v * 2 ^ n + u := by
  have hp := pow_le128 n hn; have hq := two_pow_cast n; have hpos := pow_pos' n
  have hnn : 0 ≤ v * 2 ^ n := Int.mul_nonneg hv (Int.le_of_lt hpos)
  have e1 : nat128 (v * 2 ^ n) = (v * 2 ^ n).toNat := by unfold nat128; rw [mod128_small _ hnn hv2]
  have e2 : nat128 u = u.toNat := by unfold nat128; rw [mod128_small _ hu (by omega)]
  have hd : (v * 2 ^ n).toNat % 2 ^ n = 0 := by
    have : (((v * 2 ^ n).toNat % 2 ^ n : Nat) : Int) = 0 := by
      rw [Int.natCast_emod, Int.toNat_of_nonneg hnn, hq]; exact Int.mul_emod_left _ _
    omega
  unfold lorI
  rw [e1, e2, nat_join n _ _ hd (by omega)]
  omega
end Go.Proofs.Ytglgbhlnfafhjaa
