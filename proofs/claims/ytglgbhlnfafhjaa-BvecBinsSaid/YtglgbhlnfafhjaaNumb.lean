/- Plain arithmetic of numbers of a width below 128 as two words; nothing of the program. -/
import Derived.Test.YtglgbhlnfafhjaaNum
namespace Go.Proofs.Ytglgbhlnfafhjaa
open Go.RowKit

def cutI (n : Nat) (v : Int) : Int := v % 2 ^ n
theorem two_pow_cast (n : Nat) : ((2 ^ n : Nat) : Int) = (2 : Int) ^ n := by simp
theorem pow_le128 (n : Nat) (h : n ≤ 128) : (2 : Int) ^ n ≤ 340282366920938463463374607431768211456 := by
  have e : (2 ^ n : Nat) ≤ 2 ^ 128 := Nat.pow_le_pow_right (by decide) h
  have := two_pow_cast n
  omega
theorem pow_dvd128 (n : Nat) (h : n ≤ 128) : (2 : Int) ^ n ∣ 340282366920938463463374607431768211456 :=
  ⟨2 ^ (128 - n), by rw [← Int.pow_add, Nat.add_sub_cancel' h]; rfl⟩
theorem cutI_mod (n : Nat) (h : n ≤ 128) (v : Int) : cutI n (v % 340282366920938463463374607431768211456) = cutI n v := Int.emod_emod_of_dvd _ (pow_dvd128 n h)
theorem cutI_lt (n : Nat) (v : Int) : 0 ≤ cutI n v ∧ cutI n v < 2 ^ n := ⟨Int.emod_nonneg _ (by have := pow_pos' n; omega), Int.emod_lt_of_pos _ (pow_pos' n)⟩
theorem cutI_small (n : Nat) (v : Int) (h0 : 0 ≤ v) (h1 : v < 2 ^ n) : cutI n v = v := Int.emod_eq_of_lt h0 h1
theorem mod128_small (v : Int) (h0 : 0 ≤ v) (h1 : v < 340282366920938463463374607431768211456) : v % 340282366920938463463374607431768211456 = v := Int.emod_eq_of_lt h0 h1
theorem landI_ones (n : Nat) (h : n ≤ 128) (v : Int) : landI v (2 ^ n - 1) = cutI n v := by
  have e : nat128 (2 ^ n - 1) = 2 ^ n - 1 := by
    have h1 := pow_pos' n; have h2 := pow_le128 n h; have h3 := two_pow_cast n
    unfold nat128; rw [mod128_small _ (by omega) (by omega)]; omega
  unfold landI
  rw [e, Nat.and_two_pow_sub_one_eq_mod, Int.natCast_emod, nat128_eq, two_pow_cast, ← cutI_mod n h]
  rfl
theorem hi_cut_congr {n : Nat} {a b : Int} (h : a = b) : cutI n a = cutI n b := by rw [h]

/-- Bits that are normal. -/
def Norm (W v : Int) : Prop := 1 ≤ W ∧ W ≤ 128 ∧ 0 ≤ v ∧ v < 2 ^ W.toNat
def normB (W v : Int) : Bool := decide (1 ≤ W ∧ W ≤ 128 ∧ v < 2 ^ W.toNat)
theorem Norm.lt128 {W v : Int} (h : Norm W v) : v < 340282366920938463463374607431768211456 := by
  obtain ⟨h1, h2, h3, h4⟩ := h
  have := pow_le128 W.toNat (by omega)
  omega
theorem norm_of {W v : Int} (h0 : 0 ≤ v) (h : normB W v = true) : Norm W v := by
  unfold normB at h; rw [decide_eq_true_iff] at h; exact ⟨h.1, h.2.1, h0, h.2.2⟩
theorem norm_to {W v : Int} (h : Norm W v) : normB W v = true := by
  unfold normB; rw [decide_eq_true_iff]; exact ⟨h.1, h.2.1, h.2.2.2⟩
theorem norm_cut {W : Int} (h0 : 1 ≤ W) (h1 : W ≤ 128) (v : Int) : Norm W (cutI W.toNat v) := ⟨h0, h1, (cutI_lt _ _).1, (cutI_lt _ _).2⟩
theorem hilo_inj {a b : Int} (a0 : 0 ≤ a) (a1 : a < 340282366920938463463374607431768211456) (b0 : 0 ≤ b) (b1 : b < 340282366920938463463374607431768211456) (h : hi a = hi b) (l : lo a = lo b) : a = b := by
  have := eq_of_hilo h l
  rwa [mod128_small _ a0 a1, mod128_small _ b0 b1] at this
theorem normB_eq (W v : Int) (h0 : 1 ≤ W) (h1 : W ≤ 128) (v0 : 0 ≤ v) (v1 : v < 340282366920938463463374607431768211456) :
    (hi v == hi (cutI W.toNat v) && lo v == lo (cutI W.toNat v)) = normB W v := by
  have hc := cutI_lt W.toNat v
  have hp := pow_le128 W.toNat (by omega)
  unfold normB
  by_cases h : v < 2 ^ W.toNat
  · rw [cutI_small _ _ v0 h]; simp [h0, h1, h]
  · have : ¬ (hi v = hi (cutI W.toNat v) ∧ lo v = lo (cutI W.toNat v)) := by
      rintro ⟨e1, e2⟩
      have := hilo_inj v0 v1 hc.1 (by omega) e1 e2
      omega
    rw [decide_eq_false (fun k => h k.2.2)]
    rw [Bool.and_eq_false_iff]
    by_cases e1 : hi v = hi (cutI W.toNat v)
    · right; rw [beq_eq_false_iff_ne]; exact fun e2 => this ⟨e1, e2⟩
    · left; rw [beq_eq_false_iff_ne]; exact e1

/-- The signed value. -/
def sgnI (W v : Int) : Int := if v < 2 ^ (W.toNat - 1) then v else v - 2 ^ W.toNat
theorem pow_pred (n : Nat) (h : 1 ≤ n) : (2 : Int) ^ n = 2 ^ (n - 1) * 2 := by
  obtain ⟨m, rfl⟩ : ∃ m, n = m + 1 := ⟨n - 1, by omega⟩
  rw [Nat.add_sub_cancel, Int.pow_succ]
theorem negB_shl (W v : Int) (h : Norm W v) : negB (v * 2 ^ (128 - W).toNat) = decide (¬ v < 2 ^ (W.toNat - 1)) := by
  obtain ⟨h1, h2, h3, h4⟩ := h
  have e : (128 - W).toNat = 128 - W.toNat := by omega
  have hs : (2 : Int) ^ W.toNat * 2 ^ (128 - W.toNat) = 340282366920938463463374607431768211456 := by
    rw [← Int.pow_add, Nat.add_sub_cancel' (by omega)]; rfl
  have hs2 : (2 : Int) ^ (W.toNat - 1) * 2 ^ (128 - W.toNat) = 170141183460469231731687303715884105728 := by
    have := pow_pred W.toNat (by omega)
    rw [this, Int.mul_right_comm] at hs
    omega
  have hQ := pow_pos' (128 - W.toNat)
  rw [e]
  have hlt : v * 2 ^ (128 - W.toNat) < 340282366920938463463374607431768211456 := by
    rw [← hs]; exact Int.mul_lt_mul_of_pos_right h4 hQ
  have hnn : 0 ≤ v * 2 ^ (128 - W.toNat) := Int.mul_nonneg h3 (Int.le_of_lt hQ)
  have hhi : hi (v * 2 ^ (128 - W.toNat)) = v * 2 ^ (128 - W.toNat) / 18446744073709551616 := hi_small _ hnn hlt
  unfold negB
  rw [hhi]
  apply decide_eq_decide.2
  constructor
  · intro k hlt2
    have := Int.mul_lt_mul_of_pos_right hlt2 hQ
    rw [hs2] at this
    omega
  · intro k
    have : 2 ^ (W.toNat - 1) ≤ v := by omega
    have := Int.mul_le_mul_of_nonneg_right this (Int.le_of_lt hQ)
    rw [hs2] at this
    omega
theorem lorI_high (n : Nat) (h : n ≤ 128) (v : Int) (h0 : 0 ≤ v) (h1 : v < 2 ^ n) : lorI v (-1 - (2 ^ n - 1)) = v - 2 ^ n + 340282366920938463463374607431768211456 := by
  have hp := pow_le128 n h; have hq := pow_pos' n; have hc := two_pow_cast n
  have e1 : nat128 v = v.toNat := by unfold nat128; rw [mod128_small _ h0 (by omega)]
  have e2 : (nat128 (-1 - (2 ^ n - 1)) : Int) = 340282366920938463463374607431768211456 - 2 ^ n := by
    rw [nat128_eq]; omega
  have hd : nat128 (-1 - (2 ^ n - 1)) % 2 ^ n = 0 := by
    have : ((nat128 (-1 - (2 ^ n - 1)) % 2 ^ n : Nat) : Int) = 0 := by
      rw [Int.natCast_emod, e2, hc]
      exact Int.emod_eq_zero_of_dvd (Int.dvd_sub (pow_dvd128 n h) (Int.dvd_refl _))
    omega
  unfold lorI
  rw [Nat.or_comm, nat_join n _ _ hd (by rw [e1]; omega), e1]
  omega
theorem hi_sgn (W v : Int) (h : Norm W v) (k : ¬ v < 2 ^ (W.toNat - 1)) : hi (lorI v (-1 - (2 ^ W.toNat - 1))) = hi (sgnI W v) ∧ lo (lorI v (-1 - (2 ^ W.toNat - 1))) = lo (sgnI W v) := by
  obtain ⟨h1, h2, h3, h4⟩ := h
  rw [lorI_high _ (by omega) _ h3 h4]
  unfold sgnI
  rw [if_neg k]
  exact ⟨hi_congr (by omega), lo_congr (by omega)⟩
theorem hi_int (n : Int) (h0 : -9223372036854775808 ≤ n) (h1 : n ≤ 9223372036854775807) : hi n = n / 9223372036854775808 % 18446744073709551616 ∧ lo n = n % 18446744073709551616 := by
  unfold hi lo; omega
end Go.Proofs.Ytglgbhlnfafhjaa
