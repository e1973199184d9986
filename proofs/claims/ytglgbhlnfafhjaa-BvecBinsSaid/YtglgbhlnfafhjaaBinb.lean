/- BvecBins: plain arithmetic of the operations on two; both packages answer the same bits, operation by operation. -/
import Derived.Test.YtglgbhlnfafhjaaRar
import Derived.Test.YtglgbhlnfafhjaaGda
import Derived.Test.YtglgbhlnfafhjaaDv
import Derived.Test.YtglgbhlnfafhjaaRbn
import Derived.Test.YtglgbhlnfafhjaaRbo
import Derived.Test.YtglgbhlnfafhjaaRbp
import Derived.Test.YtglgbhlnfafhjaaRbq
import Derived.Test.YtglgbhlnfafhjaaRbr
import Derived.Test.YtglgbhlnfafhjaaGh
import Derived.Test.YtglgbhlnfafhjaaGf
import Derived.Test.YtglgbhlnfafhjaaGk
import Derived.Test.YtglgbhlnfafhjaaGca
namespace Go.Proofs.Ytglgbhlnfafhjaa
open Go.RowKit

theorem div_lt_pow {n k : Nat} {v : Int} (v1 : v < 2 ^ n) (hk : k ≤ n) : v / 2 ^ k < 2 ^ (n - k) := by
  refine Int.ediv_lt_of_lt_mul (two_pos k) ?_
  rw [← two_add, Nat.sub_add_cancel hk]; exact v1
theorem div_nn {k : Nat} {v : Int} (v0 : 0 ≤ v) : 0 ≤ v / 2 ^ k := Int.ediv_nonneg v0 (by have := two_pos k; omega)
theorem fill_shr {n k : Nat} {v : Int} (b : Bool) (v0 : 0 ≤ v) (v1 : v < 2 ^ n) (hk : k ≤ n) : fillI (n - k) (v / 2 ^ k) b = v / 2 ^ k - (if b then 2 ^ (n - k) else 0) := by
  unfold fillI
  rw [Int.emod_eq_of_lt (div_nn v0) (div_lt_pow v1 hk)]
theorem shr_fill {n k : Nat} {v : Int} (v0 : 0 ≤ v) (v1 : v < 2 ^ n) (v2 : v < 340282366920938463463374607431768211456) (hk : k ≤ n) : fillI (n - k) (v / 2 ^ k) false % 2 ^ n = cutI n (shrI v k) := by
  rw [fill_shr false v0 v1 hk, shrI_small v k v0 v2, if_neg (by simp), Int.sub_zero]; rfl
theorem sgn_bit {n : Nat} {v : Int} (h : Norm n v) : bitI v (n - 1) = decide (¬ v < 2 ^ (n - 1)) := by
  obtain ⟨h1, h2, h3, h4⟩ := h
  rw [Int.toNat_natCast] at h4
  exact sign_bit (by omega) h3 h4
theorem sgn_neg {n : Nat} {v : Int} (h : Norm n v) : negB (sgnI n v) = bitI v (n - 1) := by
  obtain ⟨b0, b1⟩ := sgnI_bd h
  rw [negB_iff b0 b1, sgn_bit h]
  obtain ⟨h1, h2, h3, h4⟩ := h
  refine decide_eq_decide.2 ?_
  unfold sgnI
  rw [Int.toNat_natCast] at *
  split <;> omega
theorem sgn_pos {n : Nat} {v : Int} (h : Norm n v) (hb : bitI v (n - 1) = false) : sgnI n v = v := by
  rw [sgn_bit h] at hb
  unfold sgnI
  rw [Int.toNat_natCast, if_pos (by simpa using hb)]
theorem sgn_off {n : Nat} {v : Int} (h : Norm n v) (hb : bitI v (n - 1) = true) : sgnI n v = v - 2 ^ n := by
  rw [sgn_bit h] at hb
  unfold sgnI
  rw [Int.toNat_natCast, if_neg (by simpa using hb)]
theorem sar_fill {n k : Nat} {v : Int} (h : Norm n v) (hk : k ≤ n) (hb : bitI v (n - 1) = true) :
    fillI (n - k) (v / 2 ^ k) true % 2 ^ n = cutI n (lorI (shrI (sgnI n v) k) (-1 - (2 ^ (128 - k) - 1))) := by
  have hs := sgn_off h hb
  obtain ⟨b0, b1⟩ := sgnI_bd h
  have hv := h.lt128
  obtain ⟨h1, h2, h3, h4⟩ := h
  rw [Int.toNat_natCast] at h4
  rw [fill_shr true h3 h4 hk, if_pos rfl, hs] at *
  have e128 : (340282366920938463463374607431768211456 : Int) = 2 ^ k * 2 ^ (128 - k) := by
    rw [← two_add, Nat.add_sub_cancel' (by omega)]; rfl
  have eS : shrI (v - 2 ^ n) k = (v - 2 ^ n) / 2 ^ k + 2 ^ (128 - k) := by
    unfold shrI
    rw [show (v - 2 ^ n) % 340282366920938463463374607431768211456 = (v - 2 ^ n) + 340282366920938463463374607431768211456 by omega, e128, Int.add_mul_ediv_left _ _ (two_ne k)]
  have eD : (v - 2 ^ n) / 2 ^ k = v / 2 ^ k - 2 ^ (n - k) := by
    have e : v - 2 ^ n = v + 2 ^ k * (-(2 ^ (n - k))) := by
      rw [Int.mul_neg, ← two_add, Nat.add_sub_cancel' hk]; omega
    rw [e, Int.add_mul_ediv_left _ _ (two_ne k)]; omega
  have d0 := div_nn (k := k) h3
  have d1 := div_lt_pow h4 hk
  have p1 : (2 : Int) ^ (n - k) ≤ 2 ^ (128 - k) := two_le (by omega)
  rw [eS, lorI_high (128 - k) (by omega) _ (by omega) (by omega), eD]
  have e2 : v / 2 ^ k - 2 ^ (n - k) + 2 ^ (128 - k) - 2 ^ (128 - k) + 340282366920938463463374607431768211456 = (v / 2 ^ k - 2 ^ (n - k)) + 2 ^ n * 2 ^ (128 - n) := by
    rw [← two_add, Nat.add_sub_cancel' (by omega)]
    have : (2 : Int) ^ 128 = 340282366920938463463374607431768211456 := two_128
    omega
  unfold cutI
  rw [e2, Int.add_mul_emod_self_left]
theorem cat_join {m n : Nat} {v u : Int} (h : Norm n v) (k : Norm m u) (hmn : m + n ≤ 128) : joinI m u v % 2 ^ (m + n) = cutI (n + m) (lorI (v * 2 ^ m) u) := by
  obtain ⟨h1, h2, h3, h4⟩ := h
  obtain ⟨k1, k2, k3, k4⟩ := k
  rw [Int.toNat_natCast] at h4 k4
  have p := two_pos m
  have hlt : v * 2 ^ m < 2 ^ (n + m) := by
    rw [two_add]
    exact Int.mul_lt_mul_of_pos_right h4 p
  have hle : (2 : Int) ^ (n + m) ≤ 2 ^ 128 := two_le (by omega)
  rw [two_128] at hle
  rw [cat_eq m v u h3 (by omega) k3 k4 (by omega)]
  unfold joinI cutI
  rw [Int.emod_eq_of_lt k3 k4, Nat.add_comm m n, Int.mul_comm v, Int.add_comm u]
theorem abs_pos {n : Nat} {v : Int} (h : Norm n v) (hb : bitI v (n - 1) = false) : absI (sgnI n v) = v := by
  have hn := sgn_neg h
  unfold absI
  rw [hn, hb, if_neg (by simp), sgn_pos h hb]
theorem abs_off {n : Nat} {v : Int} (h : Norm n v) (hb : bitI v (n - 1) = true) : absI (sgnI n v) = (-v) % 2 ^ n := by
  have hn := sgn_neg h
  unfold absI
  rw [hn, hb, if_pos rfl, sgn_off h hb]
  rw [sgn_bit h] at hb
  have hb : ¬ v < 2 ^ (n - 1) := by simpa using hb
  obtain ⟨h1, h2, h3, h4⟩ := h
  rw [Int.toNat_natCast] at h4
  have p := two_pos (n - 1)
  have e : -v = (2 ^ n - v) + 2 ^ n * (-1) := by omega
  rw [e, Int.add_mul_emod_self_left, Int.emod_eq_of_lt (by omega) (by omega)]; omega
theorem lt_small {v u : Int} (v0 : 0 ≤ v) (v1 : v < 340282366920938463463374607431768211456) (u0 : 0 ≤ u) (u1 : u < 340282366920938463463374607431768211456) : ltB v u = decide (v < u) := by
  unfold ltB; rw [mod128_small v v0 v1, mod128_small u u0 u1]
theorem lt_off {n : Nat} {v u : Int} (h : Norm n v) (k : Norm n u) (hv : bitI v (n - 1) = true) (hu : bitI u (n - 1) = true) : ltB (sgnI n v) (sgnI n u) = decide (v < u) := by
  obtain ⟨b0, b1⟩ := sgnI_bd h
  obtain ⟨c0, c1⟩ := sgnI_bd k
  have en := sgn_neg h
  have em := sgn_neg k
  rw [hv] at en
  rw [hu] at em
  rw [negB_iff b0 b1] at en
  rw [negB_iff c0 c1] at em
  have en := of_decide_eq_true en
  have em := of_decide_eq_true em
  rw [sgn_off h hv] at *
  rw [sgn_off k hu] at *
  unfold ltB
  refine decide_eq_decide.2 ?_
  omega

/-- Both packages answer the same. -/
def Both (op W v X u : Int) : Prop := ∃ Z y : Int,
  (∀ w : World, Calls Try.prog 5 #[.int .i64 op, bv W v, bv X u] w fun e w' => e = .returned (bv Z y) ∧ Fr w w') ∧
  (∀ w : World, Calls Try.prog 6 #[.int .i64 op, bv W v, bv X u] w fun e w' => e = .returned (bv Z y) ∧ Fr w w')
theorem both_of {op W v X u Z y y' : Int} (h : ∀ w : World, Calls Try.prog 5 #[.int .i64 op, bv W v, bv X u] w fun e w' => e = .returned (bv Z y) ∧ Fr w w')
    (k : ∀ w : World, Calls Try.prog 6 #[.int .i64 op, bv W v, bv X u] w fun e w' => e = .returned (bv Z y') ∧ Fr w w') (e : y = y') : Both op W v X u := by
  subst e
  exact ⟨Z, y, h, k⟩
theorem lo_nat' (u : Int) : ∃ j : Nat, lo u = (j : Int) := ⟨(lo u).toNat, by unfold lo; omega⟩
theorem eq_false_of {b : Bool} (h : ¬ b = true) : b = false := by cases b <;> simp_all
theorem toNat_sub (j : Nat) : (128 - (j : Int)).toNat = 128 - j := by omega
section
variable {n m : Nat} {v u : Int}
theorem both_7 (h : Norm n v) (k : Norm m u) : Both 7 n v m u := by
  have h2 := h.2.1
  obtain ⟨j, hj⟩ := lo_nat' u
  by_cases e1 : (hi u == 0) = true
  · by_cases k1 : lo u < n
    · have hk : j ≤ n := by omega
      refine both_of (fun w => bin_7 n v m u _ h k (shift_7i n v m u h e1 (by omega) k1) w) (fun w => rbin_7i n m v u h k e1 k1 (v * 2 ^ j) (fun A c wx hr _ => by rw [hj]; exact rshl_any A n c j v (by omega) hk wx hr) w) ?_
      rw [hj, Int.toNat_natCast, Int.toNat_natCast]; rfl
    · refine both_of (fun w => bin_7 n v m u _ h k (shift_7l n v m u h e1 (by omega) (by omega)) w) (fun w => rbin_7l n m v u h k e1 (by omega) (v * 2 ^ n) (fun A c wx hr _ => rshl_any A n c n v (by omega) (Nat.le_refl _) wx hr) w) ?_
      rw [Int.toNat_natCast]; rfl
  · have e1 := eq_false_of e1
    refine both_of (fun w => bin_7 n v m u _ h k (shift_7h n v m u h e1) w) (fun w => rbin_7h n m v u h k e1 (v * 2 ^ n) (fun A c wx hr _ => rshl_any A n c n v (by omega) (Nat.le_refl _) wx hr) w) ?_
    rw [Int.toNat_natCast]; rfl
theorem both_8 (h : Norm n v) (k : Norm m u) : Both 8 n v m u := by
  have h2 := h.2.1
  have hv := h.lt128
  have h4 := h.2.2.2
  rw [Int.toNat_natCast] at h4
  obtain ⟨j, hj⟩ := lo_nat' u
  by_cases e1 : (hi u == 0) = true
  · by_cases k1 : lo u < n
    · have hk : j ≤ n := by omega
      refine both_of (fun w => bin_8 n v m u _ h k (shift_8i n v m u h e1 (by omega) k1) w) (fun w => rbin_8i n m v u h k e1 k1 _ (fun A c wx hr hc => by rw [hj]; exact rshr_any A n c j v (by omega) hk hc wx hr) w) ?_
      rw [hj, Int.toNat_natCast, Int.toNat_natCast, shr_fill h.2.2.1 h4 hv hk]
    · refine both_of (fun w => bin_8 n v m u _ h k (shift_8l n v m u h e1 (by omega) (by omega)) w) (fun w => rbin_8l n m v u h k e1 (by omega) _ (fun A c wx hr hc => rshr_any A n c n v (by omega) (Nat.le_refl _) hc wx hr) w) ?_
      rw [Int.toNat_natCast, shr_fill h.2.2.1 h4 hv (Nat.le_refl _)]
  · have e1 := eq_false_of e1
    refine both_of (fun w => bin_8 n v m u _ h k (shift_8h n v m u h e1) w) (fun w => rbin_8h n m v u h k e1 _ (fun A c wx hr hc => rshr_any A n c n v (by omega) (Nat.le_refl _) hc wx hr) w) ?_
    rw [Int.toNat_natCast, shr_fill h.2.2.1 h4 hv (Nat.le_refl _)]
theorem both_9 (h : Norm n v) (k : Norm m u) : Both 9 n v m u := by
  have h1 := h.1
  have h2 := h.2.1
  have hv := h.lt128
  have h4 := h.2.2.2
  rw [Int.toNat_natCast] at h4
  have hN := sgn_neg h
  obtain ⟨j, hj⟩ := lo_nat' u
  cases hb : bitI v (n - 1)
  · rw [hb] at hN
    have hs := sgn_pos h hb
    by_cases e1 : (hi u == 0) = true
    · by_cases k1 : lo u < n
      · have hk : j ≤ n := by omega
        refine both_of (fun w => bin_9 n v m u _ h k (shift_9ip n v m u h hN e1 (by omega) k1) w) (fun w => rbin_9i n m v u h k e1 k1 _ (fun A c wx hr hc => by rw [hj]; exact rsar_any A n c j v (by omega) (by omega) hk hc wx hr) w) ?_
        rw [hj, Int.toNat_natCast, Int.toNat_natCast, hs, hb, shr_fill h.2.2.1 h4 hv hk]
      · refine both_of (fun w => bin_9 n v m u _ h k (shift_9lp n v m u h hN e1 (by omega) (by omega)) w) (fun w => rbin_9l n m v u h k e1 (by omega) _ (fun A c wx hr hc => rsar_any A n c n v (by omega) (by omega) (Nat.le_refl _) hc wx hr) w) ?_
        rw [Int.toNat_natCast, hs, hb, shr_fill h.2.2.1 h4 hv (Nat.le_refl _)]
    · have e1 := eq_false_of e1
      refine both_of (fun w => bin_9 n v m u _ h k (shift_9hp n v m u h hN e1) w) (fun w => rbin_9h n m v u h k e1 _ (fun A c wx hr hc => rsar_any A n c n v (by omega) (by omega) (Nat.le_refl _) hc wx hr) w) ?_
      rw [Int.toNat_natCast, hs, hb, shr_fill h.2.2.1 h4 hv (Nat.le_refl _)]
  · rw [hb] at hN
    by_cases e1 : (hi u == 0) = true
    · by_cases k1 : lo u < n
      · have hk : j ≤ n := by omega
        refine both_of (fun w => bin_9 n v m u _ h k (shift_9in n v m u h hN e1 (by omega) k1) w) (fun w => rbin_9i n m v u h k e1 k1 _ (fun A c wx hr hc => by rw [hj]; exact rsar_any A n c j v (by omega) (by omega) hk hc wx hr) w) ?_
        rw [hj, Int.toNat_natCast, Int.toNat_natCast, toNat_sub, hb, sar_fill h hk hb]
      · refine both_of (fun w => bin_9 n v m u _ h k (shift_9ln n v m u h hN e1 (by omega) (by omega)) w) (fun w => rbin_9l n m v u h k e1 (by omega) _ (fun A c wx hr hc => rsar_any A n c n v (by omega) (by omega) (Nat.le_refl _) hc wx hr) w) ?_
        rw [Int.toNat_natCast, toNat_sub, hb, sar_fill h (Nat.le_refl _) hb]
    · have e1 := eq_false_of e1
      refine both_of (fun w => bin_9 n v m u _ h k (shift_9hn n v m u h hN e1) w) (fun w => rbin_9h n m v u h k e1 _ (fun A c wx hr hc => rsar_any A n c n v (by omega) (by omega) (Nat.le_refl _) hc wx hr) w) ?_
      rw [Int.toNat_natCast, toNat_sub, hb, sar_fill h (Nat.le_refl _) hb]
theorem both_17 (h : Norm n v) (k : Norm m u) : Both 17 n v m u := by
  by_cases hmn : m + n ≤ 128
  · have e : (((m + n : Nat) : Nat) : Int) = (n : Int) + (m : Int) := by omega
    have hr := fun w => rbin_17 n m v u h k hmn w
    rw [e, cat_join h k hmn] at hr
    refine both_of (fun w => bin_17 n v m u _ _ h k (cat_ok n v m u h k (by omega)) w) hr ?_
    rw [Int.toNat_natCast, show ((n : Int) + (m : Int)).toNat = n + m by omega]
  · exact both_of (fun w => bin_17 n v m u _ _ h k (cat_no n v m u h k (by omega)) w) (fun w => rbin_17no n m v u h k (by omega) w) rfl
variable {u : Int}
theorem both_10 (h : Norm n v) (k : Norm n u) : Both 10 n v n u := by
  have h4 := h.2.2.2
  have k4 := k.2.2.2
  have h1 := h.1
  have h2 := h.2.1
  rw [Int.toNat_natCast] at h4 k4
  by_cases hu : u = 0
  · subst hu
    refine both_of (fun w => bin10_zero n v h k w) (fun w => rbin_10 n v 0 h k (-1) v (fun A B c d wx ha hb hc hm => rdivide_zero A B n c d v 0 false (by omega) (by simp) hc hm wx ha hb) w) ?_
    rw [Int.toNat_natCast]; rfl
  · refine both_of (fun w => bin10_any n v u h k hu w) (fun w => rbin_10 n v u h k _ _ (fun A B c d wx ha hb hc hm => rdivide_u A B n c d v u (by omega) (by omega) h.2.2.1 h4 (by have := k.2.2.1; omega) k4 wx ha hb) w) ?_
    rw [Int.toNat_natCast]; rfl
theorem both_11 (h : Norm n v) (k : Norm n u) : Both 11 n v n u := by
  have h4 := h.2.2.2
  have k4 := k.2.2.2
  have h1 := h.1
  have h2 := h.2.1
  rw [Int.toNat_natCast] at h4 k4
  by_cases hu : u = 0
  · subst hu
    refine both_of (fun w => bin11_zero n v h k w) (fun w => rbin_11 n v 0 h k (-1) v (fun A B c d wx ha hb hc hm => rdivide_zero A B n c d v 0 false (by omega) (by simp) hc hm wx ha hb) w) ?_
    rw [Int.emod_eq_of_lt h.2.2.1 h4]
  · refine both_of (fun w => bin11_any n v u h k hu w) (fun w => rbin_11 n v u h k _ _ (fun A B c d wx ha hb hc hm => rdivide_u A B n c d v u (by omega) (by omega) h.2.2.1 h4 (by have := k.2.2.1; omega) k4 wx ha hb) w) ?_
    rw [Int.toNat_natCast]; rfl
/-- Signed quotients and rests, as the document reckons them. -/
theorem signed_div (h : Norm n v) (k : Norm n u) (hu : u ≠ 0) :
    ∀ A B c d wx, Rd bolv wx A (bitsI n v) → Rd bolv wx B (bitsI n u) → n ≤ c → c ≤ maxLen → Calls Try.prog 28 #[.slice A n c, .slice B n d, .bool true] wx fun e w' => AnsQR wx n (sq (sgnI n v) (sgnI n u)) (sr (sgnI n v) (sgnI n u)) e w' := by
  have h4 := h.2.2.2
  have k4 := k.2.2.2
  have h1 := h.1
  have h2 := h.2.1
  rw [Int.toNat_natCast] at h4 k4
  have k0 : 0 < u := by have := k.2.2.1; omega
  intro A B c d wx ha hb _ _
  unfold sq sr dsI
  rw [sgn_neg h, sgn_neg k]
  simp only [if_true, if_false, Bool.false_eq_true]
  cases hv : bitI v (n - 1) <;> cases hw : bitI u (n - 1)
  · simp only [abs_pos h hv, abs_pos k hw, bne_self_eq_false, if_false, Bool.false_eq_true]
    exact rdivide_pp A B n c d v u (by omega) (by omega) h.2.2.1 h4 k0 k4 hv hw wx ha hb
  · simp only [abs_pos h hv, abs_off k hw, show (false != true) = true from rfl, if_true, if_false, Bool.false_eq_true]
    exact rdivide_pn A B n c d v u (by omega) (by omega) h.2.2.1 h4 k0 k4 hv hw wx ha hb
  · simp only [abs_off h hv, abs_pos k hw, show (true != false) = true from rfl, if_true]
    exact rdivide_np A B n c d v u (by omega) (by omega) h.2.2.1 h4 k0 k4 hv hw wx ha hb
  · simp only [abs_off h hv, abs_off k hw, bne_self_eq_false, if_true, if_false, Bool.false_eq_true]
    exact rdivide_nn A B n c d v u (by omega) (by omega) h.2.2.1 h4 k0 k4 hv hw wx ha hb
theorem both_12 (h : Norm n v) (k : Norm n u) : Both 12 n v n u := by
  have h2 := h.2.1
  by_cases hu : u = 0
  · subst hu
    refine both_of (fun w => bin12_zero n v h k w) (fun w => rbin_12 n v 0 h k (-1) v (fun A B c d wx ha hb hc hm => rdivide_zero A B n c d v 0 true (by omega) (by simp) hc hm wx ha hb) w) ?_
    rw [Int.toNat_natCast]; rfl
  · refine both_of (fun w => bin12_any n v u h k hu w) (fun w => rbin_12 n v u h k _ _ (signed_div h k hu) w) ?_
    rw [Int.toNat_natCast]; rfl
theorem both_13 (h : Norm n v) (k : Norm n u) : Both 13 n v n u := by
  have h2 := h.2.1
  have h4 := h.2.2.2
  rw [Int.toNat_natCast] at h4
  by_cases hu : u = 0
  · subst hu
    refine both_of (fun w => bin13_zero n v h k w) (fun w => rbin_13 n v 0 h k (-1) v (fun A B c d wx ha hb hc hm => rdivide_zero A B n c d v 0 true (by omega) (by simp) hc hm wx ha hb) w) ?_
    rw [Int.emod_eq_of_lt h.2.2.1 h4]
  · refine both_of (fun w => bin13_any n v u h k hu w) (fun w => rbin_13 n v u h k _ _ (signed_div h k hu) w) ?_
    rw [Int.toNat_natCast]; rfl
theorem both_14 (h : Norm n v) (k : Norm n u) : Both 14 n v n u := by
  by_cases e1 : (hi v == hi u) = true
  · by_cases e2 : (lo v == lo u) = true
    · exact both_of (fun w => bin_14tt n v u h k e1 e2 w) (fun w => rbin_14tt n v u h k e1 e2 w) rfl
    · exact both_of (fun w => bin_14tf n v u h k e1 (eq_false_of e2) w) (fun w => rbin_14tf n v u h k e1 (eq_false_of e2) w) rfl
  · exact both_of (fun w => bin_14ff n v u h k (eq_false_of e1) w) (fun w => rbin_14ff n v u h k (eq_false_of e1) w) rfl
theorem both_15 (h : Norm n v) (k : Norm n u) : Both 15 n v n u :=
  both_of (fun w => bin_15 n v u h k w) (fun w => rbin_15 n v u h k w) (by rw [lt_small h.2.2.1 h.lt128 k.2.2.1 k.lt128])
theorem both_16 (h : Norm n v) (k : Norm n u) : Both 16 n v n u := by
  have b := fun w => bin_16 n v u h k w
  rw [sgn_neg h, sgn_neg k] at b
  cases hv : bitI v (n - 1) <;> cases hw : bitI u (n - 1) <;> rw [hv, hw] at b
  · refine both_of b (fun w => rbin_16ff n v u h k hv hw w) ?_
    rw [if_neg (by simp), sgn_pos h hv, sgn_pos k hw, lt_small h.2.2.1 h.lt128 k.2.2.1 k.lt128]
  · exact both_of b (fun w => rbin_16ft n v u h k hv hw w) (by rw [if_pos (by simp)])
  · exact both_of b (fun w => rbin_16tf n v u h k hv hw w) (by rw [if_pos (by simp)])
  · refine both_of b (fun w => rbin_16tt n v u h k hv hw w) ?_
    rw [if_neg (by simp), lt_off h k hv hw]
theorem both_same (op : Int) (h : Norm n v) (k : Norm n u) : Both op n v n u := by
  by_cases o1 : op = 1
  · subst o1; exact both_of (fun w => bin_add n v u h k w) (fun w => rbin_1 n v u h k w) (by rw [Int.toNat_natCast]; rfl)
  by_cases o2 : op = 2
  · subst o2; exact both_of (fun w => bin_sub n v u h k w) (fun w => rbin_2 n v u h k w) (by rw [Int.toNat_natCast]; rfl)
  by_cases o3 : op = 3
  · subst o3; exact both_of (fun w => bin_mul n v u h k w) (fun w => rbin_3 n v u h k w) (by rw [Int.toNat_natCast]; rfl)
  by_cases o4 : op = 4
  · subst o4; exact both_of (fun w => bin_and n v u h k w) (fun w => rbin_4 n v u h k w) (by rw [Int.toNat_natCast]; rfl)
  by_cases o5 : op = 5
  · subst o5; exact both_of (fun w => bin_or n v u h k w) (fun w => rbin_5 n v u h k w) (by rw [Int.toNat_natCast]; rfl)
  by_cases o6 : op = 6
  · subst o6; exact both_of (fun w => bin_xor n v u h k w) (fun w => rbin_6 n v u h k w) (by rw [Int.toNat_natCast]; rfl)
  by_cases o10 : op = 10
  · subst o10; exact both_10 h k
  by_cases o11 : op = 11
  · subst o11; exact both_11 h k
  by_cases o12 : op = 12
  · subst o12; exact both_12 h k
  by_cases o13 : op = 13
  · subst o13; exact both_13 h k
  by_cases o14 : op = 14
  · subst o14; exact both_14 h k
  by_cases o15 : op = 15
  · subst o15; exact both_15 h k
  by_cases o16 : op = 16
  · subst o16; exact both_16 h k
  by_cases o7 : op = 7
  · subst o7; exact both_7 h k
  by_cases o8 : op = 8
  · subst o8; exact both_8 h k
  by_cases o9 : op = 9
  · subst o9; exact both_9 h k
  by_cases o17 : op = 17
  · subst o17; exact both_17 h k
  exact both_of (fun w => bin_other op n v u h k (by simp [o7]) (by simp [o8]) (by simp [o9]) (by simp [o17]) (by simp [o1]) (by simp [o2]) (by simp [o3]) (by simp [o4]) (by simp [o5]) (by simp [o6]) (by simp [o10]) (by simp [o11]) (by simp [o12]) (by simp [o13]) (by simp [o14]) (by simp [o15]) (by simp [o16]) w)
    (fun w => rbin_other n v u h k op (by simp [o7]) (by simp [o8]) (by simp [o9]) (by simp [o17]) (by simp [o1]) (by simp [o2]) (by simp [o3]) (by simp [o4]) (by simp [o5]) (by simp [o6]) (by simp [o10]) (by simp [o11]) (by simp [o12]) (by simp [o13]) (by simp [o14]) (by simp [o15]) (by simp [o16]) w) rfl
theorem both_wide (op : Int) (h : Norm n v) (k : Norm m u) (hne : ¬ (n : Int) = (m : Int)) : Both op n v m u := by
  by_cases o7 : op = 7
  · subst o7; exact both_7 h k
  by_cases o8 : op = 8
  · subst o8; exact both_8 h k
  by_cases o9 : op = 9
  · subst o9; exact both_9 h k
  by_cases o17 : op = 17
  · subst o17; exact both_17 h k
  have e : ((n : Int) == (m : Int)) = false := beq_eq_false_iff_ne.2 hne
  exact both_of (fun w => bin_wide op n v m u h k e (by simp [o7]) (by simp [o8]) (by simp [o9]) (by simp [o17]) w) (fun w => rbin_wide n m v u h k op e (by simp [o7]) (by simp [o8]) (by simp [o9]) (by simp [o17]) w) rfl
end
theorem bin_both (op W v X u : Int) (v0 : 0 ≤ v) (v1 : v < 340282366920938463463374607431768211456) (u0 : 0 ≤ u) (u1 : u < 340282366920938463463374607431768211456) : Both op W v X u := by
  cases hb : normB W v
  · exact both_of (fun w => bin_bad1 op W v X u v0 v1 hb w) (fun w => rbin_bad1 op W v X u v0 v1 hb w) rfl
  · have h := norm_of v0 hb
    cases hc : normB X u
    · exact both_of (fun w => bin_bad2 op W v X u h u0 u1 hc w) (fun w => rbin_bad2 op W v X u h u0 u1 hc w) rfl
    · have k := norm_of u0 hc
      obtain ⟨n, rfl⟩ := Int.eq_ofNat_of_zero_le (show 0 ≤ W by have := h.1; omega)
      obtain ⟨m, rfl⟩ := Int.eq_ofNat_of_zero_le (show 0 ≤ X by have := k.1; omega)
      by_cases e : (n : Int) = (m : Int)
      · obtain rfl : n = m := by omega
        exact both_same op h k
      · exact both_wide op h k e
end Go.Proofs.Ytglgbhlnfafhjaa
