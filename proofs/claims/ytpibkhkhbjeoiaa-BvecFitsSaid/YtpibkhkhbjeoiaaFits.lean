/- BvecFits's walk: which numbers fit are just those that come back from their bits. -/
import Derived.Test.YtpibkhkhbjeoiaaFitr
import Derived.Test.YtpibkhkhbjeoiaaRingm
namespace Go.Proofs.Ytpibkhkhbjeoiaa
open Go.RowKit

theorem refU_any (n x : Int) (n0 : -9223372036854775808 ≤ n) (n1 : n ≤ 9223372036854775807) (x0 : -9223372036854775808 ≤ x) (x1 : x ≤ 9223372036854775807) (w : World) :
    Calls Try.prog 35 #[.int .i64 n, .int .i64 x] w fun e w' => e = .returned (.bool (fitsUB n x)) ∧ Fr w w' := by
  by_cases h : 1 ≤ x ∧ 0 ≤ n
  · exact refU_ok n x h.2 n1 h.1 x1 w
  · exact refU_no n x (by omega) w
theorem refS_any (n x : Int) (n0 : -9223372036854775808 ≤ n) (n1 : n ≤ 9223372036854775807) (x0 : -9223372036854775808 ≤ x) (x1 : x ≤ 9223372036854775807) (w : World) :
    Calls Try.prog 36 #[.int .i64 n, .int .i64 x] w fun e w' => e = .returned (.bool (fitsSB n x)) ∧ Fr w w' := by
  by_cases h : 1 ≤ x
  · by_cases k : 0 ≤ n
    · exact refS_pos n x k n1 h x1 w
    · exact refS_neg n x (by omega) n0 h x1 w
  · exact refS_no n x (by omega) w
theorem s_back (n x : Int) (n0 : -9223372036854775808 ≤ n) (n1 : n ≤ 9223372036854775807) (x0 : 1 ≤ x) (x1 : x ≤ 64) : (sgnI x (cutI x.toNat n) == n) = fitsSB n x := by
  have hn := norm_cut x0 (by omega : x ≤ 128) n
  have hr := sgn_range hn
  have e63 : (2 : Int) ^ 63 = 9223372036854775808 := rfl
  unfold fitsSB
  by_cases h : -(2 ^ (x.toNat - 1)) ≤ n ∧ n < 2 ^ (x.toNat - 1)
  · rw [sgn_of_cut x n x0 h, decide_eq_true ⟨x0, Or.inr h⟩]; exact beq_self_eq_true _
  · rw [decide_eq_false, beq_eq_false_iff_ne]
    · intro e; rw [e] at hr; exact h hr
    · rintro ⟨_, k | k⟩
      · have e : x.toNat - 1 = 63 := by omega
        rw [e, e63] at h; omega
      · exact h k
theorem u_back (n x : Int) (n1 : n ≤ 9223372036854775807) (x0 : 1 ≤ x) (x1 : x ≤ 64) : (cutI x.toNat n == n) = fitsUB n x := by
  have hc := cutI_lt x.toNat n
  have e64 : (2 : Int) ^ 64 = 18446744073709551616 := rfl
  unfold fitsUB
  by_cases h : 0 ≤ n ∧ n < 2 ^ x.toNat
  · rw [cutI_small _ _ h.1 h.2, decide_eq_true ⟨x0, h.1, Or.inr h.2⟩]; exact beq_self_eq_true _
  · rw [decide_eq_false, beq_eq_false_iff_ne]
    · intro e; rw [e] at hc; exact h hc
    · rintro ⟨_, k0, k | k⟩
      · have e : x.toNat = 64 := by omega
        rw [e, e64] at h; omega
      · exact h ⟨k0, k⟩
theorem int_narrow (x v : Int) (h : Norm x v) (x1 : x ≤ 64) (w : World) : Calls Try.prog 24 #[bv x v] w fun e w' => e = .returned (.tuple #[.int .i64 (sgnI x v), .bool true]) ∧ Fr w w' := by
  have hr := sgn_range h
  have hm := pow_mono' (by have := h.1; omega : x.toNat - 1 ≤ 63)
  have e63 : (2 : Int) ^ 63 = 9223372036854775808 := rfl
  exact int_ok x v h (by omega) (by omega) w
theorem norm128 (v : Int) (h0 : 0 ≤ v) (h1 : v < 18446744073709551616) : Norm 128 v ∧ cutI (128 : Int).toNat v = v ∧ sgnI 128 v = v := by
  have e128 : (2 : Int) ^ (128 : Int).toNat = 340282366920938463463374607431768211456 := rfl
  have e127 : (2 : Int) ^ ((128 : Int).toNat - 1) = 170141183460469231731687303715884105728 := rfl
  refine ⟨⟨by omega, by omega, h0, by rw [e128]; omega⟩, cutI_small _ _ h0 (by rw [e128]; omega), ?_⟩
  unfold sgnI; rw [if_pos (by rw [e127]; omega)]
set_option maxHeartbeats 4000000 in
theorem fits_low (HA : AliveC) (n x : Int) (n0 : -9223372036854775808 ≤ n) (n1 : n ≤ 9223372036854775807) (x0 : -9223372036854775808 ≤ x) (x1 : x ≤ 9223372036854775807) (h : x < 1) (w : World) :
    Calls Try.prog 8 #[.int .i64 n, .int .i64 x] w fun e w' => e = .returned (.bool true) ∧ Fr w w' := by
  have HA : Hid AliveC := Lib.hid HA
  have EU : Hid (fitsUB n x = false) := decide_eq_false (by omega)
  have ES : Hid (fitsSB n x = false) := decide_eq_false (by omega)
  go_enter Try.func8, Try.ntmps8
  go_wp2_with fail
  refine (HA.out _).mono ?_
  rintro e w1 ⟨rfl, hb1⟩
  go_wp2_with fail
  refine (fitsU_any _ _ n0 n1 x0 x1 _).mono ?_
  rintro e w2 ⟨rfl, hb2⟩
  rw [EU.out]
  go_wp2_with fail
  refine (fitsS_any _ _ n0 n1 x0 x1 _).mono ?_
  rintro e w3 ⟨rfl, hb3⟩
  rw [ES.out]
  go_wp2_with fail
  refine (refU_any _ _ n0 n1 x0 x1 _).mono ?_
  rintro e w4 ⟨rfl, hb4⟩
  rw [EU.out]
  go_wp2_with fail
  refine (refS_any _ _ n0 n1 x0 x1 _).mono ?_
  rintro e w5 ⟨rfl, hb5⟩
  rw [ES.out]
  go_wp2
  go_ret
  exact ⟨rfl, by repeat (first | with_reducible exact Fr.refl _ | with_reducible apply Fr.drewN | with_reducible apply Fr.drew | with_reducible apply Fr.alloc | (with_reducible refine Fr.set ?_ (by simp; try omega) _) | (with_reducible refine Fr.call ?_ (by assumption)))⟩
set_option maxHeartbeats 4000000 in
theorem fits_high_pos (HA : AliveC) (n x : Int) (n0 : -9223372036854775808 ≤ n) (n1 : n ≤ 9223372036854775807) (x0 : -9223372036854775808 ≤ x) (x1 : x ≤ 9223372036854775807) (h : 64 < x) (k : 0 ≤ n) (w : World) :
    Calls Try.prog 8 #[.int .i64 n, .int .i64 x] w fun e w' => e = .returned (.bool true) ∧ Fr w w' := by
  have HA : Hid AliveC := Lib.hid HA
  have EU : Hid (fitsUB n x = true) := decide_eq_true ⟨by omega, by omega, Or.inl (by omega)⟩
  have ES : Hid (fitsSB n x = true) := decide_eq_true ⟨by omega, Or.inl (by omega)⟩
  have g : decide (0 ≤ n) = true := by simp; omega
  go_enter Try.func8, Try.ntmps8
  go_wp2_with fail
  refine (HA.out _).mono ?_
  rintro e w1 ⟨rfl, hb1⟩
  go_wp2_with fail
  refine (fitsU_any _ _ n0 n1 x0 x1 _).mono ?_
  rintro e w2 ⟨rfl, hb2⟩
  rw [EU.out]
  go_wp2_with fail
  refine (fitsS_any _ _ n0 n1 x0 x1 _).mono ?_
  rintro e w3 ⟨rfl, hb3⟩
  rw [ES.out]
  go_wp2_with fail
  refine (refU_any _ _ n0 n1 x0 x1 _).mono ?_
  rintro e w4 ⟨rfl, hb4⟩
  rw [EU.out]
  go_wp2_with fail
  refine (refS_any _ _ n0 n1 x0 x1 _).mono ?_
  rintro e w5 ⟨rfl, hb5⟩
  rw [ES.out]
  go_wp2
  go_ret
  exact ⟨rfl, by repeat (first | with_reducible exact Fr.refl _ | with_reducible apply Fr.drewN | with_reducible apply Fr.drew | with_reducible apply Fr.alloc | (with_reducible refine Fr.set ?_ (by simp; try omega) _) | (with_reducible refine Fr.call ?_ (by assumption)))⟩
set_option maxHeartbeats 4000000 in
theorem fits_high_neg (HA : AliveC) (n x : Int) (n0 : -9223372036854775808 ≤ n) (n1 : n ≤ 9223372036854775807) (x0 : -9223372036854775808 ≤ x) (x1 : x ≤ 9223372036854775807) (h : 64 < x) (k : n < 0) (w : World) :
    Calls Try.prog 8 #[.int .i64 n, .int .i64 x] w fun e w' => e = .returned (.bool true) ∧ Fr w w' := by
  have HA : Hid AliveC := Lib.hid HA
  have EU : Hid (fitsUB n x = false) := decide_eq_false (by omega)
  have ES : Hid (fitsSB n x = true) := decide_eq_true ⟨by omega, Or.inl (by omega)⟩
  have g : decide (0 ≤ n) = false := by simp; omega
  go_enter Try.func8, Try.ntmps8
  go_wp2_with fail
  refine (HA.out _).mono ?_
  rintro e w1 ⟨rfl, hb1⟩
  go_wp2_with fail
  refine (fitsU_any _ _ n0 n1 x0 x1 _).mono ?_
  rintro e w2 ⟨rfl, hb2⟩
  rw [EU.out]
  go_wp2_with fail
  refine (fitsS_any _ _ n0 n1 x0 x1 _).mono ?_
  rintro e w3 ⟨rfl, hb3⟩
  rw [ES.out]
  go_wp2_with fail
  refine (refU_any _ _ n0 n1 x0 x1 _).mono ?_
  rintro e w4 ⟨rfl, hb4⟩
  rw [EU.out]
  go_wp2_with fail
  refine (refS_any _ _ n0 n1 x0 x1 _).mono ?_
  rintro e w5 ⟨rfl, hb5⟩
  rw [ES.out]
  go_wp2
  go_ret
  exact ⟨rfl, by repeat (first | with_reducible exact Fr.refl _ | with_reducible apply Fr.drewN | with_reducible apply Fr.drew | with_reducible apply Fr.alloc | (with_reducible refine Fr.set ?_ (by simp; try omega) _) | (with_reducible refine Fr.call ?_ (by assumption)))⟩
set_option maxHeartbeats 4000000 in
theorem fits_mid_in (HA : AliveC) (n x : Int) (n0 : -9223372036854775808 ≤ n) (n1 : n ≤ 9223372036854775807) (x0 : -9223372036854775808 ≤ x) (x1 : x ≤ 9223372036854775807) (h : 1 ≤ x) (h2 : x ≤ 64) (k : cutI x.toNat n ≤ 9223372036854775807) (w : World) :
    Calls Try.prog 8 #[.int .i64 n, .int .i64 x] w fun e w' => e = .returned (.bool true) ∧ Fr w w' := by
  have HA : Hid AliveC := Lib.hid HA
  have hs := s_back n x n0 n1 h h2
  have hu := u_back n x n1 h h2
  have HN := Lib.hid (norm_cut h (by omega : x ≤ 128) n)
  have hv : 0 ≤ cutI x.toNat n ∧ cutI x.toNat n < 18446744073709551616 := by
    have hc := cutI_lt x.toNat n
    have hm := pow_mono' (by omega : x.toNat ≤ 64)
    have e64 : (2 : Int) ^ 64 = 18446744073709551616 := rfl
    omega
  obtain ⟨q1, q2, q3⟩ := norm128 _ hv.1 hv.2
  have Q1 := Lib.hid q1; have Q2 := Lib.hid q2; have Q3 := Lib.hid q3; clear q1 q2 q3
  have KK := Lib.hid k
  have I2 : Hid (∀ w : World, Calls Try.prog 24 #[bv 128 (cutI x.toNat n)] w fun e w' => e = .returned (.tuple #[.int .i64 (cutI x.toNat n), .bool true]) ∧ Fr w w') := fun w => by
    have hh := int_ok 128 (cutI x.toNat n) Q1.out (by rw [Q3.out]; omega) (by rw [Q3.out]; exact k) w
    rw [Q3.out] at hh
    exact hh
  have Z2 : Hid (∀ w : World, Calls Try.prog 30 #[bv x (cutI x.toNat n), .int .i64 128] w fun e w' => e = .returned (bv 128 (cutI x.toNat n)) ∧ Fr w w') := fun w => by
    have hh := zext_ok x (cutI x.toNat n) 128 HN.out (by omega) (by omega) w
    rw [Q2.out] at hh
    exact hh
  clear k
  cases hS : fitsSB n x <;> cases hU : fitsUB n x
  all_goals
    have ES := Lib.hid hS
    have EU : Hid (fitsUB n x = _) := Lib.hid hU
    rw [hS] at hs
    rw [hU] at hu
    clear hS hU
    go_enter Try.func8, Try.ntmps8
    go_wp2_with fail
    refine (HA.out _).mono ?_
    rintro e w1 ⟨rfl, hb1⟩
    go_wp2_with fail
    refine (fitsU_any _ _ n0 n1 x0 x1 _).mono ?_
    rintro e w2 ⟨rfl, hb2⟩
    rw [EU.out]
    go_wp2_with fail
    refine (fitsS_any _ _ n0 n1 x0 x1 _).mono ?_
    rintro e w3 ⟨rfl, hb3⟩
    rw [ES.out]
    go_wp2_with fail
    refine (refU_any _ _ n0 n1 x0 x1 _).mono ?_
    rintro e w4 ⟨rfl, hb4⟩
    rw [EU.out]
    go_wp2_with fail
    refine (refS_any _ _ n0 n1 x0 x1 _).mono ?_
    rintro e w5 ⟨rfl, hb5⟩
    rw [ES.out]
    go_wp2_with fail
    refine (fromInt_ok x n h (by omega) n0 n1 _).mono ?_
    rintro e w6 ⟨rfl, hb6⟩
    go_wp2_with fail
    refine (int_narrow _ _ HN.out h2 _).mono ?_
    rintro e w7 ⟨rfl, hb7⟩
    go_wp2_with fail
    refine (fromInt_ok x n h (by omega) n0 n1 _).mono ?_
    rintro e w8 ⟨rfl, hb8⟩
    go_wp2_with fail
    refine (Z2.out _).mono ?_
    rintro e w9 ⟨rfl, hb9⟩
    go_wp2_with fail
    refine (I2.out _).mono ?_
    rintro e w10 ⟨rfl, hb10⟩
    go_wp2
    go_ret
    exact ⟨rfl, by repeat (first | with_reducible exact Fr.refl _ | with_reducible apply Fr.drewN | with_reducible apply Fr.drew | with_reducible apply Fr.alloc | (with_reducible refine Fr.set ?_ (by simp; try omega) _) | (with_reducible refine Fr.call ?_ (by assumption)))⟩
set_option maxHeartbeats 4000000 in
theorem fits_mid_out (HA : AliveC) (n x : Int) (n0 : -9223372036854775808 ≤ n) (n1 : n ≤ 9223372036854775807) (x0 : -9223372036854775808 ≤ x) (x1 : x ≤ 9223372036854775807) (h : 1 ≤ x) (h2 : x ≤ 64) (k : 9223372036854775807 < cutI x.toNat n) (w : World) :
    Calls Try.prog 8 #[.int .i64 n, .int .i64 x] w fun e w' => e = .returned (.bool true) ∧ Fr w w' := by
  have HA : Hid AliveC := Lib.hid HA
  have hs := s_back n x n0 n1 h h2
  have hu := u_back n x n1 h h2
  have HN := Lib.hid (norm_cut h (by omega : x ≤ 128) n)
  have hv : 0 ≤ cutI x.toNat n ∧ cutI x.toNat n < 18446744073709551616 := by
    have hc := cutI_lt x.toNat n
    have hm := pow_mono' (by omega : x.toNat ≤ 64)
    have e64 : (2 : Int) ^ 64 = 18446744073709551616 := rfl
    omega
  obtain ⟨q1, q2, q3⟩ := norm128 _ hv.1 hv.2
  have Q1 := Lib.hid q1; have Q2 := Lib.hid q2; have Q3 := Lib.hid q3; clear q1 q2 q3
  have hf : fitsUB n x = false := by
    rw [← hu, beq_eq_false_iff_ne]; omega
  have KK := Lib.hid k
  have I2 : Hid (∀ w : World, Calls Try.prog 24 #[bv 128 (cutI x.toNat n)] w fun e w' => e = .returned (.tuple #[.int .i64 0, .bool false]) ∧ Fr w w') := fun w => by
    exact int_out 128 (cutI x.toNat n) Q1.out (by rw [Q3.out]; omega) w
  have Z2 : Hid (∀ w : World, Calls Try.prog 30 #[bv x (cutI x.toNat n), .int .i64 128] w fun e w' => e = .returned (bv 128 (cutI x.toNat n)) ∧ Fr w w') := fun w => by
    have hh := zext_ok x (cutI x.toNat n) 128 HN.out (by omega) (by omega) w
    rw [Q2.out] at hh
    exact hh
  clear k
  cases hS : fitsSB n x
  all_goals
    have ES := Lib.hid hS
    have EU : Hid (fitsUB n x = _) := Lib.hid hf
    rw [hS] at hs
    rw [hf] at hu
    clear hS hf
    go_enter Try.func8, Try.ntmps8
    go_wp2_with fail
    refine (HA.out _).mono ?_
    rintro e w1 ⟨rfl, hb1⟩
    go_wp2_with fail
    refine (fitsU_any _ _ n0 n1 x0 x1 _).mono ?_
    rintro e w2 ⟨rfl, hb2⟩
    rw [EU.out]
    go_wp2_with fail
    refine (fitsS_any _ _ n0 n1 x0 x1 _).mono ?_
    rintro e w3 ⟨rfl, hb3⟩
    rw [ES.out]
    go_wp2_with fail
    refine (refU_any _ _ n0 n1 x0 x1 _).mono ?_
    rintro e w4 ⟨rfl, hb4⟩
    rw [EU.out]
    go_wp2_with fail
    refine (refS_any _ _ n0 n1 x0 x1 _).mono ?_
    rintro e w5 ⟨rfl, hb5⟩
    rw [ES.out]
    go_wp2_with fail
    refine (fromInt_ok x n h (by omega) n0 n1 _).mono ?_
    rintro e w6 ⟨rfl, hb6⟩
    go_wp2_with fail
    refine (int_narrow _ _ HN.out h2 _).mono ?_
    rintro e w7 ⟨rfl, hb7⟩
    go_wp2_with fail
    refine (fromInt_ok x n h (by omega) n0 n1 _).mono ?_
    rintro e w8 ⟨rfl, hb8⟩
    go_wp2_with fail
    refine (Z2.out _).mono ?_
    rintro e w9 ⟨rfl, hb9⟩
    go_wp2_with fail
    refine (I2.out _).mono ?_
    rintro e w10 ⟨rfl, hb10⟩
    go_wp2
    go_ret
    exact ⟨rfl, by repeat (first | with_reducible exact Fr.refl _ | with_reducible apply Fr.drewN | with_reducible apply Fr.drew | with_reducible apply Fr.alloc | (with_reducible refine Fr.set ?_ (by simp; try omega) _) | (with_reducible refine Fr.call ?_ (by assumption)))⟩
end Go.Proofs.Ytpibkhkhbjeoiaa
