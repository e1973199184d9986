/- The reference's FitsU and FitsS: halving until nothing is left. -/
import Derived.Test.YtpibkhkhbjeoiaaGd
import Derived.Test.YtpibkhkhbjeoiaaGa
import Derived.Test.YtpibkhkhbjeoiaaNumc
namespace Go.Proofs.Ytpibkhkhbjeoiaa
open Go.RowKit

theorem half_pow (n : Int) (k : Nat) : n / 2 ^ k / 2 = n / 2 ^ (k + 1) := by
  rw [Int.ediv_ediv_of_nonneg (Int.le_of_lt (pow_pos' k)), Int.pow_succ]
theorem half_bd (n : Int) (k : Nat) (h : 0 ≤ n) : 0 ≤ n / 2 ^ k ∧ n / 2 ^ k ≤ n := ⟨Int.ediv_nonneg h (Int.le_of_lt (pow_pos' k)), Int.ediv_le_self _ h⟩
theorem below_63 (n : Int) (k : Nat) (h : n < 9223372036854775808) (hk : 63 ≤ k) : n < 2 ^ k := by
  have := pow_mono' hk
  have e : (2 : Int) ^ 63 = 9223372036854775808 := rfl
  omega
theorem fitsU_exit (n x : Int) (k : Nat) (hx : 1 ≤ x) (n0 : 0 ≤ n) (n1 : n ≤ 9223372036854775807) (hk : (k : Int) ≤ x) (st : n / 2 ^ k = 0 ∨ (k : Int) = x) : (n / 2 ^ k == 0) = fitsUB n x := by
  rw [div_pow_zero _ _ n0]
  unfold fitsUB
  apply decide_eq_decide.2
  rcases st with st | st
  · have e := div_pow_zero n k n0
    rw [st] at e
    have hlt : n < 2 ^ k := of_decide_eq_true (by rw [← e]; rfl)
    have hm := pow_mono' (by omega : k ≤ x.toNat)
    exact ⟨fun _ => ⟨hx, n0, Or.inr (by omega)⟩, fun _ => hlt⟩
  · have e : x.toNat = k := by omega
    rw [e]
    constructor
    · intro h; exact ⟨hx, n0, Or.inr h⟩
    · rintro ⟨_, _, h | h⟩
      · exact below_63 n k (by omega) (by omega)
      · exact h
theorem fitsS_exit (n N x : Int) (k : Nat) (hx : 1 ≤ x) (hN : N = n ∧ 0 ≤ n ∨ N = -(n + 1) ∧ n < 0) (n0 : -9223372036854775808 ≤ n) (n1 : n ≤ 9223372036854775807) (hk : (k : Int) + 1 ≤ x) (st : N / 2 ^ k = 0 ∨ (k : Int) + 1 = x) : (N / 2 ^ k == 0) = fitsSB n x := by
  have N0 : 0 ≤ N := by omega
  rw [div_pow_zero _ _ N0]
  unfold fitsSB
  apply decide_eq_decide.2
  rcases st with st | st
  · have e := div_pow_zero N k N0
    rw [st] at e
    have hlt : N < 2 ^ k := of_decide_eq_true (by rw [← e]; rfl)
    have hm := pow_mono' (by omega : k ≤ x.toNat - 1)
    exact ⟨fun _ => ⟨hx, Or.inr (by omega)⟩, fun _ => hlt⟩
  · have e : x.toNat - 1 = k := by omega
    rw [e]
    constructor
    · intro h; exact ⟨hx, Or.inr (by omega)⟩
    · rintro ⟨_, h | h⟩
      · exact below_63 N k (by omega) (by omega)
      · omega
set_option maxHeartbeats 4000000 in
theorem refU_no (n x : Int) (h : x < 1 ∨ (1 ≤ x ∧ n < 0)) (w : World) :
    Calls Try.prog 35 #[.int .i64 n, .int .i64 x] w fun e w' => e = .returned (.bool (fitsUB n x)) ∧ Fr w w' := by
  have E : Hid (fitsUB n x = false) := decide_eq_false (by omega)
  rcases h with h | ⟨h, h2⟩
  all_goals
    go_enter Try.func35, Try.ntmps35
    go_wp2
    go_ret
    exact ⟨by rw [E.out]; rfl, by repeat (first | with_reducible exact Fr.refl _ | with_reducible apply Fr.drewN | with_reducible apply Fr.drew | with_reducible apply Fr.alloc | (with_reducible refine Fr.set ?_ (by simp; try omega) _) | (with_reducible refine Fr.call ?_ (by assumption)))⟩
set_option maxHeartbeats 4000000 in
theorem refU_ok (n x : Int) (n0 : 0 ≤ n) (n1 : n ≤ 9223372036854775807) (x0 : 1 ≤ x) (x1 : x ≤ 9223372036854775807) (w : World) :
    Calls Try.prog 35 #[.int .i64 n, .int .i64 x] w fun e w' => e = .returned (.bool (fitsUB n x)) ∧ Fr w w' := by
  go_enter Try.func35, Try.ntmps35
  go_wp2_with fail
  go_loop [0, 5] (fun a i => ∃ k : Nat, (k : Int) ≤ x ∧ i = .int .i64 ((k : Int)) ∧ a = .int .i64 (n / 2 ^ k)) (fun a _ => (intOf a).toNat)
  case atStart => exact ⟨0, by omega, rfl, by simp⟩
  case round =>
    obtain ⟨k, hk, rfl, rfl⟩ := hrel
    obtain ⟨m0, m1⟩ := half_bd (n) k (by omega)
    have hh := half_pow (n) k
    have hx := fun st => fitsU_exit n x k x0 n0 n1 hk st
    generalize hm : (n) / 2 ^ k = m at *
    have HM := Lib.hid hm; have HH := Lib.hid hh; have HX := Lib.hid hx; clear hm hh hx
    by_cases c1 : (k : Int) < x
    · by_cases c2 : 0 < m
      · go_wp2_with fail
        go_round
        case rel => exact ⟨k + 1, by omega, by go_num, by rw [HH.out]⟩
        case measure => simp [intOf]; omega
      · have c3 : m = 0 := by omega
        have HE := Lib.hid (HX.out (Or.inl c3))
        clear c3
        go_wp2
        go_ret
        exact ⟨by rw [← HE.out]; rfl, by repeat (first | with_reducible exact Fr.refl _ | with_reducible apply Fr.drewN | with_reducible apply Fr.drew | with_reducible apply Fr.alloc | (with_reducible refine Fr.set ?_ (by simp; try omega) _) | (with_reducible refine Fr.call ?_ (by assumption)))⟩
    · have HE := Lib.hid (HX.out (Or.inr (by omega)))
      go_wp2
      go_ret
      exact ⟨by rw [← HE.out]; rfl, by repeat (first | with_reducible exact Fr.refl _ | with_reducible apply Fr.drewN | with_reducible apply Fr.drew | with_reducible apply Fr.alloc | (with_reducible refine Fr.set ?_ (by simp; try omega) _) | (with_reducible refine Fr.call ?_ (by assumption)))⟩
set_option maxHeartbeats 4000000 in
theorem refS_no (n x : Int) (h : x < 1) (w : World) :
    Calls Try.prog 36 #[.int .i64 n, .int .i64 x] w fun e w' => e = .returned (.bool (fitsSB n x)) ∧ Fr w w' := by
  have E : Hid (fitsSB n x = false) := decide_eq_false (by omega)
  go_enter Try.func36, Try.ntmps36
  go_wp2
  go_ret
  exact ⟨by rw [E.out]; rfl, by repeat (first | with_reducible exact Fr.refl _ | with_reducible apply Fr.drewN | with_reducible apply Fr.drew | with_reducible apply Fr.alloc | (with_reducible refine Fr.set ?_ (by simp; try omega) _) | (with_reducible refine Fr.call ?_ (by assumption)))⟩
set_option maxHeartbeats 4000000 in
theorem refS_pos (n x : Int) (n0 : 0 ≤ n) (n1 : n ≤ 9223372036854775807) (x0 : 1 ≤ x) (x1 : x ≤ 9223372036854775807) (w : World) :
    Calls Try.prog 36 #[.int .i64 n, .int .i64 x] w fun e w' => e = .returned (.bool (fitsSB n x)) ∧ Fr w w' := by
  go_enter Try.func36, Try.ntmps36
  go_wp2_with fail
  go_loop [0, 5] (fun a i => ∃ k : Nat, (k : Int) + 1 ≤ x ∧ i = .int .i64 ((k : Int) + 1) ∧ a = .int .i64 (n / 2 ^ k)) (fun a _ => (intOf a).toNat)
  case atStart => exact ⟨0, by omega, rfl, by simp⟩
  case round =>
    obtain ⟨k, hk, rfl, rfl⟩ := hrel
    obtain ⟨m0, m1⟩ := half_bd (n) k (by omega)
    have hh := half_pow (n) k
    have hx := fun st => fitsS_exit n n x k x0 (Or.inl ⟨rfl, n0⟩) (by omega) n1 hk st
    generalize hm : (n) / 2 ^ k = m at *
    have HM := Lib.hid hm; have HH := Lib.hid hh; have HX := Lib.hid hx; clear hm hh hx
    by_cases c1 : (k : Int) + 1 < x
    · by_cases c2 : 0 < m
      · go_wp2_with fail
        go_round
        case rel => exact ⟨k + 1, by omega, by go_num, by rw [HH.out]⟩
        case measure => simp [intOf]; omega
      · have c3 : m = 0 := by omega
        have HE := Lib.hid (HX.out (Or.inl c3))
        clear c3
        go_wp2
        go_ret
        exact ⟨by rw [← HE.out]; rfl, by repeat (first | with_reducible exact Fr.refl _ | with_reducible apply Fr.drewN | with_reducible apply Fr.drew | with_reducible apply Fr.alloc | (with_reducible refine Fr.set ?_ (by simp; try omega) _) | (with_reducible refine Fr.call ?_ (by assumption)))⟩
    · have HE := Lib.hid (HX.out (Or.inr (by omega)))
      go_wp2
      go_ret
      exact ⟨by rw [← HE.out]; rfl, by repeat (first | with_reducible exact Fr.refl _ | with_reducible apply Fr.drewN | with_reducible apply Fr.drew | with_reducible apply Fr.alloc | (with_reducible refine Fr.set ?_ (by simp; try omega) _) | (with_reducible refine Fr.call ?_ (by assumption)))⟩
set_option maxHeartbeats 4000000 in
theorem refS_neg (n x : Int) (n0 : n < 0) (n1 : -9223372036854775808 ≤ n) (x0 : 1 ≤ x) (x1 : x ≤ 9223372036854775807) (w : World) :
    Calls Try.prog 36 #[.int .i64 n, .int .i64 x] w fun e w' => e = .returned (.bool (fitsSB n x)) ∧ Fr w w' := by
  go_enter Try.func36, Try.ntmps36
  go_wp2_with fail
  go_loop [0, 5] (fun a i => ∃ k : Nat, (k : Int) + 1 ≤ x ∧ i = .int .i64 ((k : Int) + 1) ∧ a = .int .i64 ((-(n + 1)) / 2 ^ k)) (fun a _ => (intOf a).toNat)
  case atStart => exact ⟨0, by omega, rfl, by simp⟩
  case round =>
    obtain ⟨k, hk, rfl, rfl⟩ := hrel
    obtain ⟨m0, m1⟩ := half_bd ((-(n + 1))) k (by omega)
    have hh := half_pow ((-(n + 1))) k
    have hx := fun st => fitsS_exit n (-(n + 1)) x k x0 (Or.inr ⟨rfl, n0⟩) n1 (by omega) hk st
    generalize hm : ((-(n + 1))) / 2 ^ k = m at *
    have HM := Lib.hid hm; have HH := Lib.hid hh; have HX := Lib.hid hx; clear hm hh hx
    by_cases c1 : (k : Int) + 1 < x
    · by_cases c2 : 0 < m
      · go_wp2_with fail
        go_round
        case rel => exact ⟨k + 1, by omega, by go_num, by rw [HH.out]⟩
        case measure => simp [intOf]; omega
      · have c3 : m = 0 := by omega
        have HE := Lib.hid (HX.out (Or.inl c3))
        clear c3
        go_wp2
        go_ret
        exact ⟨by rw [← HE.out]; rfl, by repeat (first | with_reducible exact Fr.refl _ | with_reducible apply Fr.drewN | with_reducible apply Fr.drew | with_reducible apply Fr.alloc | (with_reducible refine Fr.set ?_ (by simp; try omega) _) | (with_reducible refine Fr.call ?_ (by assumption)))⟩
    · have HE := Lib.hid (HX.out (Or.inr (by omega)))
      go_wp2
      go_ret
      exact ⟨by rw [← HE.out]; rfl, by repeat (first | with_reducible exact Fr.refl _ | with_reducible apply Fr.drewN | with_reducible apply Fr.drew | with_reducible apply Fr.alloc | (with_reducible refine Fr.set ?_ (by simp; try omega) _) | (with_reducible refine Fr.call ?_ (by assumption)))⟩
end Go.Proofs.Ytpibkhkhbjeoiaa
