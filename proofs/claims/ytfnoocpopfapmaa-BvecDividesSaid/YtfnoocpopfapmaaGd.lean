/- Contracts of package bvec's Int, FitsU, FitsS: every input. -/
import Derived.Test.YtfnoocpopfapmaaMidb
namespace Go.Proofs.Ytfnoocpopfapmaa
open Go.RowKit

set_option maxHeartbeats 4000000 in
theorem int_bad (W v : Int) (v0 : 0 ≤ v) (v1 : v < 340282366920938463463374607431768211456) (h : normB W v = false) (w : World) :
    Calls Try.prog 19 #[bv W v] w fun e w' => e = .returned (.tuple #[.int .i64 0, .bool false]) ∧ Fr w w' := by
  have H := Lib.hid h; clear h
  go_enter Try.func19, Try.ntmps19
  go_wp2_with fail
  refine (normal_any _ _ v0 v1 _).mono ?_
  rintro e w1 ⟨rfl, hb1⟩
  have hz1 := hb1.size
  (try simp at hz1)
  have z1_0 : w.heap.size < w1.heap.size := (by omega)
  have c1_0_0 := hb1.get (b := w.heap.size) (o := 0) (v := .int .i64 (W)) (by first | (simp [go_sem]; done) | (simp [go_sem, *]; done))
  have c1_0_1 := hb1.get (b := w.heap.size) (o := 1) (v := .int .u64 (hi (v))) (by first | (simp [go_sem]; done) | (simp [go_sem, *]; done))
  have c1_0_2 := hb1.get (b := w.heap.size) (o := 2) (v := .int .u64 (lo (v))) (by first | (simp [go_sem]; done) | (simp [go_sem, *]; done))
  clear hz1
  rw [H.out]
  go_wp2
  go_ret2
  exact ⟨rfl, by repeat (first | with_reducible exact Fr.refl _ | with_reducible apply Fr.drewN | with_reducible apply Fr.drew | with_reducible apply Fr.alloc | (with_reducible refine Fr.set ?_ (by simp; try omega) _) | (with_reducible refine Fr.call ?_ (by assumption)))⟩
theorem lo_wrap (s : Int) : lo (wrap64 (lo s)) = lo s := by unfold wrap64 lo; omega
theorem wrap64_bd (s : Int) : -9223372036854775808 ≤ wrap64 s ∧ wrap64 s ≤ 9223372036854775807 := by unfold wrap64; omega
theorem wrap_in (s : Int) (h0 : -9223372036854775808 ≤ s) (h1 : s ≤ 9223372036854775807) : wrap64 (lo s) = s := by unfold wrap64 lo; omega
theorem wrap_out (s : Int) (h0 : -170141183460469231731687303715884105728 ≤ s) (h1 : s < 170141183460469231731687303715884105728) (h : s < -9223372036854775808 ∨ 9223372036854775807 < s) : (hi s == hi (wrap64 (lo s))) = false := by
  rw [beq_eq_false_iff_ne]; unfold wrap64 hi lo; omega
theorem sgnI_bd {W v : Int} (h : Norm W v) : -170141183460469231731687303715884105728 ≤ sgnI W v ∧ sgnI W v < 170141183460469231731687303715884105728 := by
  obtain ⟨h1, h2, h3, h4⟩ := h
  have hp := pow_pred W.toNat (by omega)
  have hq := pow_le128 W.toNat (by omega)
  unfold sgnI; split <;> omega
set_option maxHeartbeats 4000000 in
theorem int_ok (W v : Int) (h : Norm W v) (s0 : -9223372036854775808 ≤ sgnI W v) (s1 : sgnI W v ≤ 9223372036854775807) (w : World) :
    Calls Try.prog 19 #[bv W v] w fun e w' => e = .returned (.tuple #[.int .i64 (sgnI W v), .bool true]) ∧ Fr w w' := by
  have HN := Lib.hid h
  obtain ⟨b1, b2⟩ := sgnI_bd h
  have H := Lib.hid (norm_to h); have hv := h.lt128; have hv0 := h.2.2.1; clear h
  obtain ⟨d1, d2⟩ := wrap64_bd (lo (sgnI W v))
  have E := Lib.hid (wrap_in _ s0 s1)
  have e1 : (hi (sgnI W v) == hi (wrap64 (lo (sgnI W v)))) = true := by rw [E.out]; exact beq_self_eq_true _
  have e2 : (lo (sgnI W v) == lo (wrap64 (lo (sgnI W v)))) = true := by rw [E.out]; exact beq_self_eq_true _
  go_enter Try.func19, Try.ntmps19
  go_wp2_with fail
  refine (normal_any _ _ hv0 hv _).mono ?_
  rintro e w1 ⟨rfl, hb1⟩
  have hz1 := hb1.size
  (try simp at hz1)
  have z1_0 : w.heap.size < w1.heap.size := (by omega)
  have c1_0_0 := hb1.get (b := w.heap.size) (o := 0) (v := .int .i64 (W)) (by first | (simp [go_sem]; done) | (simp [go_sem, *]; done))
  have c1_0_1 := hb1.get (b := w.heap.size) (o := 1) (v := .int .u64 (hi (v))) (by first | (simp [go_sem]; done) | (simp [go_sem, *]; done))
  have c1_0_2 := hb1.get (b := w.heap.size) (o := 2) (v := .int .u64 (lo (v))) (by first | (simp [go_sem]; done) | (simp [go_sem, *]; done))
  clear hz1
  rw [H.out]
  go_wp2_with fail
  refine (signed_any _ _ HN.out _).mono ?_
  rintro e w2 ⟨rfl, hb2⟩
  have hz2 := hb2.size
  (try simp at hz2)
  have z2_0 : w.heap.size < w2.heap.size := (by omega)
  have c2_0_0 := hb2.get (b := w.heap.size) (o := 0) (v := .int .i64 (W)) (by first | (simp [go_sem]; done) | (simp [go_sem, *]; done))
  have c2_0_1 := hb2.get (b := w.heap.size) (o := 1) (v := .int .u64 (hi (v))) (by first | (simp [go_sem]; done) | (simp [go_sem, *]; done))
  have c2_0_2 := hb2.get (b := w.heap.size) (o := 2) (v := .int .u64 (lo (v))) (by first | (simp [go_sem]; done) | (simp [go_sem, *]; done))
  clear hz2
  go_wp2_with fail
  go_region_held3 (fun w' => w'.cell? ⟨w2.heap.size, 0, none⟩ = some (.int .u64 (hi (sgnI W v))) ∧ w'.cell? ⟨w2.heap.size, 1, none⟩ = some (.int .u64 (lo (sgnI W v)))) (simp [go_sem, *])
    ((go_at_call 59; refine (fromInt_any _ (by assumption) (by assumption) _).mono ?_; rintro e w3 ⟨rfl, hb3⟩; have hz3 := hb3.size; (try simp at hz3); have z3_0 : w.heap.size < w3.heap.size := (by omega); have c3_0_0 := hb3.get (b := w.heap.size) (o := 0) (v := .int .i64 (W)) (by first | (simp [go_sem]; done) | (simp [go_sem, *]; done)); have c3_0_1 := hb3.get (b := w.heap.size) (o := 1) (v := .int .u64 (hi (v))) (by first | (simp [go_sem]; done) | (simp [go_sem, *]; done)); have c3_0_2 := hb3.get (b := w.heap.size) (o := 2) (v := .int .u64 (lo (v))) (by first | (simp [go_sem]; done) | (simp [go_sem, *]; done)); have z3_1 : w2.heap.size < w3.heap.size := (by omega); have c3_1_0 := hb3.get (b := w2.heap.size) (o := 0) (v := .int .u64 (hi (sgnI W v))) (by first | (simp [go_sem]; done) | (simp [go_sem, *]; done)); have c3_1_1 := hb3.get (b := w2.heap.size) (o := 1) (v := .int .u64 (lo (sgnI W v))) (by first | (simp [go_sem]; done) | (simp [go_sem, *]; done)); clear hz3))
  go_wp2
  go_ret2
  exact ⟨by rw [E.out]; rfl, by repeat (first | with_reducible exact Fr.refl _ | with_reducible apply Fr.drewN | with_reducible apply Fr.drew | with_reducible apply Fr.alloc | (with_reducible refine Fr.set ?_ (by simp; try omega) _) | (with_reducible refine Fr.call ?_ (by assumption)))⟩
set_option maxHeartbeats 4000000 in
theorem int_out (W v : Int) (h : Norm W v) (s0 : sgnI W v < -9223372036854775808 ∨ 9223372036854775807 < sgnI W v) (w : World) :
    Calls Try.prog 19 #[bv W v] w fun e w' => e = .returned (.tuple #[.int .i64 0, .bool false]) ∧ Fr w w' := by
  have HN := Lib.hid h
  obtain ⟨b1, b2⟩ := sgnI_bd h
  have H := Lib.hid (norm_to h); have hv := h.lt128; have hv0 := h.2.2.1; clear h
  obtain ⟨d1, d2⟩ := wrap64_bd (lo (sgnI W v))
  have e1 := wrap_out _ b1 b2 s0
  have e2 : (lo (sgnI W v) == lo (wrap64 (lo (sgnI W v)))) = true := by rw [lo_wrap]; exact beq_self_eq_true _
  clear s0
  go_enter Try.func19, Try.ntmps19
  go_wp2_with fail
  refine (normal_any _ _ hv0 hv _).mono ?_
  rintro e w1 ⟨rfl, hb1⟩
  have hz1 := hb1.size
  (try simp at hz1)
  have z1_0 : w.heap.size < w1.heap.size := (by omega)
  have c1_0_0 := hb1.get (b := w.heap.size) (o := 0) (v := .int .i64 (W)) (by first | (simp [go_sem]; done) | (simp [go_sem, *]; done))
  have c1_0_1 := hb1.get (b := w.heap.size) (o := 1) (v := .int .u64 (hi (v))) (by first | (simp [go_sem]; done) | (simp [go_sem, *]; done))
  have c1_0_2 := hb1.get (b := w.heap.size) (o := 2) (v := .int .u64 (lo (v))) (by first | (simp [go_sem]; done) | (simp [go_sem, *]; done))
  clear hz1
  rw [H.out]
  go_wp2_with fail
  refine (signed_any _ _ HN.out _).mono ?_
  rintro e w2 ⟨rfl, hb2⟩
  have hz2 := hb2.size
  (try simp at hz2)
  have z2_0 : w.heap.size < w2.heap.size := (by omega)
  have c2_0_0 := hb2.get (b := w.heap.size) (o := 0) (v := .int .i64 (W)) (by first | (simp [go_sem]; done) | (simp [go_sem, *]; done))
  have c2_0_1 := hb2.get (b := w.heap.size) (o := 1) (v := .int .u64 (hi (v))) (by first | (simp [go_sem]; done) | (simp [go_sem, *]; done))
  have c2_0_2 := hb2.get (b := w.heap.size) (o := 2) (v := .int .u64 (lo (v))) (by first | (simp [go_sem]; done) | (simp [go_sem, *]; done))
  clear hz2
  go_wp2_with fail
  go_region_held3 (fun w' => w'.cell? ⟨w2.heap.size, 0, none⟩ = some (.int .u64 (hi (sgnI W v))) ∧ w'.cell? ⟨w2.heap.size, 1, none⟩ = some (.int .u64 (lo (sgnI W v)))) (simp [go_sem, *])
    ((go_at_call 59; refine (fromInt_any _ (by assumption) (by assumption) _).mono ?_; rintro e w3 ⟨rfl, hb3⟩; have hz3 := hb3.size; (try simp at hz3); have z3_0 : w.heap.size < w3.heap.size := (by omega); have c3_0_0 := hb3.get (b := w.heap.size) (o := 0) (v := .int .i64 (W)) (by first | (simp [go_sem]; done) | (simp [go_sem, *]; done)); have c3_0_1 := hb3.get (b := w.heap.size) (o := 1) (v := .int .u64 (hi (v))) (by first | (simp [go_sem]; done) | (simp [go_sem, *]; done)); have c3_0_2 := hb3.get (b := w.heap.size) (o := 2) (v := .int .u64 (lo (v))) (by first | (simp [go_sem]; done) | (simp [go_sem, *]; done)); have z3_1 : w2.heap.size < w3.heap.size := (by omega); have c3_1_0 := hb3.get (b := w2.heap.size) (o := 0) (v := .int .u64 (hi (sgnI W v))) (by first | (simp [go_sem]; done) | (simp [go_sem, *]; done)); have c3_1_1 := hb3.get (b := w2.heap.size) (o := 1) (v := .int .u64 (lo (sgnI W v))) (by first | (simp [go_sem]; done) | (simp [go_sem, *]; done)); clear hz3))
  go_wp2
  go_ret2
  exact ⟨rfl, by repeat (first | with_reducible exact Fr.refl _ | with_reducible apply Fr.drewN | with_reducible apply Fr.drew | with_reducible apply Fr.alloc | (with_reducible refine Fr.set ?_ (by simp; try omega) _) | (with_reducible refine Fr.call ?_ (by assumption)))⟩
def fitsUB (n x : Int) : Bool := decide (1 ≤ x ∧ 0 ≤ n ∧ (64 ≤ x ∨ n < 2 ^ x.toNat))
def fitsSB (n x : Int) : Bool := decide (1 ≤ x ∧ (64 ≤ x ∨ (-(2 ^ (x.toNat - 1)) ≤ n ∧ n < 2 ^ (x.toNat - 1))))
theorem div_pow_zero (n : Int) (k : Nat) (h : 0 ≤ n) : (n / 2 ^ k == 0) = decide (n < 2 ^ k) := by
  have hp := pow_pos' k
  by_cases g : n < 2 ^ k
  · rw [Int.ediv_eq_zero_of_lt h g, decide_eq_true g]; rfl
  · rw [decide_eq_false g, beq_eq_false_iff_ne]
    have := Int.le_ediv_of_mul_le hp (by omega : 1 * 2 ^ k ≤ n)
    omega
theorem div_pow_s (n : Int) (k : Nat) : (n / 2 ^ k == 0 || n / 2 ^ k == -1) = decide (-(2 ^ k) ≤ n ∧ n < 2 ^ k) := by
  have hp := pow_pos' k
  have h1 := Int.emod_add_mul_ediv n (2 ^ k)
  have h2 := Int.emod_nonneg n (by omega : (2 : Int) ^ k ≠ 0)
  have h3 := Int.emod_lt_of_pos n hp
  by_cases e0 : n / 2 ^ k = 0
  · rw [e0, Int.mul_zero] at h1
    rw [e0, decide_eq_true (by omega)]; rfl
  · by_cases e1 : n / 2 ^ k = -1
    · rw [e1] at h1
      rw [e1, decide_eq_true (by omega)]; rfl
    · have g0 : (n / 2 ^ k == 0) = false := by rw [beq_eq_false_iff_ne]; exact e0
      have g1 : (n / 2 ^ k == -1) = false := by rw [beq_eq_false_iff_ne]; exact e1
      rw [g0, g1, decide_eq_false]
      · rfl
      · rintro ⟨k1, k2⟩
        rcases (by omega : n < 0 ∨ 0 ≤ n) with hn | hn
        · have : n / 2 ^ k < 0 := Int.ediv_neg_of_neg_of_pos hn hp
          have : -1 ≤ n / 2 ^ k := Int.le_ediv_of_mul_le hp (by omega)
          omega
        · exact e0 (Int.ediv_eq_zero_of_lt hn k2)
end Go.Proofs.Ytfnoocpopfapmaa
