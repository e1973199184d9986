/- Contracts of package bvec's Bin, each operation under the contract of what it calls. -/
import Derived.Test.YtglgbhlnfafhjaaMidb
import Derived.Test.YtglgbhlnfafhjaaGe
namespace Go.Proofs.Ytglgbhlnfafhjaa
open Go.RowKit

def b01 (b : Bool) : Int := if b then 1 else 0
theorem truth_to (b : Bool) (w : World) : Calls Try.prog 17 #[.bool b] w fun e w' => e = .returned (bv 1 (b01 b)) ∧ Fr w w' := truth_any b w
set_option maxHeartbeats 4000000 in
theorem bin_10 (W v u z : Int) (h : Norm W v) (k : Norm W u) (hd : ∀ w : World, Calls Try.prog 14 #[.bool true, .int .i64 W, wv v, wv u] w fun e w' => e = .returned (bv W z) ∧ Fr w w') (w : World) :
    Calls Try.prog 5 #[.int .i64 10, bv W v, bv W u] w fun e w' => e = .returned (bv W z) ∧ Fr w w' := by
  have HD := Lib.hid hd; clear hd
  have HN := Lib.hid h; have KN := Lib.hid k
  have H := Lib.hid (norm_to h); have hv := h.lt128; have hv0 := h.2.2.1; have hw1 := h.1; have hw2 := h.2.1; clear h
  have K := Lib.hid (norm_to k); have hu := k.lt128; have hu0 := k.2.2.1; clear k
  go_enter Try.func5, Try.ntmps5
  go_wp2_with fail
  refine (normal_any _ _ hv0 hv _).mono ?_
  rintro e w1 ⟨rfl, hb1⟩
  have hz1 := hb1.size
  (try simp at hz1)
  have z1_0 : w.heap.size < w1.heap.size := (by omega)
  have c1_0_0 := hb1.get (b := w.heap.size) (o := 0) (v := .int .i64 (W)) (by first | (simp [go_sem]; done) | (simp [go_sem, *]; done))
  have c1_0_1 := hb1.get (b := w.heap.size) (o := 1) (v := .int .u64 (hi (v))) (by first | (simp [go_sem]; done) | (simp [go_sem, *]; done))
  have c1_0_2 := hb1.get (b := w.heap.size) (o := 2) (v := .int .u64 (lo (v))) (by first | (simp [go_sem]; done) | (simp [go_sem, *]; done))
  have z1_1 : w.heap.size + 1 < w1.heap.size := (by omega)
  have c1_1_0 := hb1.get (b := w.heap.size + 1) (o := 0) (v := .int .i64 (W)) (by first | (simp [go_sem]; done) | (simp [go_sem, *]; done))
  have c1_1_1 := hb1.get (b := w.heap.size + 1) (o := 1) (v := .int .u64 (hi (u))) (by first | (simp [go_sem]; done) | (simp [go_sem, *]; done))
  have c1_1_2 := hb1.get (b := w.heap.size + 1) (o := 2) (v := .int .u64 (lo (u))) (by first | (simp [go_sem]; done) | (simp [go_sem, *]; done))
  have z1_2 : w.heap.size + 1 + 1 < w1.heap.size := (by omega)
  have c1_2_0 := hb1.get (b := w.heap.size + 1 + 1) (o := 0) (v := .int .i64 0) (by first | (simp [go_sem]; done) | (simp [go_sem, *]; done))
  have f1_2_0 := hb1.free (b := w.heap.size + 1 + 1) (o := 0) (v := .int .i64 0) (by first | (simp [go_sem]; done) | (simp [go_sem, *]; done)) (by first | (simp [go_sem]; done) | (simp [go_sem, *]; done))
  have c1_2_1 := hb1.get (b := w.heap.size + 1 + 1) (o := 1) (v := .int .u64 0) (by first | (simp [go_sem]; done) | (simp [go_sem, *]; done))
  have f1_2_1 := hb1.free (b := w.heap.size + 1 + 1) (o := 1) (v := .int .u64 0) (by first | (simp [go_sem]; done) | (simp [go_sem, *]; done)) (by first | (simp [go_sem]; done) | (simp [go_sem, *]; done))
  have c1_2_2 := hb1.get (b := w.heap.size + 1 + 1) (o := 2) (v := .int .u64 0) (by first | (simp [go_sem]; done) | (simp [go_sem, *]; done))
  have f1_2_2 := hb1.free (b := w.heap.size + 1 + 1) (o := 2) (v := .int .u64 0) (by first | (simp [go_sem]; done) | (simp [go_sem, *]; done)) (by first | (simp [go_sem]; done) | (simp [go_sem, *]; done))
  clear hz1
  rw [H.out]
  go_wp2_with fail
  refine (normal_any _ _ hu0 hu _).mono ?_
  rintro e w2 ⟨rfl, hb2⟩
  have hz2 := hb2.size
  (try simp at hz2)
  have z2_0 : w.heap.size < w2.heap.size := (by omega)
  have c2_0_0 := hb2.get (b := w.heap.size) (o := 0) (v := .int .i64 (W)) (by first | with_reducible exact c1_0_0 | (simp [go_sem]; done) | (simp [go_sem, *]; done))
  have c2_0_1 := hb2.get (b := w.heap.size) (o := 1) (v := .int .u64 (hi (v))) (by first | with_reducible exact c1_0_1 | (simp [go_sem]; done) | (simp [go_sem, *]; done))
  have c2_0_2 := hb2.get (b := w.heap.size) (o := 2) (v := .int .u64 (lo (v))) (by first | with_reducible exact c1_0_2 | (simp [go_sem]; done) | (simp [go_sem, *]; done))
  have z2_1 : w.heap.size + 1 < w2.heap.size := (by omega)
  have c2_1_0 := hb2.get (b := w.heap.size + 1) (o := 0) (v := .int .i64 (W)) (by first | with_reducible exact c1_1_0 | (simp [go_sem]; done) | (simp [go_sem, *]; done))
  have c2_1_1 := hb2.get (b := w.heap.size + 1) (o := 1) (v := .int .u64 (hi (u))) (by first | with_reducible exact c1_1_1 | (simp [go_sem]; done) | (simp [go_sem, *]; done))
  have c2_1_2 := hb2.get (b := w.heap.size + 1) (o := 2) (v := .int .u64 (lo (u))) (by first | with_reducible exact c1_1_2 | (simp [go_sem]; done) | (simp [go_sem, *]; done))
  have z2_2 : w.heap.size + 1 + 1 < w2.heap.size := (by omega)
  have c2_2_0 := hb2.get (b := w.heap.size + 1 + 1) (o := 0) (v := .int .i64 0) (by first | with_reducible exact c1_2_0 | (simp [go_sem]; done) | (simp [go_sem, *]; done))
  have f2_2_0 := hb2.free (b := w.heap.size + 1 + 1) (o := 0) (v := .int .i64 0) (by first | with_reducible exact c1_2_0 | (simp [go_sem]; done) | (simp [go_sem, *]; done)) (by first | with_reducible exact f1_2_0 | (simp [go_sem]; done) | (simp [go_sem, *]; done))
  have c2_2_1 := hb2.get (b := w.heap.size + 1 + 1) (o := 1) (v := .int .u64 0) (by first | with_reducible exact c1_2_1 | (simp [go_sem]; done) | (simp [go_sem, *]; done))
  have f2_2_1 := hb2.free (b := w.heap.size + 1 + 1) (o := 1) (v := .int .u64 0) (by first | with_reducible exact c1_2_1 | (simp [go_sem]; done) | (simp [go_sem, *]; done)) (by first | with_reducible exact f1_2_1 | (simp [go_sem]; done) | (simp [go_sem, *]; done))
  have c2_2_2 := hb2.get (b := w.heap.size + 1 + 1) (o := 2) (v := .int .u64 0) (by first | with_reducible exact c1_2_2 | (simp [go_sem]; done) | (simp [go_sem, *]; done))
  have f2_2_2 := hb2.free (b := w.heap.size + 1 + 1) (o := 2) (v := .int .u64 0) (by first | with_reducible exact c1_2_2 | (simp [go_sem]; done) | (simp [go_sem, *]; done)) (by first | with_reducible exact f1_2_2 | (simp [go_sem]; done) | (simp [go_sem, *]; done))
  clear hz2
  rw [K.out]
  go_wp2_with fail
  go_region_held3 (fun w' => w'.cell? ⟨w.heap.size, 0, none⟩ = some (.int .i64 (W)) ∧ w'.cell? ⟨w.heap.size, 1, none⟩ = some (.int .u64 (hi (v))) ∧ w'.cell? ⟨w.heap.size, 2, none⟩ = some (.int .u64 (lo (v))) ∧ w'.cell? ⟨w.heap.size + 1, 0, none⟩ = some (.int .i64 (W)) ∧ w'.cell? ⟨w.heap.size + 1, 1, none⟩ = some (.int .u64 (hi (u))) ∧ w'.cell? ⟨w.heap.size + 1, 2, none⟩ = some (.int .u64 (lo (u)))) (simp [go_sem, *])
    (first
      | (go_at_call_of 13 (hi v); refine (value_any _ _ _).mono ?_; rintro e w3 ⟨rfl, hb3⟩; have hz3 := hb3.size; (try simp at hz3); have z3_0 : w.heap.size < w3.heap.size := (by omega); have c3_0_0 := hb3.get (b := w.heap.size) (o := 0) (v := .int .i64 (W)) (by first | with_reducible exact c2_0_0 | (simp [go_sem]; done) | (simp [go_sem, *]; done)); have c3_0_1 := hb3.get (b := w.heap.size) (o := 1) (v := .int .u64 (hi (v))) (by first | with_reducible exact c2_0_1 | (simp [go_sem]; done) | (simp [go_sem, *]; done)); have c3_0_2 := hb3.get (b := w.heap.size) (o := 2) (v := .int .u64 (lo (v))) (by first | with_reducible exact c2_0_2 | (simp [go_sem]; done) | (simp [go_sem, *]; done)); have z3_1 : w.heap.size + 1 < w3.heap.size := (by omega); have c3_1_0 := hb3.get (b := w.heap.size + 1) (o := 0) (v := .int .i64 (W)) (by first | with_reducible exact c2_1_0 | (simp [go_sem]; done) | (simp [go_sem, *]; done)); have c3_1_1 := hb3.get (b := w.heap.size + 1) (o := 1) (v := .int .u64 (hi (u))) (by first | with_reducible exact c2_1_1 | (simp [go_sem]; done) | (simp [go_sem, *]; done)); have c3_1_2 := hb3.get (b := w.heap.size + 1) (o := 2) (v := .int .u64 (lo (u))) (by first | with_reducible exact c2_1_2 | (simp [go_sem]; done) | (simp [go_sem, *]; done)); have z3_2 : w.heap.size + 1 + 1 < w3.heap.size := (by omega); have c3_2_0 := hb3.get (b := w.heap.size + 1 + 1) (o := 0) (v := .int .i64 0) (by first | with_reducible exact c2_2_0 | (simp [go_sem]; done) | (simp [go_sem, *]; done)); have f3_2_0 := hb3.free (b := w.heap.size + 1 + 1) (o := 0) (v := .int .i64 0) (by first | with_reducible exact c2_2_0 | (simp [go_sem]; done) | (simp [go_sem, *]; done)) (by first | with_reducible exact f2_2_0 | (simp [go_sem]; done) | (simp [go_sem, *]; done)); have c3_2_1 := hb3.get (b := w.heap.size + 1 + 1) (o := 1) (v := .int .u64 0) (by first | with_reducible exact c2_2_1 | (simp [go_sem]; done) | (simp [go_sem, *]; done)); have f3_2_1 := hb3.free (b := w.heap.size + 1 + 1) (o := 1) (v := .int .u64 0) (by first | with_reducible exact c2_2_1 | (simp [go_sem]; done) | (simp [go_sem, *]; done)) (by first | with_reducible exact f2_2_1 | (simp [go_sem]; done) | (simp [go_sem, *]; done)); have c3_2_2 := hb3.get (b := w.heap.size + 1 + 1) (o := 2) (v := .int .u64 0) (by first | with_reducible exact c2_2_2 | (simp [go_sem]; done) | (simp [go_sem, *]; done)); have f3_2_2 := hb3.free (b := w.heap.size + 1 + 1) (o := 2) (v := .int .u64 0) (by first | with_reducible exact c2_2_2 | (simp [go_sem]; done) | (simp [go_sem, *]; done)) (by first | with_reducible exact f2_2_2 | (simp [go_sem]; done) | (simp [go_sem, *]; done)); clear hz3)
      | (go_at_call_of 13 (hi u); refine (value_any _ _ _).mono ?_; rintro e w4 ⟨rfl, hb4⟩; have hz4 := hb4.size; (try simp at hz4); have z4_0 : w.heap.size < w4.heap.size := (by omega); have c4_0_0 := hb4.get (b := w.heap.size) (o := 0) (v := .int .i64 (W)) (by first | with_reducible exact c3_0_0 | (simp [go_sem]; done) | (simp [go_sem, *]; done)); have c4_0_1 := hb4.get (b := w.heap.size) (o := 1) (v := .int .u64 (hi (v))) (by first | with_reducible exact c3_0_1 | (simp [go_sem]; done) | (simp [go_sem, *]; done)); have c4_0_2 := hb4.get (b := w.heap.size) (o := 2) (v := .int .u64 (lo (v))) (by first | with_reducible exact c3_0_2 | (simp [go_sem]; done) | (simp [go_sem, *]; done)); have z4_1 : w.heap.size + 1 < w4.heap.size := (by omega); have c4_1_0 := hb4.get (b := w.heap.size + 1) (o := 0) (v := .int .i64 (W)) (by first | with_reducible exact c3_1_0 | (simp [go_sem]; done) | (simp [go_sem, *]; done)); have c4_1_1 := hb4.get (b := w.heap.size + 1) (o := 1) (v := .int .u64 (hi (u))) (by first | with_reducible exact c3_1_1 | (simp [go_sem]; done) | (simp [go_sem, *]; done)); have c4_1_2 := hb4.get (b := w.heap.size + 1) (o := 2) (v := .int .u64 (lo (u))) (by first | with_reducible exact c3_1_2 | (simp [go_sem]; done) | (simp [go_sem, *]; done)); have z4_2 : w.heap.size + 1 + 1 < w4.heap.size := (by omega); have c4_2_0 := hb4.get (b := w.heap.size + 1 + 1) (o := 0) (v := .int .i64 0) (by first | with_reducible exact c3_2_0 | (simp [go_sem]; done) | (simp [go_sem, *]; done)); have f4_2_0 := hb4.free (b := w.heap.size + 1 + 1) (o := 0) (v := .int .i64 0) (by first | with_reducible exact c3_2_0 | (simp [go_sem]; done) | (simp [go_sem, *]; done)) (by first | with_reducible exact f3_2_0 | (simp [go_sem]; done) | (simp [go_sem, *]; done)); have c4_2_1 := hb4.get (b := w.heap.size + 1 + 1) (o := 1) (v := .int .u64 0) (by first | with_reducible exact c3_2_1 | (simp [go_sem]; done) | (simp [go_sem, *]; done)); have f4_2_1 := hb4.free (b := w.heap.size + 1 + 1) (o := 1) (v := .int .u64 0) (by first | with_reducible exact c3_2_1 | (simp [go_sem]; done) | (simp [go_sem, *]; done)) (by first | with_reducible exact f3_2_1 | (simp [go_sem]; done) | (simp [go_sem, *]; done)); have c4_2_2 := hb4.get (b := w.heap.size + 1 + 1) (o := 2) (v := .int .u64 0) (by first | with_reducible exact c3_2_2 | (simp [go_sem]; done) | (simp [go_sem, *]; done)); have f4_2_2 := hb4.free (b := w.heap.size + 1 + 1) (o := 2) (v := .int .u64 0) (by first | with_reducible exact c3_2_2 | (simp [go_sem]; done) | (simp [go_sem, *]; done)) (by first | with_reducible exact f3_2_2 | (simp [go_sem]; done) | (simp [go_sem, *]; done)); clear hz4)
      | (go_at_call 14; refine (HD.out _).mono ?_; rintro e w5 ⟨rfl, hb5⟩; have hz5 := hb5.size; (try simp at hz5); have z5_0 : w.heap.size < w5.heap.size := (by omega); have c5_0_0 := hb5.get (b := w.heap.size) (o := 0) (v := .int .i64 (W)) (by first | with_reducible exact c4_0_0 | (simp [go_sem]; done) | (simp [go_sem, *]; done)); have c5_0_1 := hb5.get (b := w.heap.size) (o := 1) (v := .int .u64 (hi (v))) (by first | with_reducible exact c4_0_1 | (simp [go_sem]; done) | (simp [go_sem, *]; done)); have c5_0_2 := hb5.get (b := w.heap.size) (o := 2) (v := .int .u64 (lo (v))) (by first | with_reducible exact c4_0_2 | (simp [go_sem]; done) | (simp [go_sem, *]; done)); have z5_1 : w.heap.size + 1 < w5.heap.size := (by omega); have c5_1_0 := hb5.get (b := w.heap.size + 1) (o := 0) (v := .int .i64 (W)) (by first | with_reducible exact c4_1_0 | (simp [go_sem]; done) | (simp [go_sem, *]; done)); have c5_1_1 := hb5.get (b := w.heap.size + 1) (o := 1) (v := .int .u64 (hi (u))) (by first | with_reducible exact c4_1_1 | (simp [go_sem]; done) | (simp [go_sem, *]; done)); have c5_1_2 := hb5.get (b := w.heap.size + 1) (o := 2) (v := .int .u64 (lo (u))) (by first | with_reducible exact c4_1_2 | (simp [go_sem]; done) | (simp [go_sem, *]; done)); have z5_2 : w.heap.size + 1 + 1 < w5.heap.size := (by omega); have c5_2_0 := hb5.get (b := w.heap.size + 1 + 1) (o := 0) (v := .int .i64 0) (by first | with_reducible exact c4_2_0 | (simp [go_sem]; done) | (simp [go_sem, *]; done)); have f5_2_0 := hb5.free (b := w.heap.size + 1 + 1) (o := 0) (v := .int .i64 0) (by first | with_reducible exact c4_2_0 | (simp [go_sem]; done) | (simp [go_sem, *]; done)) (by first | with_reducible exact f4_2_0 | (simp [go_sem]; done) | (simp [go_sem, *]; done)); have c5_2_1 := hb5.get (b := w.heap.size + 1 + 1) (o := 1) (v := .int .u64 0) (by first | with_reducible exact c4_2_1 | (simp [go_sem]; done) | (simp [go_sem, *]; done)); have f5_2_1 := hb5.free (b := w.heap.size + 1 + 1) (o := 1) (v := .int .u64 0) (by first | with_reducible exact c4_2_1 | (simp [go_sem]; done) | (simp [go_sem, *]; done)) (by first | with_reducible exact f4_2_1 | (simp [go_sem]; done) | (simp [go_sem, *]; done)); have c5_2_2 := hb5.get (b := w.heap.size + 1 + 1) (o := 2) (v := .int .u64 0) (by first | with_reducible exact c4_2_2 | (simp [go_sem]; done) | (simp [go_sem, *]; done)); have f5_2_2 := hb5.free (b := w.heap.size + 1 + 1) (o := 2) (v := .int .u64 0) (by first | with_reducible exact c4_2_2 | (simp [go_sem]; done) | (simp [go_sem, *]; done)) (by first | with_reducible exact f4_2_2 | (simp [go_sem]; done) | (simp [go_sem, *]; done)); clear hz5))
  go_wp2
  exact bodyPost_ret (v := bv W z) (by simp [results, Try.results5, go_sem, *]) rfl ⟨rfl, by repeat (first | with_reducible exact Fr.refl _ | with_reducible apply Fr.drewN | with_reducible apply Fr.drew | with_reducible apply Fr.alloc | (with_reducible refine Fr.set ?_ (by simp; try omega) _) | (with_reducible refine Fr.call ?_ (by assumption)))⟩
set_option maxHeartbeats 4000000 in
theorem bin_11 (W v u z : Int) (h : Norm W v) (k : Norm W u) (hd : ∀ w : World, Calls Try.prog 14 #[.bool false, .int .i64 W, wv v, wv u] w fun e w' => e = .returned (bv W z) ∧ Fr w w') (w : World) :
    Calls Try.prog 5 #[.int .i64 11, bv W v, bv W u] w fun e w' => e = .returned (bv W z) ∧ Fr w w' := by
  have HD := Lib.hid hd; clear hd
  have HN := Lib.hid h; have KN := Lib.hid k
  have H := Lib.hid (norm_to h); have hv := h.lt128; have hv0 := h.2.2.1; have hw1 := h.1; have hw2 := h.2.1; clear h
  have K := Lib.hid (norm_to k); have hu := k.lt128; have hu0 := k.2.2.1; clear k
  go_enter Try.func5, Try.ntmps5
  go_wp2_with fail
  refine (normal_any _ _ hv0 hv _).mono ?_
  rintro e w1 ⟨rfl, hb1⟩
  have hz1 := hb1.size
  (try simp at hz1)
  have z1_0 : w.heap.size < w1.heap.size := (by omega)
  have c1_0_0 := hb1.get (b := w.heap.size) (o := 0) (v := .int .i64 (W)) (by first | (simp [go_sem]; done) | (simp [go_sem, *]; done))
  have c1_0_1 := hb1.get (b := w.heap.size) (o := 1) (v := .int .u64 (hi (v))) (by first | (simp [go_sem]; done) | (simp [go_sem, *]; done))
  have c1_0_2 := hb1.get (b := w.heap.size) (o := 2) (v := .int .u64 (lo (v))) (by first | (simp [go_sem]; done) | (simp [go_sem, *]; done))
  have z1_1 : w.heap.size + 1 < w1.heap.size := (by omega)
  have c1_1_0 := hb1.get (b := w.heap.size + 1) (o := 0) (v := .int .i64 (W)) (by first | (simp [go_sem]; done) | (simp [go_sem, *]; done))
  have c1_1_1 := hb1.get (b := w.heap.size + 1) (o := 1) (v := .int .u64 (hi (u))) (by first | (simp [go_sem]; done) | (simp [go_sem, *]; done))
  have c1_1_2 := hb1.get (b := w.heap.size + 1) (o := 2) (v := .int .u64 (lo (u))) (by first | (simp [go_sem]; done) | (simp [go_sem, *]; done))
  have z1_2 : w.heap.size + 1 + 1 < w1.heap.size := (by omega)
  have c1_2_0 := hb1.get (b := w.heap.size + 1 + 1) (o := 0) (v := .int .i64 0) (by first | (simp [go_sem]; done) | (simp [go_sem, *]; done))
  have f1_2_0 := hb1.free (b := w.heap.size + 1 + 1) (o := 0) (v := .int .i64 0) (by first | (simp [go_sem]; done) | (simp [go_sem, *]; done)) (by first | (simp [go_sem]; done) | (simp [go_sem, *]; done))
  have c1_2_1 := hb1.get (b := w.heap.size + 1 + 1) (o := 1) (v := .int .u64 0) (by first | (simp [go_sem]; done) | (simp [go_sem, *]; done))
  have f1_2_1 := hb1.free (b := w.heap.size + 1 + 1) (o := 1) (v := .int .u64 0) (by first | (simp [go_sem]; done) | (simp [go_sem, *]; done)) (by first | (simp [go_sem]; done) | (simp [go_sem, *]; done))
  have c1_2_2 := hb1.get (b := w.heap.size + 1 + 1) (o := 2) (v := .int .u64 0) (by first | (simp [go_sem]; done) | (simp [go_sem, *]; done))
  have f1_2_2 := hb1.free (b := w.heap.size + 1 + 1) (o := 2) (v := .int .u64 0) (by first | (simp [go_sem]; done) | (simp [go_sem, *]; done)) (by first | (simp [go_sem]; done) | (simp [go_sem, *]; done))
  clear hz1
  rw [H.out]
  go_wp2_with fail
  refine (normal_any _ _ hu0 hu _).mono ?_
  rintro e w2 ⟨rfl, hb2⟩
  have hz2 := hb2.size
  (try simp at hz2)
  have z2_0 : w.heap.size < w2.heap.size := (by omega)
  have c2_0_0 := hb2.get (b := w.heap.size) (o := 0) (v := .int .i64 (W)) (by first | with_reducible exact c1_0_0 | (simp [go_sem]; done) | (simp [go_sem, *]; done))
  have c2_0_1 := hb2.get (b := w.heap.size) (o := 1) (v := .int .u64 (hi (v))) (by first | with_reducible exact c1_0_1 | (simp [go_sem]; done) | (simp [go_sem, *]; done))
  have c2_0_2 := hb2.get (b := w.heap.size) (o := 2) (v := .int .u64 (lo (v))) (by first | with_reducible exact c1_0_2 | (simp [go_sem]; done) | (simp [go_sem, *]; done))
  have z2_1 : w.heap.size + 1 < w2.heap.size := (by omega)
  have c2_1_0 := hb2.get (b := w.heap.size + 1) (o := 0) (v := .int .i64 (W)) (by first | with_reducible exact c1_1_0 | (simp [go_sem]; done) | (simp [go_sem, *]; done))
  have c2_1_1 := hb2.get (b := w.heap.size + 1) (o := 1) (v := .int .u64 (hi (u))) (by first | with_reducible exact c1_1_1 | (simp [go_sem]; done) | (simp [go_sem, *]; done))
  have c2_1_2 := hb2.get (b := w.heap.size + 1) (o := 2) (v := .int .u64 (lo (u))) (by first | with_reducible exact c1_1_2 | (simp [go_sem]; done) | (simp [go_sem, *]; done))
  have z2_2 : w.heap.size + 1 + 1 < w2.heap.size := (by omega)
  have c2_2_0 := hb2.get (b := w.heap.size + 1 + 1) (o := 0) (v := .int .i64 0) (by first | with_reducible exact c1_2_0 | (simp [go_sem]; done) | (simp [go_sem, *]; done))
  have f2_2_0 := hb2.free (b := w.heap.size + 1 + 1) (o := 0) (v := .int .i64 0) (by first | with_reducible exact c1_2_0 | (simp [go_sem]; done) | (simp [go_sem, *]; done)) (by first | with_reducible exact f1_2_0 | (simp [go_sem]; done) | (simp [go_sem, *]; done))
  have c2_2_1 := hb2.get (b := w.heap.size + 1 + 1) (o := 1) (v := .int .u64 0) (by first | with_reducible exact c1_2_1 | (simp [go_sem]; done) | (simp [go_sem, *]; done))
  have f2_2_1 := hb2.free (b := w.heap.size + 1 + 1) (o := 1) (v := .int .u64 0) (by first | with_reducible exact c1_2_1 | (simp [go_sem]; done) | (simp [go_sem, *]; done)) (by first | with_reducible exact f1_2_1 | (simp [go_sem]; done) | (simp [go_sem, *]; done))
  have c2_2_2 := hb2.get (b := w.heap.size + 1 + 1) (o := 2) (v := .int .u64 0) (by first | with_reducible exact c1_2_2 | (simp [go_sem]; done) | (simp [go_sem, *]; done))
  have f2_2_2 := hb2.free (b := w.heap.size + 1 + 1) (o := 2) (v := .int .u64 0) (by first | with_reducible exact c1_2_2 | (simp [go_sem]; done) | (simp [go_sem, *]; done)) (by first | with_reducible exact f1_2_2 | (simp [go_sem]; done) | (simp [go_sem, *]; done))
  clear hz2
  rw [K.out]
  go_wp2_with fail
  go_region_held3 (fun w' => w'.cell? ⟨w.heap.size, 0, none⟩ = some (.int .i64 (W)) ∧ w'.cell? ⟨w.heap.size, 1, none⟩ = some (.int .u64 (hi (v))) ∧ w'.cell? ⟨w.heap.size, 2, none⟩ = some (.int .u64 (lo (v))) ∧ w'.cell? ⟨w.heap.size + 1, 0, none⟩ = some (.int .i64 (W)) ∧ w'.cell? ⟨w.heap.size + 1, 1, none⟩ = some (.int .u64 (hi (u))) ∧ w'.cell? ⟨w.heap.size + 1, 2, none⟩ = some (.int .u64 (lo (u)))) (simp [go_sem, *])
    (first
      | (go_at_call_of 13 (hi v); refine (value_any _ _ _).mono ?_; rintro e w3 ⟨rfl, hb3⟩; have hz3 := hb3.size; (try simp at hz3); have z3_0 : w.heap.size < w3.heap.size := (by omega); have c3_0_0 := hb3.get (b := w.heap.size) (o := 0) (v := .int .i64 (W)) (by first | with_reducible exact c2_0_0 | (simp [go_sem]; done) | (simp [go_sem, *]; done)); have c3_0_1 := hb3.get (b := w.heap.size) (o := 1) (v := .int .u64 (hi (v))) (by first | with_reducible exact c2_0_1 | (simp [go_sem]; done) | (simp [go_sem, *]; done)); have c3_0_2 := hb3.get (b := w.heap.size) (o := 2) (v := .int .u64 (lo (v))) (by first | with_reducible exact c2_0_2 | (simp [go_sem]; done) | (simp [go_sem, *]; done)); have z3_1 : w.heap.size + 1 < w3.heap.size := (by omega); have c3_1_0 := hb3.get (b := w.heap.size + 1) (o := 0) (v := .int .i64 (W)) (by first | with_reducible exact c2_1_0 | (simp [go_sem]; done) | (simp [go_sem, *]; done)); have c3_1_1 := hb3.get (b := w.heap.size + 1) (o := 1) (v := .int .u64 (hi (u))) (by first | with_reducible exact c2_1_1 | (simp [go_sem]; done) | (simp [go_sem, *]; done)); have c3_1_2 := hb3.get (b := w.heap.size + 1) (o := 2) (v := .int .u64 (lo (u))) (by first | with_reducible exact c2_1_2 | (simp [go_sem]; done) | (simp [go_sem, *]; done)); have z3_2 : w.heap.size + 1 + 1 < w3.heap.size := (by omega); have c3_2_0 := hb3.get (b := w.heap.size + 1 + 1) (o := 0) (v := .int .i64 0) (by first | with_reducible exact c2_2_0 | (simp [go_sem]; done) | (simp [go_sem, *]; done)); have f3_2_0 := hb3.free (b := w.heap.size + 1 + 1) (o := 0) (v := .int .i64 0) (by first | with_reducible exact c2_2_0 | (simp [go_sem]; done) | (simp [go_sem, *]; done)) (by first | with_reducible exact f2_2_0 | (simp [go_sem]; done) | (simp [go_sem, *]; done)); have c3_2_1 := hb3.get (b := w.heap.size + 1 + 1) (o := 1) (v := .int .u64 0) (by first | with_reducible exact c2_2_1 | (simp [go_sem]; done) | (simp [go_sem, *]; done)); have f3_2_1 := hb3.free (b := w.heap.size + 1 + 1) (o := 1) (v := .int .u64 0) (by first | with_reducible exact c2_2_1 | (simp [go_sem]; done) | (simp [go_sem, *]; done)) (by first | with_reducible exact f2_2_1 | (simp [go_sem]; done) | (simp [go_sem, *]; done)); have c3_2_2 := hb3.get (b := w.heap.size + 1 + 1) (o := 2) (v := .int .u64 0) (by first | with_reducible exact c2_2_2 | (simp [go_sem]; done) | (simp [go_sem, *]; done)); have f3_2_2 := hb3.free (b := w.heap.size + 1 + 1) (o := 2) (v := .int .u64 0) (by first | with_reducible exact c2_2_2 | (simp [go_sem]; done) | (simp [go_sem, *]; done)) (by first | with_reducible exact f2_2_2 | (simp [go_sem]; done) | (simp [go_sem, *]; done)); clear hz3)
      | (go_at_call_of 13 (hi u); refine (value_any _ _ _).mono ?_; rintro e w4 ⟨rfl, hb4⟩; have hz4 := hb4.size; (try simp at hz4); have z4_0 : w.heap.size < w4.heap.size := (by omega); have c4_0_0 := hb4.get (b := w.heap.size) (o := 0) (v := .int .i64 (W)) (by first | with_reducible exact c3_0_0 | (simp [go_sem]; done) | (simp [go_sem, *]; done)); have c4_0_1 := hb4.get (b := w.heap.size) (o := 1) (v := .int .u64 (hi (v))) (by first | with_reducible exact c3_0_1 | (simp [go_sem]; done) | (simp [go_sem, *]; done)); have c4_0_2 := hb4.get (b := w.heap.size) (o := 2) (v := .int .u64 (lo (v))) (by first | with_reducible exact c3_0_2 | (simp [go_sem]; done) | (simp [go_sem, *]; done)); have z4_1 : w.heap.size + 1 < w4.heap.size := (by omega); have c4_1_0 := hb4.get (b := w.heap.size + 1) (o := 0) (v := .int .i64 (W)) (by first | with_reducible exact c3_1_0 | (simp [go_sem]; done) | (simp [go_sem, *]; done)); have c4_1_1 := hb4.get (b := w.heap.size + 1) (o := 1) (v := .int .u64 (hi (u))) (by first | with_reducible exact c3_1_1 | (simp [go_sem]; done) | (simp [go_sem, *]; done)); have c4_1_2 := hb4.get (b := w.heap.size + 1) (o := 2) (v := .int .u64 (lo (u))) (by first | with_reducible exact c3_1_2 | (simp [go_sem]; done) | (simp [go_sem, *]; done)); have z4_2 : w.heap.size + 1 + 1 < w4.heap.size := (by omega); have c4_2_0 := hb4.get (b := w.heap.size + 1 + 1) (o := 0) (v := .int .i64 0) (by first | with_reducible exact c3_2_0 | (simp [go_sem]; done) | (simp [go_sem, *]; done)); have f4_2_0 := hb4.free (b := w.heap.size + 1 + 1) (o := 0) (v := .int .i64 0) (by first | with_reducible exact c3_2_0 | (simp [go_sem]; done) | (simp [go_sem, *]; done)) (by first | with_reducible exact f3_2_0 | (simp [go_sem]; done) | (simp [go_sem, *]; done)); have c4_2_1 := hb4.get (b := w.heap.size + 1 + 1) (o := 1) (v := .int .u64 0) (by first | with_reducible exact c3_2_1 | (simp [go_sem]; done) | (simp [go_sem, *]; done)); have f4_2_1 := hb4.free (b := w.heap.size + 1 + 1) (o := 1) (v := .int .u64 0) (by first | with_reducible exact c3_2_1 | (simp [go_sem]; done) | (simp [go_sem, *]; done)) (by first | with_reducible exact f3_2_1 | (simp [go_sem]; done) | (simp [go_sem, *]; done)); have c4_2_2 := hb4.get (b := w.heap.size + 1 + 1) (o := 2) (v := .int .u64 0) (by first | with_reducible exact c3_2_2 | (simp [go_sem]; done) | (simp [go_sem, *]; done)); have f4_2_2 := hb4.free (b := w.heap.size + 1 + 1) (o := 2) (v := .int .u64 0) (by first | with_reducible exact c3_2_2 | (simp [go_sem]; done) | (simp [go_sem, *]; done)) (by first | with_reducible exact f3_2_2 | (simp [go_sem]; done) | (simp [go_sem, *]; done)); clear hz4)
      | (go_at_call 14; refine (HD.out _).mono ?_; rintro e w5 ⟨rfl, hb5⟩; have hz5 := hb5.size; (try simp at hz5); have z5_0 : w.heap.size < w5.heap.size := (by omega); have c5_0_0 := hb5.get (b := w.heap.size) (o := 0) (v := .int .i64 (W)) (by first | with_reducible exact c4_0_0 | (simp [go_sem]; done) | (simp [go_sem, *]; done)); have c5_0_1 := hb5.get (b := w.heap.size) (o := 1) (v := .int .u64 (hi (v))) (by first | with_reducible exact c4_0_1 | (simp [go_sem]; done) | (simp [go_sem, *]; done)); have c5_0_2 := hb5.get (b := w.heap.size) (o := 2) (v := .int .u64 (lo (v))) (by first | with_reducible exact c4_0_2 | (simp [go_sem]; done) | (simp [go_sem, *]; done)); have z5_1 : w.heap.size + 1 < w5.heap.size := (by omega); have c5_1_0 := hb5.get (b := w.heap.size + 1) (o := 0) (v := .int .i64 (W)) (by first | with_reducible exact c4_1_0 | (simp [go_sem]; done) | (simp [go_sem, *]; done)); have c5_1_1 := hb5.get (b := w.heap.size + 1) (o := 1) (v := .int .u64 (hi (u))) (by first | with_reducible exact c4_1_1 | (simp [go_sem]; done) | (simp [go_sem, *]; done)); have c5_1_2 := hb5.get (b := w.heap.size + 1) (o := 2) (v := .int .u64 (lo (u))) (by first | with_reducible exact c4_1_2 | (simp [go_sem]; done) | (simp [go_sem, *]; done)); have z5_2 : w.heap.size + 1 + 1 < w5.heap.size := (by omega); have c5_2_0 := hb5.get (b := w.heap.size + 1 + 1) (o := 0) (v := .int .i64 0) (by first | with_reducible exact c4_2_0 | (simp [go_sem]; done) | (simp [go_sem, *]; done)); have f5_2_0 := hb5.free (b := w.heap.size + 1 + 1) (o := 0) (v := .int .i64 0) (by first | with_reducible exact c4_2_0 | (simp [go_sem]; done) | (simp [go_sem, *]; done)) (by first | with_reducible exact f4_2_0 | (simp [go_sem]; done) | (simp [go_sem, *]; done)); have c5_2_1 := hb5.get (b := w.heap.size + 1 + 1) (o := 1) (v := .int .u64 0) (by first | with_reducible exact c4_2_1 | (simp [go_sem]; done) | (simp [go_sem, *]; done)); have f5_2_1 := hb5.free (b := w.heap.size + 1 + 1) (o := 1) (v := .int .u64 0) (by first | with_reducible exact c4_2_1 | (simp [go_sem]; done) | (simp [go_sem, *]; done)) (by first | with_reducible exact f4_2_1 | (simp [go_sem]; done) | (simp [go_sem, *]; done)); have c5_2_2 := hb5.get (b := w.heap.size + 1 + 1) (o := 2) (v := .int .u64 0) (by first | with_reducible exact c4_2_2 | (simp [go_sem]; done) | (simp [go_sem, *]; done)); have f5_2_2 := hb5.free (b := w.heap.size + 1 + 1) (o := 2) (v := .int .u64 0) (by first | with_reducible exact c4_2_2 | (simp [go_sem]; done) | (simp [go_sem, *]; done)) (by first | with_reducible exact f4_2_2 | (simp [go_sem]; done) | (simp [go_sem, *]; done)); clear hz5))
  go_wp2
  exact bodyPost_ret (v := bv W z) (by simp [results, Try.results5, go_sem, *]) rfl ⟨rfl, by repeat (first | with_reducible exact Fr.refl _ | with_reducible apply Fr.drewN | with_reducible apply Fr.drew | with_reducible apply Fr.alloc | (with_reducible refine Fr.set ?_ (by simp; try omega) _) | (with_reducible refine Fr.call ?_ (by assumption)))⟩
set_option maxHeartbeats 4000000 in
theorem bin_12 (W v u z : Int) (h : Norm W v) (k : Norm W u) (hd : ∀ w : World, Calls Try.prog 15 #[.bool true, .int .i64 W, wv (sgnI W v), wv (sgnI W u)] w fun e w' => e = .returned (bv W z) ∧ Fr w w') (w : World) :
    Calls Try.prog 5 #[.int .i64 12, bv W v, bv W u] w fun e w' => e = .returned (bv W z) ∧ Fr w w' := by
  have HD := Lib.hid hd; clear hd
  have HN := Lib.hid h; have KN := Lib.hid k
  have H := Lib.hid (norm_to h); have hv := h.lt128; have hv0 := h.2.2.1; have hw1 := h.1; have hw2 := h.2.1; clear h
  have K := Lib.hid (norm_to k); have hu := k.lt128; have hu0 := k.2.2.1; clear k
  go_enter Try.func5, Try.ntmps5
  go_wp2_with fail
  refine (normal_any _ _ hv0 hv _).mono ?_
  rintro e w1 ⟨rfl, hb1⟩
  have hz1 := hb1.size
  (try simp at hz1)
  have z1_0 : w.heap.size < w1.heap.size := (by omega)
  have c1_0_0 := hb1.get (b := w.heap.size) (o := 0) (v := .int .i64 (W)) (by first | (simp [go_sem]; done) | (simp [go_sem, *]; done))
  have c1_0_1 := hb1.get (b := w.heap.size) (o := 1) (v := .int .u64 (hi (v))) (by first | (simp [go_sem]; done) | (simp [go_sem, *]; done))
  have c1_0_2 := hb1.get (b := w.heap.size) (o := 2) (v := .int .u64 (lo (v))) (by first | (simp [go_sem]; done) | (simp [go_sem, *]; done))
  have z1_1 : w.heap.size + 1 < w1.heap.size := (by omega)
  have c1_1_0 := hb1.get (b := w.heap.size + 1) (o := 0) (v := .int .i64 (W)) (by first | (simp [go_sem]; done) | (simp [go_sem, *]; done))
  have c1_1_1 := hb1.get (b := w.heap.size + 1) (o := 1) (v := .int .u64 (hi (u))) (by first | (simp [go_sem]; done) | (simp [go_sem, *]; done))
  have c1_1_2 := hb1.get (b := w.heap.size + 1) (o := 2) (v := .int .u64 (lo (u))) (by first | (simp [go_sem]; done) | (simp [go_sem, *]; done))
  have z1_2 : w.heap.size + 1 + 1 < w1.heap.size := (by omega)
  have c1_2_0 := hb1.get (b := w.heap.size + 1 + 1) (o := 0) (v := .int .i64 0) (by first | (simp [go_sem]; done) | (simp [go_sem, *]; done))
  have f1_2_0 := hb1.free (b := w.heap.size + 1 + 1) (o := 0) (v := .int .i64 0) (by first | (simp [go_sem]; done) | (simp [go_sem, *]; done)) (by first | (simp [go_sem]; done) | (simp [go_sem, *]; done))
  have c1_2_1 := hb1.get (b := w.heap.size + 1 + 1) (o := 1) (v := .int .u64 0) (by first | (simp [go_sem]; done) | (simp [go_sem, *]; done))
  have f1_2_1 := hb1.free (b := w.heap.size + 1 + 1) (o := 1) (v := .int .u64 0) (by first | (simp [go_sem]; done) | (simp [go_sem, *]; done)) (by first | (simp [go_sem]; done) | (simp [go_sem, *]; done))
  have c1_2_2 := hb1.get (b := w.heap.size + 1 + 1) (o := 2) (v := .int .u64 0) (by first | (simp [go_sem]; done) | (simp [go_sem, *]; done))
  have f1_2_2 := hb1.free (b := w.heap.size + 1 + 1) (o := 2) (v := .int .u64 0) (by first | (simp [go_sem]; done) | (simp [go_sem, *]; done)) (by first | (simp [go_sem]; done) | (simp [go_sem, *]; done))
  clear hz1
  rw [H.out]
  go_wp2_with fail
  refine (normal_any _ _ hu0 hu _).mono ?_
  rintro e w2 ⟨rfl, hb2⟩
  have hz2 := hb2.size
  (try simp at hz2)
  have z2_0 : w.heap.size < w2.heap.size := (by omega)
  have c2_0_0 := hb2.get (b := w.heap.size) (o := 0) (v := .int .i64 (W)) (by first | with_reducible exact c1_0_0 | (simp [go_sem]; done) | (simp [go_sem, *]; done))
  have c2_0_1 := hb2.get (b := w.heap.size) (o := 1) (v := .int .u64 (hi (v))) (by first | with_reducible exact c1_0_1 | (simp [go_sem]; done) | (simp [go_sem, *]; done))
  have c2_0_2 := hb2.get (b := w.heap.size) (o := 2) (v := .int .u64 (lo (v))) (by first | with_reducible exact c1_0_2 | (simp [go_sem]; done) | (simp [go_sem, *]; done))
  have z2_1 : w.heap.size + 1 < w2.heap.size := (by omega)
  have c2_1_0 := hb2.get (b := w.heap.size + 1) (o := 0) (v := .int .i64 (W)) (by first | with_reducible exact c1_1_0 | (simp [go_sem]; done) | (simp [go_sem, *]; done))
  have c2_1_1 := hb2.get (b := w.heap.size + 1) (o := 1) (v := .int .u64 (hi (u))) (by first | with_reducible exact c1_1_1 | (simp [go_sem]; done) | (simp [go_sem, *]; done))
  have c2_1_2 := hb2.get (b := w.heap.size + 1) (o := 2) (v := .int .u64 (lo (u))) (by first | with_reducible exact c1_1_2 | (simp [go_sem]; done) | (simp [go_sem, *]; done))
  have z2_2 : w.heap.size + 1 + 1 < w2.heap.size := (by omega)
  have c2_2_0 := hb2.get (b := w.heap.size + 1 + 1) (o := 0) (v := .int .i64 0) (by first | with_reducible exact c1_2_0 | (simp [go_sem]; done) | (simp [go_sem, *]; done))
  have f2_2_0 := hb2.free (b := w.heap.size + 1 + 1) (o := 0) (v := .int .i64 0) (by first | with_reducible exact c1_2_0 | (simp [go_sem]; done) | (simp [go_sem, *]; done)) (by first | with_reducible exact f1_2_0 | (simp [go_sem]; done) | (simp [go_sem, *]; done))
  have c2_2_1 := hb2.get (b := w.heap.size + 1 + 1) (o := 1) (v := .int .u64 0) (by first | with_reducible exact c1_2_1 | (simp [go_sem]; done) | (simp [go_sem, *]; done))
  have f2_2_1 := hb2.free (b := w.heap.size + 1 + 1) (o := 1) (v := .int .u64 0) (by first | with_reducible exact c1_2_1 | (simp [go_sem]; done) | (simp [go_sem, *]; done)) (by first | with_reducible exact f1_2_1 | (simp [go_sem]; done) | (simp [go_sem, *]; done))
  have c2_2_2 := hb2.get (b := w.heap.size + 1 + 1) (o := 2) (v := .int .u64 0) (by first | with_reducible exact c1_2_2 | (simp [go_sem]; done) | (simp [go_sem, *]; done))
  have f2_2_2 := hb2.free (b := w.heap.size + 1 + 1) (o := 2) (v := .int .u64 0) (by first | with_reducible exact c1_2_2 | (simp [go_sem]; done) | (simp [go_sem, *]; done)) (by first | with_reducible exact f1_2_2 | (simp [go_sem]; done) | (simp [go_sem, *]; done))
  clear hz2
  rw [K.out]
  go_wp2_with fail
  go_region_held3 (fun w' => w'.cell? ⟨w.heap.size, 0, none⟩ = some (.int .i64 (W)) ∧ w'.cell? ⟨w.heap.size, 1, none⟩ = some (.int .u64 (hi (v))) ∧ w'.cell? ⟨w.heap.size, 2, none⟩ = some (.int .u64 (lo (v))) ∧ w'.cell? ⟨w.heap.size + 1, 0, none⟩ = some (.int .i64 (W)) ∧ w'.cell? ⟨w.heap.size + 1, 1, none⟩ = some (.int .u64 (hi (u))) ∧ w'.cell? ⟨w.heap.size + 1, 2, none⟩ = some (.int .u64 (lo (u)))) (simp [go_sem, *])
    (first
      | (go_at_call_of 16 (hi v); refine (signed_any _ _ HN.out _).mono ?_; rintro e w3 ⟨rfl, hb3⟩; have hz3 := hb3.size; (try simp at hz3); have z3_0 : w.heap.size < w3.heap.size := (by omega); have c3_0_0 := hb3.get (b := w.heap.size) (o := 0) (v := .int .i64 (W)) (by first | with_reducible exact c2_0_0 | (simp [go_sem]; done) | (simp [go_sem, *]; done)); have c3_0_1 := hb3.get (b := w.heap.size) (o := 1) (v := .int .u64 (hi (v))) (by first | with_reducible exact c2_0_1 | (simp [go_sem]; done) | (simp [go_sem, *]; done)); have c3_0_2 := hb3.get (b := w.heap.size) (o := 2) (v := .int .u64 (lo (v))) (by first | with_reducible exact c2_0_2 | (simp [go_sem]; done) | (simp [go_sem, *]; done)); have z3_1 : w.heap.size + 1 < w3.heap.size := (by omega); have c3_1_0 := hb3.get (b := w.heap.size + 1) (o := 0) (v := .int .i64 (W)) (by first | with_reducible exact c2_1_0 | (simp [go_sem]; done) | (simp [go_sem, *]; done)); have c3_1_1 := hb3.get (b := w.heap.size + 1) (o := 1) (v := .int .u64 (hi (u))) (by first | with_reducible exact c2_1_1 | (simp [go_sem]; done) | (simp [go_sem, *]; done)); have c3_1_2 := hb3.get (b := w.heap.size + 1) (o := 2) (v := .int .u64 (lo (u))) (by first | with_reducible exact c2_1_2 | (simp [go_sem]; done) | (simp [go_sem, *]; done)); have z3_2 : w.heap.size + 1 + 1 < w3.heap.size := (by omega); have c3_2_0 := hb3.get (b := w.heap.size + 1 + 1) (o := 0) (v := .int .i64 0) (by first | with_reducible exact c2_2_0 | (simp [go_sem]; done) | (simp [go_sem, *]; done)); have f3_2_0 := hb3.free (b := w.heap.size + 1 + 1) (o := 0) (v := .int .i64 0) (by first | with_reducible exact c2_2_0 | (simp [go_sem]; done) | (simp [go_sem, *]; done)) (by first | with_reducible exact f2_2_0 | (simp [go_sem]; done) | (simp [go_sem, *]; done)); have c3_2_1 := hb3.get (b := w.heap.size + 1 + 1) (o := 1) (v := .int .u64 0) (by first | with_reducible exact c2_2_1 | (simp [go_sem]; done) | (simp [go_sem, *]; done)); have f3_2_1 := hb3.free (b := w.heap.size + 1 + 1) (o := 1) (v := .int .u64 0) (by first | with_reducible exact c2_2_1 | (simp [go_sem]; done) | (simp [go_sem, *]; done)) (by first | with_reducible exact f2_2_1 | (simp [go_sem]; done) | (simp [go_sem, *]; done)); have c3_2_2 := hb3.get (b := w.heap.size + 1 + 1) (o := 2) (v := .int .u64 0) (by first | with_reducible exact c2_2_2 | (simp [go_sem]; done) | (simp [go_sem, *]; done)); have f3_2_2 := hb3.free (b := w.heap.size + 1 + 1) (o := 2) (v := .int .u64 0) (by first | with_reducible exact c2_2_2 | (simp [go_sem]; done) | (simp [go_sem, *]; done)) (by first | with_reducible exact f2_2_2 | (simp [go_sem]; done) | (simp [go_sem, *]; done)); clear hz3)
      | (go_at_call_of 16 (hi u); refine (signed_any _ _ KN.out _).mono ?_; rintro e w4 ⟨rfl, hb4⟩; have hz4 := hb4.size; (try simp at hz4); have z4_0 : w.heap.size < w4.heap.size := (by omega); have c4_0_0 := hb4.get (b := w.heap.size) (o := 0) (v := .int .i64 (W)) (by first | with_reducible exact c3_0_0 | (simp [go_sem]; done) | (simp [go_sem, *]; done)); have c4_0_1 := hb4.get (b := w.heap.size) (o := 1) (v := .int .u64 (hi (v))) (by first | with_reducible exact c3_0_1 | (simp [go_sem]; done) | (simp [go_sem, *]; done)); have c4_0_2 := hb4.get (b := w.heap.size) (o := 2) (v := .int .u64 (lo (v))) (by first | with_reducible exact c3_0_2 | (simp [go_sem]; done) | (simp [go_sem, *]; done)); have z4_1 : w.heap.size + 1 < w4.heap.size := (by omega); have c4_1_0 := hb4.get (b := w.heap.size + 1) (o := 0) (v := .int .i64 (W)) (by first | with_reducible exact c3_1_0 | (simp [go_sem]; done) | (simp [go_sem, *]; done)); have c4_1_1 := hb4.get (b := w.heap.size + 1) (o := 1) (v := .int .u64 (hi (u))) (by first | with_reducible exact c3_1_1 | (simp [go_sem]; done) | (simp [go_sem, *]; done)); have c4_1_2 := hb4.get (b := w.heap.size + 1) (o := 2) (v := .int .u64 (lo (u))) (by first | with_reducible exact c3_1_2 | (simp [go_sem]; done) | (simp [go_sem, *]; done)); have z4_2 : w.heap.size + 1 + 1 < w4.heap.size := (by omega); have c4_2_0 := hb4.get (b := w.heap.size + 1 + 1) (o := 0) (v := .int .i64 0) (by first | with_reducible exact c3_2_0 | (simp [go_sem]; done) | (simp [go_sem, *]; done)); have f4_2_0 := hb4.free (b := w.heap.size + 1 + 1) (o := 0) (v := .int .i64 0) (by first | with_reducible exact c3_2_0 | (simp [go_sem]; done) | (simp [go_sem, *]; done)) (by first | with_reducible exact f3_2_0 | (simp [go_sem]; done) | (simp [go_sem, *]; done)); have c4_2_1 := hb4.get (b := w.heap.size + 1 + 1) (o := 1) (v := .int .u64 0) (by first | with_reducible exact c3_2_1 | (simp [go_sem]; done) | (simp [go_sem, *]; done)); have f4_2_1 := hb4.free (b := w.heap.size + 1 + 1) (o := 1) (v := .int .u64 0) (by first | with_reducible exact c3_2_1 | (simp [go_sem]; done) | (simp [go_sem, *]; done)) (by first | with_reducible exact f3_2_1 | (simp [go_sem]; done) | (simp [go_sem, *]; done)); have c4_2_2 := hb4.get (b := w.heap.size + 1 + 1) (o := 2) (v := .int .u64 0) (by first | with_reducible exact c3_2_2 | (simp [go_sem]; done) | (simp [go_sem, *]; done)); have f4_2_2 := hb4.free (b := w.heap.size + 1 + 1) (o := 2) (v := .int .u64 0) (by first | with_reducible exact c3_2_2 | (simp [go_sem]; done) | (simp [go_sem, *]; done)) (by first | with_reducible exact f3_2_2 | (simp [go_sem]; done) | (simp [go_sem, *]; done)); clear hz4)
      | (go_at_call 15; refine (HD.out _).mono ?_; rintro e w5 ⟨rfl, hb5⟩; have hz5 := hb5.size; (try simp at hz5); have z5_0 : w.heap.size < w5.heap.size := (by omega); have c5_0_0 := hb5.get (b := w.heap.size) (o := 0) (v := .int .i64 (W)) (by first | with_reducible exact c4_0_0 | (simp [go_sem]; done) | (simp [go_sem, *]; done)); have c5_0_1 := hb5.get (b := w.heap.size) (o := 1) (v := .int .u64 (hi (v))) (by first | with_reducible exact c4_0_1 | (simp [go_sem]; done) | (simp [go_sem, *]; done)); have c5_0_2 := hb5.get (b := w.heap.size) (o := 2) (v := .int .u64 (lo (v))) (by first | with_reducible exact c4_0_2 | (simp [go_sem]; done) | (simp [go_sem, *]; done)); have z5_1 : w.heap.size + 1 < w5.heap.size := (by omega); have c5_1_0 := hb5.get (b := w.heap.size + 1) (o := 0) (v := .int .i64 (W)) (by first | with_reducible exact c4_1_0 | (simp [go_sem]; done) | (simp [go_sem, *]; done)); have c5_1_1 := hb5.get (b := w.heap.size + 1) (o := 1) (v := .int .u64 (hi (u))) (by first | with_reducible exact c4_1_1 | (simp [go_sem]; done) | (simp [go_sem, *]; done)); have c5_1_2 := hb5.get (b := w.heap.size + 1) (o := 2) (v := .int .u64 (lo (u))) (by first | with_reducible exact c4_1_2 | (simp [go_sem]; done) | (simp [go_sem, *]; done)); have z5_2 : w.heap.size + 1 + 1 < w5.heap.size := (by omega); have c5_2_0 := hb5.get (b := w.heap.size + 1 + 1) (o := 0) (v := .int .i64 0) (by first | with_reducible exact c4_2_0 | (simp [go_sem]; done) | (simp [go_sem, *]; done)); have f5_2_0 := hb5.free (b := w.heap.size + 1 + 1) (o := 0) (v := .int .i64 0) (by first | with_reducible exact c4_2_0 | (simp [go_sem]; done) | (simp [go_sem, *]; done)) (by first | with_reducible exact f4_2_0 | (simp [go_sem]; done) | (simp [go_sem, *]; done)); have c5_2_1 := hb5.get (b := w.heap.size + 1 + 1) (o := 1) (v := .int .u64 0) (by first | with_reducible exact c4_2_1 | (simp [go_sem]; done) | (simp [go_sem, *]; done)); have f5_2_1 := hb5.free (b := w.heap.size + 1 + 1) (o := 1) (v := .int .u64 0) (by first | with_reducible exact c4_2_1 | (simp [go_sem]; done) | (simp [go_sem, *]; done)) (by first | with_reducible exact f4_2_1 | (simp [go_sem]; done) | (simp [go_sem, *]; done)); have c5_2_2 := hb5.get (b := w.heap.size + 1 + 1) (o := 2) (v := .int .u64 0) (by first | with_reducible exact c4_2_2 | (simp [go_sem]; done) | (simp [go_sem, *]; done)); have f5_2_2 := hb5.free (b := w.heap.size + 1 + 1) (o := 2) (v := .int .u64 0) (by first | with_reducible exact c4_2_2 | (simp [go_sem]; done) | (simp [go_sem, *]; done)) (by first | with_reducible exact f4_2_2 | (simp [go_sem]; done) | (simp [go_sem, *]; done)); clear hz5))
  go_wp2
  exact bodyPost_ret (v := bv W z) (by simp [results, Try.results5, go_sem, *]) rfl ⟨rfl, by repeat (first | with_reducible exact Fr.refl _ | with_reducible apply Fr.drewN | with_reducible apply Fr.drew | with_reducible apply Fr.alloc | (with_reducible refine Fr.set ?_ (by simp; try omega) _) | (with_reducible refine Fr.call ?_ (by assumption)))⟩
set_option maxHeartbeats 4000000 in
theorem bin_13 (W v u z : Int) (h : Norm W v) (k : Norm W u) (hd : ∀ w : World, Calls Try.prog 15 #[.bool false, .int .i64 W, wv (sgnI W v), wv (sgnI W u)] w fun e w' => e = .returned (bv W z) ∧ Fr w w') (w : World) :
    Calls Try.prog 5 #[.int .i64 13, bv W v, bv W u] w fun e w' => e = .returned (bv W z) ∧ Fr w w' := by
  have HD := Lib.hid hd; clear hd
  have HN := Lib.hid h; have KN := Lib.hid k
  have H := Lib.hid (norm_to h); have hv := h.lt128; have hv0 := h.2.2.1; have hw1 := h.1; have hw2 := h.2.1; clear h
  have K := Lib.hid (norm_to k); have hu := k.lt128; have hu0 := k.2.2.1; clear k
  go_enter Try.func5, Try.ntmps5
  go_wp2_with fail
  refine (normal_any _ _ hv0 hv _).mono ?_
  rintro e w1 ⟨rfl, hb1⟩
  have hz1 := hb1.size
  (try simp at hz1)
  have z1_0 : w.heap.size < w1.heap.size := (by omega)
  have c1_0_0 := hb1.get (b := w.heap.size) (o := 0) (v := .int .i64 (W)) (by first | (simp [go_sem]; done) | (simp [go_sem, *]; done))
  have c1_0_1 := hb1.get (b := w.heap.size) (o := 1) (v := .int .u64 (hi (v))) (by first | (simp [go_sem]; done) | (simp [go_sem, *]; done))
  have c1_0_2 := hb1.get (b := w.heap.size) (o := 2) (v := .int .u64 (lo (v))) (by first | (simp [go_sem]; done) | (simp [go_sem, *]; done))
  have z1_1 : w.heap.size + 1 < w1.heap.size := (by omega)
  have c1_1_0 := hb1.get (b := w.heap.size + 1) (o := 0) (v := .int .i64 (W)) (by first | (simp [go_sem]; done) | (simp [go_sem, *]; done))
  have c1_1_1 := hb1.get (b := w.heap.size + 1) (o := 1) (v := .int .u64 (hi (u))) (by first | (simp [go_sem]; done) | (simp [go_sem, *]; done))
  have c1_1_2 := hb1.get (b := w.heap.size + 1) (o := 2) (v := .int .u64 (lo (u))) (by first | (simp [go_sem]; done) | (simp [go_sem, *]; done))
  have z1_2 : w.heap.size + 1 + 1 < w1.heap.size := (by omega)
  have c1_2_0 := hb1.get (b := w.heap.size + 1 + 1) (o := 0) (v := .int .i64 0) (by first | (simp [go_sem]; done) | (simp [go_sem, *]; done))
  have f1_2_0 := hb1.free (b := w.heap.size + 1 + 1) (o := 0) (v := .int .i64 0) (by first | (simp [go_sem]; done) | (simp [go_sem, *]; done)) (by first | (simp [go_sem]; done) | (simp [go_sem, *]; done))
  have c1_2_1 := hb1.get (b := w.heap.size + 1 + 1) (o := 1) (v := .int .u64 0) (by first | (simp [go_sem]; done) | (simp [go_sem, *]; done))
  have f1_2_1 := hb1.free (b := w.heap.size + 1 + 1) (o := 1) (v := .int .u64 0) (by first | (simp [go_sem]; done) | (simp [go_sem, *]; done)) (by first | (simp [go_sem]; done) | (simp [go_sem, *]; done))
  have c1_2_2 := hb1.get (b := w.heap.size + 1 + 1) (o := 2) (v := .int .u64 0) (by first | (simp [go_sem]; done) | (simp [go_sem, *]; done))
  have f1_2_2 := hb1.free (b := w.heap.size + 1 + 1) (o := 2) (v := .int .u64 0) (by first | (simp [go_sem]; done) | (simp [go_sem, *]; done)) (by first | (simp [go_sem]; done) | (simp [go_sem, *]; done))
  clear hz1
  rw [H.out]
  go_wp2_with fail
  refine (normal_any _ _ hu0 hu _).mono ?_
  rintro e w2 ⟨rfl, hb2⟩
  have hz2 := hb2.size
  (try simp at hz2)
  have z2_0 : w.heap.size < w2.heap.size := (by omega)
  have c2_0_0 := hb2.get (b := w.heap.size) (o := 0) (v := .int .i64 (W)) (by first | with_reducible exact c1_0_0 | (simp [go_sem]; done) | (simp [go_sem, *]; done))
  have c2_0_1 := hb2.get (b := w.heap.size) (o := 1) (v := .int .u64 (hi (v))) (by first | with_reducible exact c1_0_1 | (simp [go_sem]; done) | (simp [go_sem, *]; done))
  have c2_0_2 := hb2.get (b := w.heap.size) (o := 2) (v := .int .u64 (lo (v))) (by first | with_reducible exact c1_0_2 | (simp [go_sem]; done) | (simp [go_sem, *]; done))
  have z2_1 : w.heap.size + 1 < w2.heap.size := (by omega)
  have c2_1_0 := hb2.get (b := w.heap.size + 1) (o := 0) (v := .int .i64 (W)) (by first | with_reducible exact c1_1_0 | (simp [go_sem]; done) | (simp [go_sem, *]; done))
  have c2_1_1 := hb2.get (b := w.heap.size + 1) (o := 1) (v := .int .u64 (hi (u))) (by first | with_reducible exact c1_1_1 | (simp [go_sem]; done) | (simp [go_sem, *]; done))
  have c2_1_2 := hb2.get (b := w.heap.size + 1) (o := 2) (v := .int .u64 (lo (u))) (by first | with_reducible exact c1_1_2 | (simp [go_sem]; done) | (simp [go_sem, *]; done))
  have z2_2 : w.heap.size + 1 + 1 < w2.heap.size := (by omega)
  have c2_2_0 := hb2.get (b := w.heap.size + 1 + 1) (o := 0) (v := .int .i64 0) (by first | with_reducible exact c1_2_0 | (simp [go_sem]; done) | (simp [go_sem, *]; done))
  have f2_2_0 := hb2.free (b := w.heap.size + 1 + 1) (o := 0) (v := .int .i64 0) (by first | with_reducible exact c1_2_0 | (simp [go_sem]; done) | (simp [go_sem, *]; done)) (by first | with_reducible exact f1_2_0 | (simp [go_sem]; done) | (simp [go_sem, *]; done))
  have c2_2_1 := hb2.get (b := w.heap.size + 1 + 1) (o := 1) (v := .int .u64 0) (by first | with_reducible exact c1_2_1 | (simp [go_sem]; done) | (simp [go_sem, *]; done))
  have f2_2_1 := hb2.free (b := w.heap.size + 1 + 1) (o := 1) (v := .int .u64 0) (by first | with_reducible exact c1_2_1 | (simp [go_sem]; done) | (simp [go_sem, *]; done)) (by first | with_reducible exact f1_2_1 | (simp [go_sem]; done) | (simp [go_sem, *]; done))
  have c2_2_2 := hb2.get (b := w.heap.size + 1 + 1) (o := 2) (v := .int .u64 0) (by first | with_reducible exact c1_2_2 | (simp [go_sem]; done) | (simp [go_sem, *]; done))
  have f2_2_2 := hb2.free (b := w.heap.size + 1 + 1) (o := 2) (v := .int .u64 0) (by first | with_reducible exact c1_2_2 | (simp [go_sem]; done) | (simp [go_sem, *]; done)) (by first | with_reducible exact f1_2_2 | (simp [go_sem]; done) | (simp [go_sem, *]; done))
  clear hz2
  rw [K.out]
  go_wp2_with fail
  go_region_held3 (fun w' => w'.cell? ⟨w.heap.size, 0, none⟩ = some (.int .i64 (W)) ∧ w'.cell? ⟨w.heap.size, 1, none⟩ = some (.int .u64 (hi (v))) ∧ w'.cell? ⟨w.heap.size, 2, none⟩ = some (.int .u64 (lo (v))) ∧ w'.cell? ⟨w.heap.size + 1, 0, none⟩ = some (.int .i64 (W)) ∧ w'.cell? ⟨w.heap.size + 1, 1, none⟩ = some (.int .u64 (hi (u))) ∧ w'.cell? ⟨w.heap.size + 1, 2, none⟩ = some (.int .u64 (lo (u)))) (simp [go_sem, *])
    (first
      | (go_at_call_of 16 (hi v); refine (signed_any _ _ HN.out _).mono ?_; rintro e w3 ⟨rfl, hb3⟩; have hz3 := hb3.size; (try simp at hz3); have z3_0 : w.heap.size < w3.heap.size := (by omega); have c3_0_0 := hb3.get (b := w.heap.size) (o := 0) (v := .int .i64 (W)) (by first | with_reducible exact c2_0_0 | (simp [go_sem]; done) | (simp [go_sem, *]; done)); have c3_0_1 := hb3.get (b := w.heap.size) (o := 1) (v := .int .u64 (hi (v))) (by first | with_reducible exact c2_0_1 | (simp [go_sem]; done) | (simp [go_sem, *]; done)); have c3_0_2 := hb3.get (b := w.heap.size) (o := 2) (v := .int .u64 (lo (v))) (by first | with_reducible exact c2_0_2 | (simp [go_sem]; done) | (simp [go_sem, *]; done)); have z3_1 : w.heap.size + 1 < w3.heap.size := (by omega); have c3_1_0 := hb3.get (b := w.heap.size + 1) (o := 0) (v := .int .i64 (W)) (by first | with_reducible exact c2_1_0 | (simp [go_sem]; done) | (simp [go_sem, *]; done)); have c3_1_1 := hb3.get (b := w.heap.size + 1) (o := 1) (v := .int .u64 (hi (u))) (by first | with_reducible exact c2_1_1 | (simp [go_sem]; done) | (simp [go_sem, *]; done)); have c3_1_2 := hb3.get (b := w.heap.size + 1) (o := 2) (v := .int .u64 (lo (u))) (by first | with_reducible exact c2_1_2 | (simp [go_sem]; done) | (simp [go_sem, *]; done)); have z3_2 : w.heap.size + 1 + 1 < w3.heap.size := (by omega); have c3_2_0 := hb3.get (b := w.heap.size + 1 + 1) (o := 0) (v := .int .i64 0) (by first | with_reducible exact c2_2_0 | (simp [go_sem]; done) | (simp [go_sem, *]; done)); have f3_2_0 := hb3.free (b := w.heap.size + 1 + 1) (o := 0) (v := .int .i64 0) (by first | with_reducible exact c2_2_0 | (simp [go_sem]; done) | (simp [go_sem, *]; done)) (by first | with_reducible exact f2_2_0 | (simp [go_sem]; done) | (simp [go_sem, *]; done)); have c3_2_1 := hb3.get (b := w.heap.size + 1 + 1) (o := 1) (v := .int .u64 0) (by first | with_reducible exact c2_2_1 | (simp [go_sem]; done) | (simp [go_sem, *]; done)); have f3_2_1 := hb3.free (b := w.heap.size + 1 + 1) (o := 1) (v := .int .u64 0) (by first | with_reducible exact c2_2_1 | (simp [go_sem]; done) | (simp [go_sem, *]; done)) (by first | with_reducible exact f2_2_1 | (simp [go_sem]; done) | (simp [go_sem, *]; done)); have c3_2_2 := hb3.get (b := w.heap.size + 1 + 1) (o := 2) (v := .int .u64 0) (by first | with_reducible exact c2_2_2 | (simp [go_sem]; done) | (simp [go_sem, *]; done)); have f3_2_2 := hb3.free (b := w.heap.size + 1 + 1) (o := 2) (v := .int .u64 0) (by first | with_reducible exact c2_2_2 | (simp [go_sem]; done) | (simp [go_sem, *]; done)) (by first | with_reducible exact f2_2_2 | (simp [go_sem]; done) | (simp [go_sem, *]; done)); clear hz3)
      | (go_at_call_of 16 (hi u); refine (signed_any _ _ KN.out _).mono ?_; rintro e w4 ⟨rfl, hb4⟩; have hz4 := hb4.size; (try simp at hz4); have z4_0 : w.heap.size < w4.heap.size := (by omega); have c4_0_0 := hb4.get (b := w.heap.size) (o := 0) (v := .int .i64 (W)) (by first | with_reducible exact c3_0_0 | (simp [go_sem]; done) | (simp [go_sem, *]; done)); have c4_0_1 := hb4.get (b := w.heap.size) (o := 1) (v := .int .u64 (hi (v))) (by first | with_reducible exact c3_0_1 | (simp [go_sem]; done) | (simp [go_sem, *]; done)); have c4_0_2 := hb4.get (b := w.heap.size) (o := 2) (v := .int .u64 (lo (v))) (by first | with_reducible exact c3_0_2 | (simp [go_sem]; done) | (simp [go_sem, *]; done)); have z4_1 : w.heap.size + 1 < w4.heap.size := (by omega); have c4_1_0 := hb4.get (b := w.heap.size + 1) (o := 0) (v := .int .i64 (W)) (by first | with_reducible exact c3_1_0 | (simp [go_sem]; done) | (simp [go_sem, *]; done)); have c4_1_1 := hb4.get (b := w.heap.size + 1) (o := 1) (v := .int .u64 (hi (u))) (by first | with_reducible exact c3_1_1 | (simp [go_sem]; done) | (simp [go_sem, *]; done)); have c4_1_2 := hb4.get (b := w.heap.size + 1) (o := 2) (v := .int .u64 (lo (u))) (by first | with_reducible exact c3_1_2 | (simp [go_sem]; done) | (simp [go_sem, *]; done)); have z4_2 : w.heap.size + 1 + 1 < w4.heap.size := (by omega); have c4_2_0 := hb4.get (b := w.heap.size + 1 + 1) (o := 0) (v := .int .i64 0) (by first | with_reducible exact c3_2_0 | (simp [go_sem]; done) | (simp [go_sem, *]; done)); have f4_2_0 := hb4.free (b := w.heap.size + 1 + 1) (o := 0) (v := .int .i64 0) (by first | with_reducible exact c3_2_0 | (simp [go_sem]; done) | (simp [go_sem, *]; done)) (by first | with_reducible exact f3_2_0 | (simp [go_sem]; done) | (simp [go_sem, *]; done)); have c4_2_1 := hb4.get (b := w.heap.size + 1 + 1) (o := 1) (v := .int .u64 0) (by first | with_reducible exact c3_2_1 | (simp [go_sem]; done) | (simp [go_sem, *]; done)); have f4_2_1 := hb4.free (b := w.heap.size + 1 + 1) (o := 1) (v := .int .u64 0) (by first | with_reducible exact c3_2_1 | (simp [go_sem]; done) | (simp [go_sem, *]; done)) (by first | with_reducible exact f3_2_1 | (simp [go_sem]; done) | (simp [go_sem, *]; done)); have c4_2_2 := hb4.get (b := w.heap.size + 1 + 1) (o := 2) (v := .int .u64 0) (by first | with_reducible exact c3_2_2 | (simp [go_sem]; done) | (simp [go_sem, *]; done)); have f4_2_2 := hb4.free (b := w.heap.size + 1 + 1) (o := 2) (v := .int .u64 0) (by first | with_reducible exact c3_2_2 | (simp [go_sem]; done) | (simp [go_sem, *]; done)) (by first | with_reducible exact f3_2_2 | (simp [go_sem]; done) | (simp [go_sem, *]; done)); clear hz4)
      | (go_at_call 15; refine (HD.out _).mono ?_; rintro e w5 ⟨rfl, hb5⟩; have hz5 := hb5.size; (try simp at hz5); have z5_0 : w.heap.size < w5.heap.size := (by omega); have c5_0_0 := hb5.get (b := w.heap.size) (o := 0) (v := .int .i64 (W)) (by first | with_reducible exact c4_0_0 | (simp [go_sem]; done) | (simp [go_sem, *]; done)); have c5_0_1 := hb5.get (b := w.heap.size) (o := 1) (v := .int .u64 (hi (v))) (by first | with_reducible exact c4_0_1 | (simp [go_sem]; done) | (simp [go_sem, *]; done)); have c5_0_2 := hb5.get (b := w.heap.size) (o := 2) (v := .int .u64 (lo (v))) (by first | with_reducible exact c4_0_2 | (simp [go_sem]; done) | (simp [go_sem, *]; done)); have z5_1 : w.heap.size + 1 < w5.heap.size := (by omega); have c5_1_0 := hb5.get (b := w.heap.size + 1) (o := 0) (v := .int .i64 (W)) (by first | with_reducible exact c4_1_0 | (simp [go_sem]; done) | (simp [go_sem, *]; done)); have c5_1_1 := hb5.get (b := w.heap.size + 1) (o := 1) (v := .int .u64 (hi (u))) (by first | with_reducible exact c4_1_1 | (simp [go_sem]; done) | (simp [go_sem, *]; done)); have c5_1_2 := hb5.get (b := w.heap.size + 1) (o := 2) (v := .int .u64 (lo (u))) (by first | with_reducible exact c4_1_2 | (simp [go_sem]; done) | (simp [go_sem, *]; done)); have z5_2 : w.heap.size + 1 + 1 < w5.heap.size := (by omega); have c5_2_0 := hb5.get (b := w.heap.size + 1 + 1) (o := 0) (v := .int .i64 0) (by first | with_reducible exact c4_2_0 | (simp [go_sem]; done) | (simp [go_sem, *]; done)); have f5_2_0 := hb5.free (b := w.heap.size + 1 + 1) (o := 0) (v := .int .i64 0) (by first | with_reducible exact c4_2_0 | (simp [go_sem]; done) | (simp [go_sem, *]; done)) (by first | with_reducible exact f4_2_0 | (simp [go_sem]; done) | (simp [go_sem, *]; done)); have c5_2_1 := hb5.get (b := w.heap.size + 1 + 1) (o := 1) (v := .int .u64 0) (by first | with_reducible exact c4_2_1 | (simp [go_sem]; done) | (simp [go_sem, *]; done)); have f5_2_1 := hb5.free (b := w.heap.size + 1 + 1) (o := 1) (v := .int .u64 0) (by first | with_reducible exact c4_2_1 | (simp [go_sem]; done) | (simp [go_sem, *]; done)) (by first | with_reducible exact f4_2_1 | (simp [go_sem]; done) | (simp [go_sem, *]; done)); have c5_2_2 := hb5.get (b := w.heap.size + 1 + 1) (o := 2) (v := .int .u64 0) (by first | with_reducible exact c4_2_2 | (simp [go_sem]; done) | (simp [go_sem, *]; done)); have f5_2_2 := hb5.free (b := w.heap.size + 1 + 1) (o := 2) (v := .int .u64 0) (by first | with_reducible exact c4_2_2 | (simp [go_sem]; done) | (simp [go_sem, *]; done)) (by first | with_reducible exact f4_2_2 | (simp [go_sem]; done) | (simp [go_sem, *]; done)); clear hz5))
  go_wp2
  exact bodyPost_ret (v := bv W z) (by simp [results, Try.results5, go_sem, *]) rfl ⟨rfl, by repeat (first | with_reducible exact Fr.refl _ | with_reducible apply Fr.drewN | with_reducible apply Fr.drew | with_reducible apply Fr.alloc | (with_reducible refine Fr.set ?_ (by simp; try omega) _) | (with_reducible refine Fr.call ?_ (by assumption)))⟩
set_option maxHeartbeats 4000000 in
theorem bin_15 (W v u : Int) (h : Norm W v) (k : Norm W u) (w : World) :
    Calls Try.prog 5 #[.int .i64 15, bv W v, bv W u] w fun e w' => e = .returned (bv 1 (b01 (ltB v u))) ∧ Fr w w' := by
  generalize hq : ltB v u = q
  have HQ := Lib.hid hq; clear hq
  have HN := Lib.hid h; have KN := Lib.hid k
  have H := Lib.hid (norm_to h); have hv := h.lt128; have hv0 := h.2.2.1; have hw1 := h.1; have hw2 := h.2.1; clear h
  have K := Lib.hid (norm_to k); have hu := k.lt128; have hu0 := k.2.2.1; clear k
  go_enter Try.func5, Try.ntmps5
  go_wp2_with fail
  refine (normal_any _ _ hv0 hv _).mono ?_
  rintro e w1 ⟨rfl, hb1⟩
  have hz1 := hb1.size
  (try simp at hz1)
  have z1_0 : w.heap.size < w1.heap.size := (by omega)
  have c1_0_0 := hb1.get (b := w.heap.size) (o := 0) (v := .int .i64 (W)) (by first | (simp [go_sem]; done) | (simp [go_sem, *]; done))
  have c1_0_1 := hb1.get (b := w.heap.size) (o := 1) (v := .int .u64 (hi (v))) (by first | (simp [go_sem]; done) | (simp [go_sem, *]; done))
  have c1_0_2 := hb1.get (b := w.heap.size) (o := 2) (v := .int .u64 (lo (v))) (by first | (simp [go_sem]; done) | (simp [go_sem, *]; done))
  have z1_1 : w.heap.size + 1 < w1.heap.size := (by omega)
  have c1_1_0 := hb1.get (b := w.heap.size + 1) (o := 0) (v := .int .i64 (W)) (by first | (simp [go_sem]; done) | (simp [go_sem, *]; done))
  have c1_1_1 := hb1.get (b := w.heap.size + 1) (o := 1) (v := .int .u64 (hi (u))) (by first | (simp [go_sem]; done) | (simp [go_sem, *]; done))
  have c1_1_2 := hb1.get (b := w.heap.size + 1) (o := 2) (v := .int .u64 (lo (u))) (by first | (simp [go_sem]; done) | (simp [go_sem, *]; done))
  have z1_2 : w.heap.size + 1 + 1 < w1.heap.size := (by omega)
  have c1_2_0 := hb1.get (b := w.heap.size + 1 + 1) (o := 0) (v := .int .i64 0) (by first | (simp [go_sem]; done) | (simp [go_sem, *]; done))
  have f1_2_0 := hb1.free (b := w.heap.size + 1 + 1) (o := 0) (v := .int .i64 0) (by first | (simp [go_sem]; done) | (simp [go_sem, *]; done)) (by first | (simp [go_sem]; done) | (simp [go_sem, *]; done))
  have c1_2_1 := hb1.get (b := w.heap.size + 1 + 1) (o := 1) (v := .int .u64 0) (by first | (simp [go_sem]; done) | (simp [go_sem, *]; done))
  have f1_2_1 := hb1.free (b := w.heap.size + 1 + 1) (o := 1) (v := .int .u64 0) (by first | (simp [go_sem]; done) | (simp [go_sem, *]; done)) (by first | (simp [go_sem]; done) | (simp [go_sem, *]; done))
  have c1_2_2 := hb1.get (b := w.heap.size + 1 + 1) (o := 2) (v := .int .u64 0) (by first | (simp [go_sem]; done) | (simp [go_sem, *]; done))
  have f1_2_2 := hb1.free (b := w.heap.size + 1 + 1) (o := 2) (v := .int .u64 0) (by first | (simp [go_sem]; done) | (simp [go_sem, *]; done)) (by first | (simp [go_sem]; done) | (simp [go_sem, *]; done))
  clear hz1
  rw [H.out]
  go_wp2_with fail
  refine (normal_any _ _ hu0 hu _).mono ?_
  rintro e w2 ⟨rfl, hb2⟩
  have hz2 := hb2.size
  (try simp at hz2)
  have z2_0 : w.heap.size < w2.heap.size := (by omega)
  have c2_0_0 := hb2.get (b := w.heap.size) (o := 0) (v := .int .i64 (W)) (by first | with_reducible exact c1_0_0 | (simp [go_sem]; done) | (simp [go_sem, *]; done))
  have c2_0_1 := hb2.get (b := w.heap.size) (o := 1) (v := .int .u64 (hi (v))) (by first | with_reducible exact c1_0_1 | (simp [go_sem]; done) | (simp [go_sem, *]; done))
  have c2_0_2 := hb2.get (b := w.heap.size) (o := 2) (v := .int .u64 (lo (v))) (by first | with_reducible exact c1_0_2 | (simp [go_sem]; done) | (simp [go_sem, *]; done))
  have z2_1 : w.heap.size + 1 < w2.heap.size := (by omega)
  have c2_1_0 := hb2.get (b := w.heap.size + 1) (o := 0) (v := .int .i64 (W)) (by first | with_reducible exact c1_1_0 | (simp [go_sem]; done) | (simp [go_sem, *]; done))
  have c2_1_1 := hb2.get (b := w.heap.size + 1) (o := 1) (v := .int .u64 (hi (u))) (by first | with_reducible exact c1_1_1 | (simp [go_sem]; done) | (simp [go_sem, *]; done))
  have c2_1_2 := hb2.get (b := w.heap.size + 1) (o := 2) (v := .int .u64 (lo (u))) (by first | with_reducible exact c1_1_2 | (simp [go_sem]; done) | (simp [go_sem, *]; done))
  have z2_2 : w.heap.size + 1 + 1 < w2.heap.size := (by omega)
  have c2_2_0 := hb2.get (b := w.heap.size + 1 + 1) (o := 0) (v := .int .i64 0) (by first | with_reducible exact c1_2_0 | (simp [go_sem]; done) | (simp [go_sem, *]; done))
  have f2_2_0 := hb2.free (b := w.heap.size + 1 + 1) (o := 0) (v := .int .i64 0) (by first | with_reducible exact c1_2_0 | (simp [go_sem]; done) | (simp [go_sem, *]; done)) (by first | with_reducible exact f1_2_0 | (simp [go_sem]; done) | (simp [go_sem, *]; done))
  have c2_2_1 := hb2.get (b := w.heap.size + 1 + 1) (o := 1) (v := .int .u64 0) (by first | with_reducible exact c1_2_1 | (simp [go_sem]; done) | (simp [go_sem, *]; done))
  have f2_2_1 := hb2.free (b := w.heap.size + 1 + 1) (o := 1) (v := .int .u64 0) (by first | with_reducible exact c1_2_1 | (simp [go_sem]; done) | (simp [go_sem, *]; done)) (by first | with_reducible exact f1_2_1 | (simp [go_sem]; done) | (simp [go_sem, *]; done))
  have c2_2_2 := hb2.get (b := w.heap.size + 1 + 1) (o := 2) (v := .int .u64 0) (by first | with_reducible exact c1_2_2 | (simp [go_sem]; done) | (simp [go_sem, *]; done))
  have f2_2_2 := hb2.free (b := w.heap.size + 1 + 1) (o := 2) (v := .int .u64 0) (by first | with_reducible exact c1_2_2 | (simp [go_sem]; done) | (simp [go_sem, *]; done)) (by first | with_reducible exact f1_2_2 | (simp [go_sem]; done) | (simp [go_sem, *]; done))
  clear hz2
  rw [K.out]
  go_wp2_with fail
  go_region_held3 (fun w' => w'.cell? ⟨w.heap.size, 0, none⟩ = some (.int .i64 (W)) ∧ w'.cell? ⟨w.heap.size, 1, none⟩ = some (.int .u64 (hi (v))) ∧ w'.cell? ⟨w.heap.size, 2, none⟩ = some (.int .u64 (lo (v))) ∧ w'.cell? ⟨w.heap.size + 1, 0, none⟩ = some (.int .i64 (W)) ∧ w'.cell? ⟨w.heap.size + 1, 1, none⟩ = some (.int .u64 (hi (u))) ∧ w'.cell? ⟨w.heap.size + 1, 2, none⟩ = some (.int .u64 (lo (u)))) (simp [go_sem, *])
    (first
      | (go_at_call_of 13 (hi v); refine (value_any _ _ _).mono ?_; rintro e w3 ⟨rfl, hb3⟩; have hz3 := hb3.size; (try simp at hz3); have z3_0 : w.heap.size < w3.heap.size := (by omega); have c3_0_0 := hb3.get (b := w.heap.size) (o := 0) (v := .int .i64 (W)) (by first | with_reducible exact c2_0_0 | (simp [go_sem]; done) | (simp [go_sem, *]; done)); have c3_0_1 := hb3.get (b := w.heap.size) (o := 1) (v := .int .u64 (hi (v))) (by first | with_reducible exact c2_0_1 | (simp [go_sem]; done) | (simp [go_sem, *]; done)); have c3_0_2 := hb3.get (b := w.heap.size) (o := 2) (v := .int .u64 (lo (v))) (by first | with_reducible exact c2_0_2 | (simp [go_sem]; done) | (simp [go_sem, *]; done)); have z3_1 : w.heap.size + 1 < w3.heap.size := (by omega); have c3_1_0 := hb3.get (b := w.heap.size + 1) (o := 0) (v := .int .i64 (W)) (by first | with_reducible exact c2_1_0 | (simp [go_sem]; done) | (simp [go_sem, *]; done)); have c3_1_1 := hb3.get (b := w.heap.size + 1) (o := 1) (v := .int .u64 (hi (u))) (by first | with_reducible exact c2_1_1 | (simp [go_sem]; done) | (simp [go_sem, *]; done)); have c3_1_2 := hb3.get (b := w.heap.size + 1) (o := 2) (v := .int .u64 (lo (u))) (by first | with_reducible exact c2_1_2 | (simp [go_sem]; done) | (simp [go_sem, *]; done)); have z3_2 : w.heap.size + 1 + 1 < w3.heap.size := (by omega); have c3_2_0 := hb3.get (b := w.heap.size + 1 + 1) (o := 0) (v := .int .i64 0) (by first | with_reducible exact c2_2_0 | (simp [go_sem]; done) | (simp [go_sem, *]; done)); have f3_2_0 := hb3.free (b := w.heap.size + 1 + 1) (o := 0) (v := .int .i64 0) (by first | with_reducible exact c2_2_0 | (simp [go_sem]; done) | (simp [go_sem, *]; done)) (by first | with_reducible exact f2_2_0 | (simp [go_sem]; done) | (simp [go_sem, *]; done)); have c3_2_1 := hb3.get (b := w.heap.size + 1 + 1) (o := 1) (v := .int .u64 0) (by first | with_reducible exact c2_2_1 | (simp [go_sem]; done) | (simp [go_sem, *]; done)); have f3_2_1 := hb3.free (b := w.heap.size + 1 + 1) (o := 1) (v := .int .u64 0) (by first | with_reducible exact c2_2_1 | (simp [go_sem]; done) | (simp [go_sem, *]; done)) (by first | with_reducible exact f2_2_1 | (simp [go_sem]; done) | (simp [go_sem, *]; done)); have c3_2_2 := hb3.get (b := w.heap.size + 1 + 1) (o := 2) (v := .int .u64 0) (by first | with_reducible exact c2_2_2 | (simp [go_sem]; done) | (simp [go_sem, *]; done)); have f3_2_2 := hb3.free (b := w.heap.size + 1 + 1) (o := 2) (v := .int .u64 0) (by first | with_reducible exact c2_2_2 | (simp [go_sem]; done) | (simp [go_sem, *]; done)) (by first | with_reducible exact f2_2_2 | (simp [go_sem]; done) | (simp [go_sem, *]; done)); clear hz3)
      | (go_at_call_of 13 (hi u); refine (value_any _ _ _).mono ?_; rintro e w4 ⟨rfl, hb4⟩; have hz4 := hb4.size; (try simp at hz4); have z4_0 : w.heap.size < w4.heap.size := (by omega); have c4_0_0 := hb4.get (b := w.heap.size) (o := 0) (v := .int .i64 (W)) (by first | with_reducible exact c3_0_0 | (simp [go_sem]; done) | (simp [go_sem, *]; done)); have c4_0_1 := hb4.get (b := w.heap.size) (o := 1) (v := .int .u64 (hi (v))) (by first | with_reducible exact c3_0_1 | (simp [go_sem]; done) | (simp [go_sem, *]; done)); have c4_0_2 := hb4.get (b := w.heap.size) (o := 2) (v := .int .u64 (lo (v))) (by first | with_reducible exact c3_0_2 | (simp [go_sem]; done) | (simp [go_sem, *]; done)); have z4_1 : w.heap.size + 1 < w4.heap.size := (by omega); have c4_1_0 := hb4.get (b := w.heap.size + 1) (o := 0) (v := .int .i64 (W)) (by first | with_reducible exact c3_1_0 | (simp [go_sem]; done) | (simp [go_sem, *]; done)); have c4_1_1 := hb4.get (b := w.heap.size + 1) (o := 1) (v := .int .u64 (hi (u))) (by first | with_reducible exact c3_1_1 | (simp [go_sem]; done) | (simp [go_sem, *]; done)); have c4_1_2 := hb4.get (b := w.heap.size + 1) (o := 2) (v := .int .u64 (lo (u))) (by first | with_reducible exact c3_1_2 | (simp [go_sem]; done) | (simp [go_sem, *]; done)); have z4_2 : w.heap.size + 1 + 1 < w4.heap.size := (by omega); have c4_2_0 := hb4.get (b := w.heap.size + 1 + 1) (o := 0) (v := .int .i64 0) (by first | with_reducible exact c3_2_0 | (simp [go_sem]; done) | (simp [go_sem, *]; done)); have f4_2_0 := hb4.free (b := w.heap.size + 1 + 1) (o := 0) (v := .int .i64 0) (by first | with_reducible exact c3_2_0 | (simp [go_sem]; done) | (simp [go_sem, *]; done)) (by first | with_reducible exact f3_2_0 | (simp [go_sem]; done) | (simp [go_sem, *]; done)); have c4_2_1 := hb4.get (b := w.heap.size + 1 + 1) (o := 1) (v := .int .u64 0) (by first | with_reducible exact c3_2_1 | (simp [go_sem]; done) | (simp [go_sem, *]; done)); have f4_2_1 := hb4.free (b := w.heap.size + 1 + 1) (o := 1) (v := .int .u64 0) (by first | with_reducible exact c3_2_1 | (simp [go_sem]; done) | (simp [go_sem, *]; done)) (by first | with_reducible exact f3_2_1 | (simp [go_sem]; done) | (simp [go_sem, *]; done)); have c4_2_2 := hb4.get (b := w.heap.size + 1 + 1) (o := 2) (v := .int .u64 0) (by first | with_reducible exact c3_2_2 | (simp [go_sem]; done) | (simp [go_sem, *]; done)); have f4_2_2 := hb4.free (b := w.heap.size + 1 + 1) (o := 2) (v := .int .u64 0) (by first | with_reducible exact c3_2_2 | (simp [go_sem]; done) | (simp [go_sem, *]; done)) (by first | with_reducible exact f3_2_2 | (simp [go_sem]; done) | (simp [go_sem, *]; done)); clear hz4)
      | (go_at_call 18; refine (wless_any _ _ _).mono ?_; rintro e w5 ⟨rfl, hb5⟩; rw [HQ.out]; have hz5 := hb5.size; (try simp at hz5); have z5_0 : w.heap.size < w5.heap.size := (by omega); have c5_0_0 := hb5.get (b := w.heap.size) (o := 0) (v := .int .i64 (W)) (by first | with_reducible exact c4_0_0 | (simp [go_sem]; done) | (simp [go_sem, *]; done)); have c5_0_1 := hb5.get (b := w.heap.size) (o := 1) (v := .int .u64 (hi (v))) (by first | with_reducible exact c4_0_1 | (simp [go_sem]; done) | (simp [go_sem, *]; done)); have c5_0_2 := hb5.get (b := w.heap.size) (o := 2) (v := .int .u64 (lo (v))) (by first | with_reducible exact c4_0_2 | (simp [go_sem]; done) | (simp [go_sem, *]; done)); have z5_1 : w.heap.size + 1 < w5.heap.size := (by omega); have c5_1_0 := hb5.get (b := w.heap.size + 1) (o := 0) (v := .int .i64 (W)) (by first | with_reducible exact c4_1_0 | (simp [go_sem]; done) | (simp [go_sem, *]; done)); have c5_1_1 := hb5.get (b := w.heap.size + 1) (o := 1) (v := .int .u64 (hi (u))) (by first | with_reducible exact c4_1_1 | (simp [go_sem]; done) | (simp [go_sem, *]; done)); have c5_1_2 := hb5.get (b := w.heap.size + 1) (o := 2) (v := .int .u64 (lo (u))) (by first | with_reducible exact c4_1_2 | (simp [go_sem]; done) | (simp [go_sem, *]; done)); have z5_2 : w.heap.size + 1 + 1 < w5.heap.size := (by omega); have c5_2_0 := hb5.get (b := w.heap.size + 1 + 1) (o := 0) (v := .int .i64 0) (by first | with_reducible exact c4_2_0 | (simp [go_sem]; done) | (simp [go_sem, *]; done)); have f5_2_0 := hb5.free (b := w.heap.size + 1 + 1) (o := 0) (v := .int .i64 0) (by first | with_reducible exact c4_2_0 | (simp [go_sem]; done) | (simp [go_sem, *]; done)) (by first | with_reducible exact f4_2_0 | (simp [go_sem]; done) | (simp [go_sem, *]; done)); have c5_2_1 := hb5.get (b := w.heap.size + 1 + 1) (o := 1) (v := .int .u64 0) (by first | with_reducible exact c4_2_1 | (simp [go_sem]; done) | (simp [go_sem, *]; done)); have f5_2_1 := hb5.free (b := w.heap.size + 1 + 1) (o := 1) (v := .int .u64 0) (by first | with_reducible exact c4_2_1 | (simp [go_sem]; done) | (simp [go_sem, *]; done)) (by first | with_reducible exact f4_2_1 | (simp [go_sem]; done) | (simp [go_sem, *]; done)); have c5_2_2 := hb5.get (b := w.heap.size + 1 + 1) (o := 2) (v := .int .u64 0) (by first | with_reducible exact c4_2_2 | (simp [go_sem]; done) | (simp [go_sem, *]; done)); have f5_2_2 := hb5.free (b := w.heap.size + 1 + 1) (o := 2) (v := .int .u64 0) (by first | with_reducible exact c4_2_2 | (simp [go_sem]; done) | (simp [go_sem, *]; done)) (by first | with_reducible exact f4_2_2 | (simp [go_sem]; done) | (simp [go_sem, *]; done)); clear hz5)
      | (go_at_call 17; refine (truth_to _ _).mono ?_; rintro e w6 ⟨rfl, hb6⟩; have hz6 := hb6.size; (try simp at hz6); have z6_0 : w.heap.size < w6.heap.size := (by omega); have c6_0_0 := hb6.get (b := w.heap.size) (o := 0) (v := .int .i64 (W)) (by first | with_reducible exact c5_0_0 | (simp [go_sem]; done) | (simp [go_sem, *]; done)); have c6_0_1 := hb6.get (b := w.heap.size) (o := 1) (v := .int .u64 (hi (v))) (by first | with_reducible exact c5_0_1 | (simp [go_sem]; done) | (simp [go_sem, *]; done)); have c6_0_2 := hb6.get (b := w.heap.size) (o := 2) (v := .int .u64 (lo (v))) (by first | with_reducible exact c5_0_2 | (simp [go_sem]; done) | (simp [go_sem, *]; done)); have z6_1 : w.heap.size + 1 < w6.heap.size := (by omega); have c6_1_0 := hb6.get (b := w.heap.size + 1) (o := 0) (v := .int .i64 (W)) (by first | with_reducible exact c5_1_0 | (simp [go_sem]; done) | (simp [go_sem, *]; done)); have c6_1_1 := hb6.get (b := w.heap.size + 1) (o := 1) (v := .int .u64 (hi (u))) (by first | with_reducible exact c5_1_1 | (simp [go_sem]; done) | (simp [go_sem, *]; done)); have c6_1_2 := hb6.get (b := w.heap.size + 1) (o := 2) (v := .int .u64 (lo (u))) (by first | with_reducible exact c5_1_2 | (simp [go_sem]; done) | (simp [go_sem, *]; done)); have z6_2 : w.heap.size + 1 + 1 < w6.heap.size := (by omega); have c6_2_0 := hb6.get (b := w.heap.size + 1 + 1) (o := 0) (v := .int .i64 0) (by first | with_reducible exact c5_2_0 | (simp [go_sem]; done) | (simp [go_sem, *]; done)); have f6_2_0 := hb6.free (b := w.heap.size + 1 + 1) (o := 0) (v := .int .i64 0) (by first | with_reducible exact c5_2_0 | (simp [go_sem]; done) | (simp [go_sem, *]; done)) (by first | with_reducible exact f5_2_0 | (simp [go_sem]; done) | (simp [go_sem, *]; done)); have c6_2_1 := hb6.get (b := w.heap.size + 1 + 1) (o := 1) (v := .int .u64 0) (by first | with_reducible exact c5_2_1 | (simp [go_sem]; done) | (simp [go_sem, *]; done)); have f6_2_1 := hb6.free (b := w.heap.size + 1 + 1) (o := 1) (v := .int .u64 0) (by first | with_reducible exact c5_2_1 | (simp [go_sem]; done) | (simp [go_sem, *]; done)) (by first | with_reducible exact f5_2_1 | (simp [go_sem]; done) | (simp [go_sem, *]; done)); have c6_2_2 := hb6.get (b := w.heap.size + 1 + 1) (o := 2) (v := .int .u64 0) (by first | with_reducible exact c5_2_2 | (simp [go_sem]; done) | (simp [go_sem, *]; done)); have f6_2_2 := hb6.free (b := w.heap.size + 1 + 1) (o := 2) (v := .int .u64 0) (by first | with_reducible exact c5_2_2 | (simp [go_sem]; done) | (simp [go_sem, *]; done)) (by first | with_reducible exact f5_2_2 | (simp [go_sem]; done) | (simp [go_sem, *]; done)); clear hz6))
  go_wp2
  exact bodyPost_ret (v := bv 1 (b01 q)) (by simp [results, Try.results5, go_sem, *]) rfl ⟨rfl, by repeat (first | with_reducible exact Fr.refl _ | with_reducible apply Fr.drewN | with_reducible apply Fr.drew | with_reducible apply Fr.alloc | (with_reducible refine Fr.set ?_ (by simp; try omega) _) | (with_reducible refine Fr.call ?_ (by assumption)))⟩
set_option maxHeartbeats 4000000 in
theorem bin_16 (W v u : Int) (h : Norm W v) (k : Norm W u) (w : World) :
    Calls Try.prog 5 #[.int .i64 16, bv W v, bv W u] w fun e w' => e = .returned (bv 1 (b01 ((if negB (sgnI W v) != negB (sgnI W u) then negB (sgnI W v) else ltB (sgnI W v) (sgnI W u))))) ∧ Fr w w' := by
  generalize hq : (if negB (sgnI W v) != negB (sgnI W u) then negB (sgnI W v) else ltB (sgnI W v) (sgnI W u)) = q
  have HQ := Lib.hid hq; clear hq
  have HN := Lib.hid h; have KN := Lib.hid k
  have H := Lib.hid (norm_to h); have hv := h.lt128; have hv0 := h.2.2.1; have hw1 := h.1; have hw2 := h.2.1; clear h
  have K := Lib.hid (norm_to k); have hu := k.lt128; have hu0 := k.2.2.1; clear k
  go_enter Try.func5, Try.ntmps5
  go_wp2_with fail
  refine (normal_any _ _ hv0 hv _).mono ?_
  rintro e w1 ⟨rfl, hb1⟩
  have hz1 := hb1.size
  (try simp at hz1)
  have z1_0 : w.heap.size < w1.heap.size := (by omega)
  have c1_0_0 := hb1.get (b := w.heap.size) (o := 0) (v := .int .i64 (W)) (by first | (simp [go_sem]; done) | (simp [go_sem, *]; done))
  have c1_0_1 := hb1.get (b := w.heap.size) (o := 1) (v := .int .u64 (hi (v))) (by first | (simp [go_sem]; done) | (simp [go_sem, *]; done))
  have c1_0_2 := hb1.get (b := w.heap.size) (o := 2) (v := .int .u64 (lo (v))) (by first | (simp [go_sem]; done) | (simp [go_sem, *]; done))
  have z1_1 : w.heap.size + 1 < w1.heap.size := (by omega)
  have c1_1_0 := hb1.get (b := w.heap.size + 1) (o := 0) (v := .int .i64 (W)) (by first | (simp [go_sem]; done) | (simp [go_sem, *]; done))
  have c1_1_1 := hb1.get (b := w.heap.size + 1) (o := 1) (v := .int .u64 (hi (u))) (by first | (simp [go_sem]; done) | (simp [go_sem, *]; done))
  have c1_1_2 := hb1.get (b := w.heap.size + 1) (o := 2) (v := .int .u64 (lo (u))) (by first | (simp [go_sem]; done) | (simp [go_sem, *]; done))
  have z1_2 : w.heap.size + 1 + 1 < w1.heap.size := (by omega)
  have c1_2_0 := hb1.get (b := w.heap.size + 1 + 1) (o := 0) (v := .int .i64 0) (by first | (simp [go_sem]; done) | (simp [go_sem, *]; done))
  have f1_2_0 := hb1.free (b := w.heap.size + 1 + 1) (o := 0) (v := .int .i64 0) (by first | (simp [go_sem]; done) | (simp [go_sem, *]; done)) (by first | (simp [go_sem]; done) | (simp [go_sem, *]; done))
  have c1_2_1 := hb1.get (b := w.heap.size + 1 + 1) (o := 1) (v := .int .u64 0) (by first | (simp [go_sem]; done) | (simp [go_sem, *]; done))
  have f1_2_1 := hb1.free (b := w.heap.size + 1 + 1) (o := 1) (v := .int .u64 0) (by first | (simp [go_sem]; done) | (simp [go_sem, *]; done)) (by first | (simp [go_sem]; done) | (simp [go_sem, *]; done))
  have c1_2_2 := hb1.get (b := w.heap.size + 1 + 1) (o := 2) (v := .int .u64 0) (by first | (simp [go_sem]; done) | (simp [go_sem, *]; done))
  have f1_2_2 := hb1.free (b := w.heap.size + 1 + 1) (o := 2) (v := .int .u64 0) (by first | (simp [go_sem]; done) | (simp [go_sem, *]; done)) (by first | (simp [go_sem]; done) | (simp [go_sem, *]; done))
  clear hz1
  rw [H.out]
  go_wp2_with fail
  refine (normal_any _ _ hu0 hu _).mono ?_
  rintro e w2 ⟨rfl, hb2⟩
  have hz2 := hb2.size
  (try simp at hz2)
  have z2_0 : w.heap.size < w2.heap.size := (by omega)
  have c2_0_0 := hb2.get (b := w.heap.size) (o := 0) (v := .int .i64 (W)) (by first | with_reducible exact c1_0_0 | (simp [go_sem]; done) | (simp [go_sem, *]; done))
  have c2_0_1 := hb2.get (b := w.heap.size) (o := 1) (v := .int .u64 (hi (v))) (by first | with_reducible exact c1_0_1 | (simp [go_sem]; done) | (simp [go_sem, *]; done))
  have c2_0_2 := hb2.get (b := w.heap.size) (o := 2) (v := .int .u64 (lo (v))) (by first | with_reducible exact c1_0_2 | (simp [go_sem]; done) | (simp [go_sem, *]; done))
  have z2_1 : w.heap.size + 1 < w2.heap.size := (by omega)
  have c2_1_0 := hb2.get (b := w.heap.size + 1) (o := 0) (v := .int .i64 (W)) (by first | with_reducible exact c1_1_0 | (simp [go_sem]; done) | (simp [go_sem, *]; done))
  have c2_1_1 := hb2.get (b := w.heap.size + 1) (o := 1) (v := .int .u64 (hi (u))) (by first | with_reducible exact c1_1_1 | (simp [go_sem]; done) | (simp [go_sem, *]; done))
  have c2_1_2 := hb2.get (b := w.heap.size + 1) (o := 2) (v := .int .u64 (lo (u))) (by first | with_reducible exact c1_1_2 | (simp [go_sem]; done) | (simp [go_sem, *]; done))
  have z2_2 : w.heap.size + 1 + 1 < w2.heap.size := (by omega)
  have c2_2_0 := hb2.get (b := w.heap.size + 1 + 1) (o := 0) (v := .int .i64 0) (by first | with_reducible exact c1_2_0 | (simp [go_sem]; done) | (simp [go_sem, *]; done))
  have f2_2_0 := hb2.free (b := w.heap.size + 1 + 1) (o := 0) (v := .int .i64 0) (by first | with_reducible exact c1_2_0 | (simp [go_sem]; done) | (simp [go_sem, *]; done)) (by first | with_reducible exact f1_2_0 | (simp [go_sem]; done) | (simp [go_sem, *]; done))
  have c2_2_1 := hb2.get (b := w.heap.size + 1 + 1) (o := 1) (v := .int .u64 0) (by first | with_reducible exact c1_2_1 | (simp [go_sem]; done) | (simp [go_sem, *]; done))
  have f2_2_1 := hb2.free (b := w.heap.size + 1 + 1) (o := 1) (v := .int .u64 0) (by first | with_reducible exact c1_2_1 | (simp [go_sem]; done) | (simp [go_sem, *]; done)) (by first | with_reducible exact f1_2_1 | (simp [go_sem]; done) | (simp [go_sem, *]; done))
  have c2_2_2 := hb2.get (b := w.heap.size + 1 + 1) (o := 2) (v := .int .u64 0) (by first | with_reducible exact c1_2_2 | (simp [go_sem]; done) | (simp [go_sem, *]; done))
  have f2_2_2 := hb2.free (b := w.heap.size + 1 + 1) (o := 2) (v := .int .u64 0) (by first | with_reducible exact c1_2_2 | (simp [go_sem]; done) | (simp [go_sem, *]; done)) (by first | with_reducible exact f1_2_2 | (simp [go_sem]; done) | (simp [go_sem, *]; done))
  clear hz2
  rw [K.out]
  go_wp2_with fail
  go_region_held3 (fun w' => w'.cell? ⟨w.heap.size, 0, none⟩ = some (.int .i64 (W)) ∧ w'.cell? ⟨w.heap.size, 1, none⟩ = some (.int .u64 (hi (v))) ∧ w'.cell? ⟨w.heap.size, 2, none⟩ = some (.int .u64 (lo (v))) ∧ w'.cell? ⟨w.heap.size + 1, 0, none⟩ = some (.int .i64 (W)) ∧ w'.cell? ⟨w.heap.size + 1, 1, none⟩ = some (.int .u64 (hi (u))) ∧ w'.cell? ⟨w.heap.size + 1, 2, none⟩ = some (.int .u64 (lo (u)))) (simp [go_sem, *])
    (first
      | (go_at_call_of 16 (hi v); refine (signed_any _ _ HN.out _).mono ?_; rintro e w3 ⟨rfl, hb3⟩; have hz3 := hb3.size; (try simp at hz3); have z3_0 : w.heap.size < w3.heap.size := (by omega); have c3_0_0 := hb3.get (b := w.heap.size) (o := 0) (v := .int .i64 (W)) (by first | with_reducible exact c2_0_0 | (simp [go_sem]; done) | (simp [go_sem, *]; done)); have c3_0_1 := hb3.get (b := w.heap.size) (o := 1) (v := .int .u64 (hi (v))) (by first | with_reducible exact c2_0_1 | (simp [go_sem]; done) | (simp [go_sem, *]; done)); have c3_0_2 := hb3.get (b := w.heap.size) (o := 2) (v := .int .u64 (lo (v))) (by first | with_reducible exact c2_0_2 | (simp [go_sem]; done) | (simp [go_sem, *]; done)); have z3_1 : w.heap.size + 1 < w3.heap.size := (by omega); have c3_1_0 := hb3.get (b := w.heap.size + 1) (o := 0) (v := .int .i64 (W)) (by first | with_reducible exact c2_1_0 | (simp [go_sem]; done) | (simp [go_sem, *]; done)); have c3_1_1 := hb3.get (b := w.heap.size + 1) (o := 1) (v := .int .u64 (hi (u))) (by first | with_reducible exact c2_1_1 | (simp [go_sem]; done) | (simp [go_sem, *]; done)); have c3_1_2 := hb3.get (b := w.heap.size + 1) (o := 2) (v := .int .u64 (lo (u))) (by first | with_reducible exact c2_1_2 | (simp [go_sem]; done) | (simp [go_sem, *]; done)); have z3_2 : w.heap.size + 1 + 1 < w3.heap.size := (by omega); have c3_2_0 := hb3.get (b := w.heap.size + 1 + 1) (o := 0) (v := .int .i64 0) (by first | with_reducible exact c2_2_0 | (simp [go_sem]; done) | (simp [go_sem, *]; done)); have f3_2_0 := hb3.free (b := w.heap.size + 1 + 1) (o := 0) (v := .int .i64 0) (by first | with_reducible exact c2_2_0 | (simp [go_sem]; done) | (simp [go_sem, *]; done)) (by first | with_reducible exact f2_2_0 | (simp [go_sem]; done) | (simp [go_sem, *]; done)); have c3_2_1 := hb3.get (b := w.heap.size + 1 + 1) (o := 1) (v := .int .u64 0) (by first | with_reducible exact c2_2_1 | (simp [go_sem]; done) | (simp [go_sem, *]; done)); have f3_2_1 := hb3.free (b := w.heap.size + 1 + 1) (o := 1) (v := .int .u64 0) (by first | with_reducible exact c2_2_1 | (simp [go_sem]; done) | (simp [go_sem, *]; done)) (by first | with_reducible exact f2_2_1 | (simp [go_sem]; done) | (simp [go_sem, *]; done)); have c3_2_2 := hb3.get (b := w.heap.size + 1 + 1) (o := 2) (v := .int .u64 0) (by first | with_reducible exact c2_2_2 | (simp [go_sem]; done) | (simp [go_sem, *]; done)); have f3_2_2 := hb3.free (b := w.heap.size + 1 + 1) (o := 2) (v := .int .u64 0) (by first | with_reducible exact c2_2_2 | (simp [go_sem]; done) | (simp [go_sem, *]; done)) (by first | with_reducible exact f2_2_2 | (simp [go_sem]; done) | (simp [go_sem, *]; done)); clear hz3)
      | (go_at_call_of 16 (hi u); refine (signed_any _ _ KN.out _).mono ?_; rintro e w4 ⟨rfl, hb4⟩; have hz4 := hb4.size; (try simp at hz4); have z4_0 : w.heap.size < w4.heap.size := (by omega); have c4_0_0 := hb4.get (b := w.heap.size) (o := 0) (v := .int .i64 (W)) (by first | with_reducible exact c3_0_0 | (simp [go_sem]; done) | (simp [go_sem, *]; done)); have c4_0_1 := hb4.get (b := w.heap.size) (o := 1) (v := .int .u64 (hi (v))) (by first | with_reducible exact c3_0_1 | (simp [go_sem]; done) | (simp [go_sem, *]; done)); have c4_0_2 := hb4.get (b := w.heap.size) (o := 2) (v := .int .u64 (lo (v))) (by first | with_reducible exact c3_0_2 | (simp [go_sem]; done) | (simp [go_sem, *]; done)); have z4_1 : w.heap.size + 1 < w4.heap.size := (by omega); have c4_1_0 := hb4.get (b := w.heap.size + 1) (o := 0) (v := .int .i64 (W)) (by first | with_reducible exact c3_1_0 | (simp [go_sem]; done) | (simp [go_sem, *]; done)); have c4_1_1 := hb4.get (b := w.heap.size + 1) (o := 1) (v := .int .u64 (hi (u))) (by first | with_reducible exact c3_1_1 | (simp [go_sem]; done) | (simp [go_sem, *]; done)); have c4_1_2 := hb4.get (b := w.heap.size + 1) (o := 2) (v := .int .u64 (lo (u))) (by first | with_reducible exact c3_1_2 | (simp [go_sem]; done) | (simp [go_sem, *]; done)); have z4_2 : w.heap.size + 1 + 1 < w4.heap.size := (by omega); have c4_2_0 := hb4.get (b := w.heap.size + 1 + 1) (o := 0) (v := .int .i64 0) (by first | with_reducible exact c3_2_0 | (simp [go_sem]; done) | (simp [go_sem, *]; done)); have f4_2_0 := hb4.free (b := w.heap.size + 1 + 1) (o := 0) (v := .int .i64 0) (by first | with_reducible exact c3_2_0 | (simp [go_sem]; done) | (simp [go_sem, *]; done)) (by first | with_reducible exact f3_2_0 | (simp [go_sem]; done) | (simp [go_sem, *]; done)); have c4_2_1 := hb4.get (b := w.heap.size + 1 + 1) (o := 1) (v := .int .u64 0) (by first | with_reducible exact c3_2_1 | (simp [go_sem]; done) | (simp [go_sem, *]; done)); have f4_2_1 := hb4.free (b := w.heap.size + 1 + 1) (o := 1) (v := .int .u64 0) (by first | with_reducible exact c3_2_1 | (simp [go_sem]; done) | (simp [go_sem, *]; done)) (by first | with_reducible exact f3_2_1 | (simp [go_sem]; done) | (simp [go_sem, *]; done)); have c4_2_2 := hb4.get (b := w.heap.size + 1 + 1) (o := 2) (v := .int .u64 0) (by first | with_reducible exact c3_2_2 | (simp [go_sem]; done) | (simp [go_sem, *]; done)); have f4_2_2 := hb4.free (b := w.heap.size + 1 + 1) (o := 2) (v := .int .u64 0) (by first | with_reducible exact c3_2_2 | (simp [go_sem]; done) | (simp [go_sem, *]; done)) (by first | with_reducible exact f3_2_2 | (simp [go_sem]; done) | (simp [go_sem, *]; done)); clear hz4)
      | (go_at_call 19; refine (lessSigned_any _ _ _).mono ?_; rintro e w5 ⟨rfl, hb5⟩; rw [HQ.out]; have hz5 := hb5.size; (try simp at hz5); have z5_0 : w.heap.size < w5.heap.size := (by omega); have c5_0_0 := hb5.get (b := w.heap.size) (o := 0) (v := .int .i64 (W)) (by first | with_reducible exact c4_0_0 | (simp [go_sem]; done) | (simp [go_sem, *]; done)); have c5_0_1 := hb5.get (b := w.heap.size) (o := 1) (v := .int .u64 (hi (v))) (by first | with_reducible exact c4_0_1 | (simp [go_sem]; done) | (simp [go_sem, *]; done)); have c5_0_2 := hb5.get (b := w.heap.size) (o := 2) (v := .int .u64 (lo (v))) (by first | with_reducible exact c4_0_2 | (simp [go_sem]; done) | (simp [go_sem, *]; done)); have z5_1 : w.heap.size + 1 < w5.heap.size := (by omega); have c5_1_0 := hb5.get (b := w.heap.size + 1) (o := 0) (v := .int .i64 (W)) (by first | with_reducible exact c4_1_0 | (simp [go_sem]; done) | (simp [go_sem, *]; done)); have c5_1_1 := hb5.get (b := w.heap.size + 1) (o := 1) (v := .int .u64 (hi (u))) (by first | with_reducible exact c4_1_1 | (simp [go_sem]; done) | (simp [go_sem, *]; done)); have c5_1_2 := hb5.get (b := w.heap.size + 1) (o := 2) (v := .int .u64 (lo (u))) (by first | with_reducible exact c4_1_2 | (simp [go_sem]; done) | (simp [go_sem, *]; done)); have z5_2 : w.heap.size + 1 + 1 < w5.heap.size := (by omega); have c5_2_0 := hb5.get (b := w.heap.size + 1 + 1) (o := 0) (v := .int .i64 0) (by first | with_reducible exact c4_2_0 | (simp [go_sem]; done) | (simp [go_sem, *]; done)); have f5_2_0 := hb5.free (b := w.heap.size + 1 + 1) (o := 0) (v := .int .i64 0) (by first | with_reducible exact c4_2_0 | (simp [go_sem]; done) | (simp [go_sem, *]; done)) (by first | with_reducible exact f4_2_0 | (simp [go_sem]; done) | (simp [go_sem, *]; done)); have c5_2_1 := hb5.get (b := w.heap.size + 1 + 1) (o := 1) (v := .int .u64 0) (by first | with_reducible exact c4_2_1 | (simp [go_sem]; done) | (simp [go_sem, *]; done)); have f5_2_1 := hb5.free (b := w.heap.size + 1 + 1) (o := 1) (v := .int .u64 0) (by first | with_reducible exact c4_2_1 | (simp [go_sem]; done) | (simp [go_sem, *]; done)) (by first | with_reducible exact f4_2_1 | (simp [go_sem]; done) | (simp [go_sem, *]; done)); have c5_2_2 := hb5.get (b := w.heap.size + 1 + 1) (o := 2) (v := .int .u64 0) (by first | with_reducible exact c4_2_2 | (simp [go_sem]; done) | (simp [go_sem, *]; done)); have f5_2_2 := hb5.free (b := w.heap.size + 1 + 1) (o := 2) (v := .int .u64 0) (by first | with_reducible exact c4_2_2 | (simp [go_sem]; done) | (simp [go_sem, *]; done)) (by first | with_reducible exact f4_2_2 | (simp [go_sem]; done) | (simp [go_sem, *]; done)); clear hz5)
      | (go_at_call 17; refine (truth_to _ _).mono ?_; rintro e w6 ⟨rfl, hb6⟩; have hz6 := hb6.size; (try simp at hz6); have z6_0 : w.heap.size < w6.heap.size := (by omega); have c6_0_0 := hb6.get (b := w.heap.size) (o := 0) (v := .int .i64 (W)) (by first | with_reducible exact c5_0_0 | (simp [go_sem]; done) | (simp [go_sem, *]; done)); have c6_0_1 := hb6.get (b := w.heap.size) (o := 1) (v := .int .u64 (hi (v))) (by first | with_reducible exact c5_0_1 | (simp [go_sem]; done) | (simp [go_sem, *]; done)); have c6_0_2 := hb6.get (b := w.heap.size) (o := 2) (v := .int .u64 (lo (v))) (by first | with_reducible exact c5_0_2 | (simp [go_sem]; done) | (simp [go_sem, *]; done)); have z6_1 : w.heap.size + 1 < w6.heap.size := (by omega); have c6_1_0 := hb6.get (b := w.heap.size + 1) (o := 0) (v := .int .i64 (W)) (by first | with_reducible exact c5_1_0 | (simp [go_sem]; done) | (simp [go_sem, *]; done)); have c6_1_1 := hb6.get (b := w.heap.size + 1) (o := 1) (v := .int .u64 (hi (u))) (by first | with_reducible exact c5_1_1 | (simp [go_sem]; done) | (simp [go_sem, *]; done)); have c6_1_2 := hb6.get (b := w.heap.size + 1) (o := 2) (v := .int .u64 (lo (u))) (by first | with_reducible exact c5_1_2 | (simp [go_sem]; done) | (simp [go_sem, *]; done)); have z6_2 : w.heap.size + 1 + 1 < w6.heap.size := (by omega); have c6_2_0 := hb6.get (b := w.heap.size + 1 + 1) (o := 0) (v := .int .i64 0) (by first | with_reducible exact c5_2_0 | (simp [go_sem]; done) | (simp [go_sem, *]; done)); have f6_2_0 := hb6.free (b := w.heap.size + 1 + 1) (o := 0) (v := .int .i64 0) (by first | with_reducible exact c5_2_0 | (simp [go_sem]; done) | (simp [go_sem, *]; done)) (by first | with_reducible exact f5_2_0 | (simp [go_sem]; done) | (simp [go_sem, *]; done)); have c6_2_1 := hb6.get (b := w.heap.size + 1 + 1) (o := 1) (v := .int .u64 0) (by first | with_reducible exact c5_2_1 | (simp [go_sem]; done) | (simp [go_sem, *]; done)); have f6_2_1 := hb6.free (b := w.heap.size + 1 + 1) (o := 1) (v := .int .u64 0) (by first | with_reducible exact c5_2_1 | (simp [go_sem]; done) | (simp [go_sem, *]; done)) (by first | with_reducible exact f5_2_1 | (simp [go_sem]; done) | (simp [go_sem, *]; done)); have c6_2_2 := hb6.get (b := w.heap.size + 1 + 1) (o := 2) (v := .int .u64 0) (by first | with_reducible exact c5_2_2 | (simp [go_sem]; done) | (simp [go_sem, *]; done)); have f6_2_2 := hb6.free (b := w.heap.size + 1 + 1) (o := 2) (v := .int .u64 0) (by first | with_reducible exact c5_2_2 | (simp [go_sem]; done) | (simp [go_sem, *]; done)) (by first | with_reducible exact f5_2_2 | (simp [go_sem]; done) | (simp [go_sem, *]; done)); clear hz6))
  go_wp2
  exact bodyPost_ret (v := bv 1 (b01 q)) (by simp [results, Try.results5, go_sem, *]) rfl ⟨rfl, by repeat (first | with_reducible exact Fr.refl _ | with_reducible apply Fr.drewN | with_reducible apply Fr.drew | with_reducible apply Fr.alloc | (with_reducible refine Fr.set ?_ (by simp; try omega) _) | (with_reducible refine Fr.call ?_ (by assumption)))⟩
set_option maxHeartbeats 4000000 in
theorem bin_14tt (W v u : Int) (h : Norm W v) (k : Norm W u) (e1 : (hi v == hi u) = true) (e2 : (lo v == lo u) = true) (w : World) :
    Calls Try.prog 5 #[.int .i64 14, bv W v, bv W u] w fun e w' => e = .returned (bv 1 (b01 (true))) ∧ Fr w w' := by
  have e0 : (W == W) = true := beq_self_eq_true _
  have HN := Lib.hid h; have KN := Lib.hid k
  have H := Lib.hid (norm_to h); have hv := h.lt128; have hv0 := h.2.2.1; have hw1 := h.1; have hw2 := h.2.1; clear h
  have K := Lib.hid (norm_to k); have hu := k.lt128; have hu0 := k.2.2.1; clear k
  go_enter Try.func5, Try.ntmps5
  go_wp2_with fail
  refine (normal_any _ _ hv0 hv _).mono ?_
  rintro e w1 ⟨rfl, hb1⟩
  have hz1 := hb1.size
  (try simp at hz1)
  have z1_0 : w.heap.size < w1.heap.size := (by omega)
  have c1_0_0 := hb1.get (b := w.heap.size) (o := 0) (v := .int .i64 (W)) (by first | (simp [go_sem]; done) | (simp [go_sem, *]; done))
  have c1_0_1 := hb1.get (b := w.heap.size) (o := 1) (v := .int .u64 (hi (v))) (by first | (simp [go_sem]; done) | (simp [go_sem, *]; done))
  have c1_0_2 := hb1.get (b := w.heap.size) (o := 2) (v := .int .u64 (lo (v))) (by first | (simp [go_sem]; done) | (simp [go_sem, *]; done))
  have z1_1 : w.heap.size + 1 < w1.heap.size := (by omega)
  have c1_1_0 := hb1.get (b := w.heap.size + 1) (o := 0) (v := .int .i64 (W)) (by first | (simp [go_sem]; done) | (simp [go_sem, *]; done))
  have c1_1_1 := hb1.get (b := w.heap.size + 1) (o := 1) (v := .int .u64 (hi (u))) (by first | (simp [go_sem]; done) | (simp [go_sem, *]; done))
  have c1_1_2 := hb1.get (b := w.heap.size + 1) (o := 2) (v := .int .u64 (lo (u))) (by first | (simp [go_sem]; done) | (simp [go_sem, *]; done))
  have z1_2 : w.heap.size + 1 + 1 < w1.heap.size := (by omega)
  have c1_2_0 := hb1.get (b := w.heap.size + 1 + 1) (o := 0) (v := .int .i64 0) (by first | (simp [go_sem]; done) | (simp [go_sem, *]; done))
  have f1_2_0 := hb1.free (b := w.heap.size + 1 + 1) (o := 0) (v := .int .i64 0) (by first | (simp [go_sem]; done) | (simp [go_sem, *]; done)) (by first | (simp [go_sem]; done) | (simp [go_sem, *]; done))
  have c1_2_1 := hb1.get (b := w.heap.size + 1 + 1) (o := 1) (v := .int .u64 0) (by first | (simp [go_sem]; done) | (simp [go_sem, *]; done))
  have f1_2_1 := hb1.free (b := w.heap.size + 1 + 1) (o := 1) (v := .int .u64 0) (by first | (simp [go_sem]; done) | (simp [go_sem, *]; done)) (by first | (simp [go_sem]; done) | (simp [go_sem, *]; done))
  have c1_2_2 := hb1.get (b := w.heap.size + 1 + 1) (o := 2) (v := .int .u64 0) (by first | (simp [go_sem]; done) | (simp [go_sem, *]; done))
  have f1_2_2 := hb1.free (b := w.heap.size + 1 + 1) (o := 2) (v := .int .u64 0) (by first | (simp [go_sem]; done) | (simp [go_sem, *]; done)) (by first | (simp [go_sem]; done) | (simp [go_sem, *]; done))
  clear hz1
  rw [H.out]
  go_wp2_with fail
  refine (normal_any _ _ hu0 hu _).mono ?_
  rintro e w2 ⟨rfl, hb2⟩
  have hz2 := hb2.size
  (try simp at hz2)
  have z2_0 : w.heap.size < w2.heap.size := (by omega)
  have c2_0_0 := hb2.get (b := w.heap.size) (o := 0) (v := .int .i64 (W)) (by first | with_reducible exact c1_0_0 | (simp [go_sem]; done) | (simp [go_sem, *]; done))
  have c2_0_1 := hb2.get (b := w.heap.size) (o := 1) (v := .int .u64 (hi (v))) (by first | with_reducible exact c1_0_1 | (simp [go_sem]; done) | (simp [go_sem, *]; done))
  have c2_0_2 := hb2.get (b := w.heap.size) (o := 2) (v := .int .u64 (lo (v))) (by first | with_reducible exact c1_0_2 | (simp [go_sem]; done) | (simp [go_sem, *]; done))
  have z2_1 : w.heap.size + 1 < w2.heap.size := (by omega)
  have c2_1_0 := hb2.get (b := w.heap.size + 1) (o := 0) (v := .int .i64 (W)) (by first | with_reducible exact c1_1_0 | (simp [go_sem]; done) | (simp [go_sem, *]; done))
  have c2_1_1 := hb2.get (b := w.heap.size + 1) (o := 1) (v := .int .u64 (hi (u))) (by first | with_reducible exact c1_1_1 | (simp [go_sem]; done) | (simp [go_sem, *]; done))
  have c2_1_2 := hb2.get (b := w.heap.size + 1) (o := 2) (v := .int .u64 (lo (u))) (by first | with_reducible exact c1_1_2 | (simp [go_sem]; done) | (simp [go_sem, *]; done))
  have z2_2 : w.heap.size + 1 + 1 < w2.heap.size := (by omega)
  have c2_2_0 := hb2.get (b := w.heap.size + 1 + 1) (o := 0) (v := .int .i64 0) (by first | with_reducible exact c1_2_0 | (simp [go_sem]; done) | (simp [go_sem, *]; done))
  have f2_2_0 := hb2.free (b := w.heap.size + 1 + 1) (o := 0) (v := .int .i64 0) (by first | with_reducible exact c1_2_0 | (simp [go_sem]; done) | (simp [go_sem, *]; done)) (by first | with_reducible exact f1_2_0 | (simp [go_sem]; done) | (simp [go_sem, *]; done))
  have c2_2_1 := hb2.get (b := w.heap.size + 1 + 1) (o := 1) (v := .int .u64 0) (by first | with_reducible exact c1_2_1 | (simp [go_sem]; done) | (simp [go_sem, *]; done))
  have f2_2_1 := hb2.free (b := w.heap.size + 1 + 1) (o := 1) (v := .int .u64 0) (by first | with_reducible exact c1_2_1 | (simp [go_sem]; done) | (simp [go_sem, *]; done)) (by first | with_reducible exact f1_2_1 | (simp [go_sem]; done) | (simp [go_sem, *]; done))
  have c2_2_2 := hb2.get (b := w.heap.size + 1 + 1) (o := 2) (v := .int .u64 0) (by first | with_reducible exact c1_2_2 | (simp [go_sem]; done) | (simp [go_sem, *]; done))
  have f2_2_2 := hb2.free (b := w.heap.size + 1 + 1) (o := 2) (v := .int .u64 0) (by first | with_reducible exact c1_2_2 | (simp [go_sem]; done) | (simp [go_sem, *]; done)) (by first | with_reducible exact f1_2_2 | (simp [go_sem]; done) | (simp [go_sem, *]; done))
  clear hz2
  rw [K.out]
  go_wp2_with fail
  refine (truth_to _ _).mono ?_
  rintro e w3 ⟨rfl, hb3⟩
  have hz3 := hb3.size
  (try simp at hz3)
  have z3_0 : w.heap.size < w3.heap.size := (by omega)
  have c3_0_0 := hb3.get (b := w.heap.size) (o := 0) (v := .int .i64 (W)) (by first | with_reducible exact c2_0_0 | (simp [go_sem]; done) | (simp [go_sem, *]; done))
  have c3_0_1 := hb3.get (b := w.heap.size) (o := 1) (v := .int .u64 (hi (v))) (by first | with_reducible exact c2_0_1 | (simp [go_sem]; done) | (simp [go_sem, *]; done))
  have c3_0_2 := hb3.get (b := w.heap.size) (o := 2) (v := .int .u64 (lo (v))) (by first | with_reducible exact c2_0_2 | (simp [go_sem]; done) | (simp [go_sem, *]; done))
  have z3_1 : w.heap.size + 1 < w3.heap.size := (by omega)
  have c3_1_0 := hb3.get (b := w.heap.size + 1) (o := 0) (v := .int .i64 (W)) (by first | with_reducible exact c2_1_0 | (simp [go_sem]; done) | (simp [go_sem, *]; done))
  have c3_1_1 := hb3.get (b := w.heap.size + 1) (o := 1) (v := .int .u64 (hi (u))) (by first | with_reducible exact c2_1_1 | (simp [go_sem]; done) | (simp [go_sem, *]; done))
  have c3_1_2 := hb3.get (b := w.heap.size + 1) (o := 2) (v := .int .u64 (lo (u))) (by first | with_reducible exact c2_1_2 | (simp [go_sem]; done) | (simp [go_sem, *]; done))
  have z3_2 : w.heap.size + 1 + 1 < w3.heap.size := (by omega)
  have c3_2_0 := hb3.get (b := w.heap.size + 1 + 1) (o := 0) (v := .int .i64 0) (by first | with_reducible exact c2_2_0 | (simp [go_sem]; done) | (simp [go_sem, *]; done))
  have f3_2_0 := hb3.free (b := w.heap.size + 1 + 1) (o := 0) (v := .int .i64 0) (by first | with_reducible exact c2_2_0 | (simp [go_sem]; done) | (simp [go_sem, *]; done)) (by first | with_reducible exact f2_2_0 | (simp [go_sem]; done) | (simp [go_sem, *]; done))
  have c3_2_1 := hb3.get (b := w.heap.size + 1 + 1) (o := 1) (v := .int .u64 0) (by first | with_reducible exact c2_2_1 | (simp [go_sem]; done) | (simp [go_sem, *]; done))
  have f3_2_1 := hb3.free (b := w.heap.size + 1 + 1) (o := 1) (v := .int .u64 0) (by first | with_reducible exact c2_2_1 | (simp [go_sem]; done) | (simp [go_sem, *]; done)) (by first | with_reducible exact f2_2_1 | (simp [go_sem]; done) | (simp [go_sem, *]; done))
  have c3_2_2 := hb3.get (b := w.heap.size + 1 + 1) (o := 2) (v := .int .u64 0) (by first | with_reducible exact c2_2_2 | (simp [go_sem]; done) | (simp [go_sem, *]; done))
  have f3_2_2 := hb3.free (b := w.heap.size + 1 + 1) (o := 2) (v := .int .u64 0) (by first | with_reducible exact c2_2_2 | (simp [go_sem]; done) | (simp [go_sem, *]; done)) (by first | with_reducible exact f2_2_2 | (simp [go_sem]; done) | (simp [go_sem, *]; done))
  clear hz3
  go_wp2
  exact bodyPost_ret (v := bv 1 (b01 (true))) (by simp [results, Try.results5, go_sem, *]) rfl ⟨rfl, by repeat (first | with_reducible exact Fr.refl _ | with_reducible apply Fr.drewN | with_reducible apply Fr.drew | with_reducible apply Fr.alloc | (with_reducible refine Fr.set ?_ (by simp; try omega) _) | (with_reducible refine Fr.call ?_ (by assumption)))⟩
set_option maxHeartbeats 4000000 in
theorem bin_14tf (W v u : Int) (h : Norm W v) (k : Norm W u) (e1 : (hi v == hi u) = true) (e2 : (lo v == lo u) = false) (w : World) :
    Calls Try.prog 5 #[.int .i64 14, bv W v, bv W u] w fun e w' => e = .returned (bv 1 (b01 (false))) ∧ Fr w w' := by
  have e0 : (W == W) = true := beq_self_eq_true _
  have HN := Lib.hid h; have KN := Lib.hid k
  have H := Lib.hid (norm_to h); have hv := h.lt128; have hv0 := h.2.2.1; have hw1 := h.1; have hw2 := h.2.1; clear h
  have K := Lib.hid (norm_to k); have hu := k.lt128; have hu0 := k.2.2.1; clear k
  go_enter Try.func5, Try.ntmps5
  go_wp2_with fail
  refine (normal_any _ _ hv0 hv _).mono ?_
  rintro e w1 ⟨rfl, hb1⟩
  have hz1 := hb1.size
  (try simp at hz1)
  have z1_0 : w.heap.size < w1.heap.size := (by omega)
  have c1_0_0 := hb1.get (b := w.heap.size) (o := 0) (v := .int .i64 (W)) (by first | (simp [go_sem]; done) | (simp [go_sem, *]; done))
  have c1_0_1 := hb1.get (b := w.heap.size) (o := 1) (v := .int .u64 (hi (v))) (by first | (simp [go_sem]; done) | (simp [go_sem, *]; done))
  have c1_0_2 := hb1.get (b := w.heap.size) (o := 2) (v := .int .u64 (lo (v))) (by first | (simp [go_sem]; done) | (simp [go_sem, *]; done))
  have z1_1 : w.heap.size + 1 < w1.heap.size := (by omega)
  have c1_1_0 := hb1.get (b := w.heap.size + 1) (o := 0) (v := .int .i64 (W)) (by first | (simp [go_sem]; done) | (simp [go_sem, *]; done))
  have c1_1_1 := hb1.get (b := w.heap.size + 1) (o := 1) (v := .int .u64 (hi (u))) (by first | (simp [go_sem]; done) | (simp [go_sem, *]; done))
  have c1_1_2 := hb1.get (b := w.heap.size + 1) (o := 2) (v := .int .u64 (lo (u))) (by first | (simp [go_sem]; done) | (simp [go_sem, *]; done))
  have z1_2 : w.heap.size + 1 + 1 < w1.heap.size := (by omega)
  have c1_2_0 := hb1.get (b := w.heap.size + 1 + 1) (o := 0) (v := .int .i64 0) (by first | (simp [go_sem]; done) | (simp [go_sem, *]; done))
  have f1_2_0 := hb1.free (b := w.heap.size + 1 + 1) (o := 0) (v := .int .i64 0) (by first | (simp [go_sem]; done) | (simp [go_sem, *]; done)) (by first | (simp [go_sem]; done) | (simp [go_sem, *]; done))
  have c1_2_1 := hb1.get (b := w.heap.size + 1 + 1) (o := 1) (v := .int .u64 0) (by first | (simp [go_sem]; done) | (simp [go_sem, *]; done))
  have f1_2_1 := hb1.free (b := w.heap.size + 1 + 1) (o := 1) (v := .int .u64 0) (by first | (simp [go_sem]; done) | (simp [go_sem, *]; done)) (by first | (simp [go_sem]; done) | (simp [go_sem, *]; done))
  have c1_2_2 := hb1.get (b := w.heap.size + 1 + 1) (o := 2) (v := .int .u64 0) (by first | (simp [go_sem]; done) | (simp [go_sem, *]; done))
  have f1_2_2 := hb1.free (b := w.heap.size + 1 + 1) (o := 2) (v := .int .u64 0) (by first | (simp [go_sem]; done) | (simp [go_sem, *]; done)) (by first | (simp [go_sem]; done) | (simp [go_sem, *]; done))
  clear hz1
  rw [H.out]
  go_wp2_with fail
  refine (normal_any _ _ hu0 hu _).mono ?_
  rintro e w2 ⟨rfl, hb2⟩
  have hz2 := hb2.size
  (try simp at hz2)
  have z2_0 : w.heap.size < w2.heap.size := (by omega)
  have c2_0_0 := hb2.get (b := w.heap.size) (o := 0) (v := .int .i64 (W)) (by first | with_reducible exact c1_0_0 | (simp [go_sem]; done) | (simp [go_sem, *]; done))
  have c2_0_1 := hb2.get (b := w.heap.size) (o := 1) (v := .int .u64 (hi (v))) (by first | with_reducible exact c1_0_1 | (simp [go_sem]; done) | (simp [go_sem, *]; done))
  have c2_0_2 := hb2.get (b := w.heap.size) (o := 2) (v := .int .u64 (lo (v))) (by first | with_reducible exact c1_0_2 | (simp [go_sem]; done) | (simp [go_sem, *]; done))
  have z2_1 : w.heap.size + 1 < w2.heap.size := (by omega)
  have c2_1_0 := hb2.get (b := w.heap.size + 1) (o := 0) (v := .int .i64 (W)) (by first | with_reducible exact c1_1_0 | (simp [go_sem]; done) | (simp [go_sem, *]; done))
  have c2_1_1 := hb2.get (b := w.heap.size + 1) (o := 1) (v := .int .u64 (hi (u))) (by first | with_reducible exact c1_1_1 | (simp [go_sem]; done) | (simp [go_sem, *]; done))
  have c2_1_2 := hb2.get (b := w.heap.size + 1) (o := 2) (v := .int .u64 (lo (u))) (by first | with_reducible exact c1_1_2 | (simp [go_sem]; done) | (simp [go_sem, *]; done))
  have z2_2 : w.heap.size + 1 + 1 < w2.heap.size := (by omega)
  have c2_2_0 := hb2.get (b := w.heap.size + 1 + 1) (o := 0) (v := .int .i64 0) (by first | with_reducible exact c1_2_0 | (simp [go_sem]; done) | (simp [go_sem, *]; done))
  have f2_2_0 := hb2.free (b := w.heap.size + 1 + 1) (o := 0) (v := .int .i64 0) (by first | with_reducible exact c1_2_0 | (simp [go_sem]; done) | (simp [go_sem, *]; done)) (by first | with_reducible exact f1_2_0 | (simp [go_sem]; done) | (simp [go_sem, *]; done))
  have c2_2_1 := hb2.get (b := w.heap.size + 1 + 1) (o := 1) (v := .int .u64 0) (by first | with_reducible exact c1_2_1 | (simp [go_sem]; done) | (simp [go_sem, *]; done))
  have f2_2_1 := hb2.free (b := w.heap.size + 1 + 1) (o := 1) (v := .int .u64 0) (by first | with_reducible exact c1_2_1 | (simp [go_sem]; done) | (simp [go_sem, *]; done)) (by first | with_reducible exact f1_2_1 | (simp [go_sem]; done) | (simp [go_sem, *]; done))
  have c2_2_2 := hb2.get (b := w.heap.size + 1 + 1) (o := 2) (v := .int .u64 0) (by first | with_reducible exact c1_2_2 | (simp [go_sem]; done) | (simp [go_sem, *]; done))
  have f2_2_2 := hb2.free (b := w.heap.size + 1 + 1) (o := 2) (v := .int .u64 0) (by first | with_reducible exact c1_2_2 | (simp [go_sem]; done) | (simp [go_sem, *]; done)) (by first | with_reducible exact f1_2_2 | (simp [go_sem]; done) | (simp [go_sem, *]; done))
  clear hz2
  rw [K.out]
  go_wp2_with fail
  refine (truth_to _ _).mono ?_
  rintro e w3 ⟨rfl, hb3⟩
  have hz3 := hb3.size
  (try simp at hz3)
  have z3_0 : w.heap.size < w3.heap.size := (by omega)
  have c3_0_0 := hb3.get (b := w.heap.size) (o := 0) (v := .int .i64 (W)) (by first | with_reducible exact c2_0_0 | (simp [go_sem]; done) | (simp [go_sem, *]; done))
  have c3_0_1 := hb3.get (b := w.heap.size) (o := 1) (v := .int .u64 (hi (v))) (by first | with_reducible exact c2_0_1 | (simp [go_sem]; done) | (simp [go_sem, *]; done))
  have c3_0_2 := hb3.get (b := w.heap.size) (o := 2) (v := .int .u64 (lo (v))) (by first | with_reducible exact c2_0_2 | (simp [go_sem]; done) | (simp [go_sem, *]; done))
  have z3_1 : w.heap.size + 1 < w3.heap.size := (by omega)
  have c3_1_0 := hb3.get (b := w.heap.size + 1) (o := 0) (v := .int .i64 (W)) (by first | with_reducible exact c2_1_0 | (simp [go_sem]; done) | (simp [go_sem, *]; done))
  have c3_1_1 := hb3.get (b := w.heap.size + 1) (o := 1) (v := .int .u64 (hi (u))) (by first | with_reducible exact c2_1_1 | (simp [go_sem]; done) | (simp [go_sem, *]; done))
  have c3_1_2 := hb3.get (b := w.heap.size + 1) (o := 2) (v := .int .u64 (lo (u))) (by first | with_reducible exact c2_1_2 | (simp [go_sem]; done) | (simp [go_sem, *]; done))
  have z3_2 : w.heap.size + 1 + 1 < w3.heap.size := (by omega)
  have c3_2_0 := hb3.get (b := w.heap.size + 1 + 1) (o := 0) (v := .int .i64 0) (by first | with_reducible exact c2_2_0 | (simp [go_sem]; done) | (simp [go_sem, *]; done))
  have f3_2_0 := hb3.free (b := w.heap.size + 1 + 1) (o := 0) (v := .int .i64 0) (by first | with_reducible exact c2_2_0 | (simp [go_sem]; done) | (simp [go_sem, *]; done)) (by first | with_reducible exact f2_2_0 | (simp [go_sem]; done) | (simp [go_sem, *]; done))
  have c3_2_1 := hb3.get (b := w.heap.size + 1 + 1) (o := 1) (v := .int .u64 0) (by first | with_reducible exact c2_2_1 | (simp [go_sem]; done) | (simp [go_sem, *]; done))
  have f3_2_1 := hb3.free (b := w.heap.size + 1 + 1) (o := 1) (v := .int .u64 0) (by first | with_reducible exact c2_2_1 | (simp [go_sem]; done) | (simp [go_sem, *]; done)) (by first | with_reducible exact f2_2_1 | (simp [go_sem]; done) | (simp [go_sem, *]; done))
  have c3_2_2 := hb3.get (b := w.heap.size + 1 + 1) (o := 2) (v := .int .u64 0) (by first | with_reducible exact c2_2_2 | (simp [go_sem]; done) | (simp [go_sem, *]; done))
  have f3_2_2 := hb3.free (b := w.heap.size + 1 + 1) (o := 2) (v := .int .u64 0) (by first | with_reducible exact c2_2_2 | (simp [go_sem]; done) | (simp [go_sem, *]; done)) (by first | with_reducible exact f2_2_2 | (simp [go_sem]; done) | (simp [go_sem, *]; done))
  clear hz3
  go_wp2
  exact bodyPost_ret (v := bv 1 (b01 (false))) (by simp [results, Try.results5, go_sem, *]) rfl ⟨rfl, by repeat (first | with_reducible exact Fr.refl _ | with_reducible apply Fr.drewN | with_reducible apply Fr.drew | with_reducible apply Fr.alloc | (with_reducible refine Fr.set ?_ (by simp; try omega) _) | (with_reducible refine Fr.call ?_ (by assumption)))⟩
set_option maxHeartbeats 4000000 in
theorem bin_14ff (W v u : Int) (h : Norm W v) (k : Norm W u) (e1 : (hi v == hi u) = false) (w : World) :
    Calls Try.prog 5 #[.int .i64 14, bv W v, bv W u] w fun e w' => e = .returned (bv 1 (b01 (false))) ∧ Fr w w' := by
  have e0 : (W == W) = true := beq_self_eq_true _
  have HN := Lib.hid h; have KN := Lib.hid k
  have H := Lib.hid (norm_to h); have hv := h.lt128; have hv0 := h.2.2.1; have hw1 := h.1; have hw2 := h.2.1; clear h
  have K := Lib.hid (norm_to k); have hu := k.lt128; have hu0 := k.2.2.1; clear k
  go_enter Try.func5, Try.ntmps5
  go_wp2_with fail
  refine (normal_any _ _ hv0 hv _).mono ?_
  rintro e w1 ⟨rfl, hb1⟩
  have hz1 := hb1.size
  (try simp at hz1)
  have z1_0 : w.heap.size < w1.heap.size := (by omega)
  have c1_0_0 := hb1.get (b := w.heap.size) (o := 0) (v := .int .i64 (W)) (by first | (simp [go_sem]; done) | (simp [go_sem, *]; done))
  have c1_0_1 := hb1.get (b := w.heap.size) (o := 1) (v := .int .u64 (hi (v))) (by first | (simp [go_sem]; done) | (simp [go_sem, *]; done))
  have c1_0_2 := hb1.get (b := w.heap.size) (o := 2) (v := .int .u64 (lo (v))) (by first | (simp [go_sem]; done) | (simp [go_sem, *]; done))
  have z1_1 : w.heap.size + 1 < w1.heap.size := (by omega)
  have c1_1_0 := hb1.get (b := w.heap.size + 1) (o := 0) (v := .int .i64 (W)) (by first | (simp [go_sem]; done) | (simp [go_sem, *]; done))
  have c1_1_1 := hb1.get (b := w.heap.size + 1) (o := 1) (v := .int .u64 (hi (u))) (by first | (simp [go_sem]; done) | (simp [go_sem, *]; done))
  have c1_1_2 := hb1.get (b := w.heap.size + 1) (o := 2) (v := .int .u64 (lo (u))) (by first | (simp [go_sem]; done) | (simp [go_sem, *]; done))
  have z1_2 : w.heap.size + 1 + 1 < w1.heap.size := (by omega)
  have c1_2_0 := hb1.get (b := w.heap.size + 1 + 1) (o := 0) (v := .int .i64 0) (by first | (simp [go_sem]; done) | (simp [go_sem, *]; done))
  have f1_2_0 := hb1.free (b := w.heap.size + 1 + 1) (o := 0) (v := .int .i64 0) (by first | (simp [go_sem]; done) | (simp [go_sem, *]; done)) (by first | (simp [go_sem]; done) | (simp [go_sem, *]; done))
  have c1_2_1 := hb1.get (b := w.heap.size + 1 + 1) (o := 1) (v := .int .u64 0) (by first | (simp [go_sem]; done) | (simp [go_sem, *]; done))
  have f1_2_1 := hb1.free (b := w.heap.size + 1 + 1) (o := 1) (v := .int .u64 0) (by first | (simp [go_sem]; done) | (simp [go_sem, *]; done)) (by first | (simp [go_sem]; done) | (simp [go_sem, *]; done))
  have c1_2_2 := hb1.get (b := w.heap.size + 1 + 1) (o := 2) (v := .int .u64 0) (by first | (simp [go_sem]; done) | (simp [go_sem, *]; done))
  have f1_2_2 := hb1.free (b := w.heap.size + 1 + 1) (o := 2) (v := .int .u64 0) (by first | (simp [go_sem]; done) | (simp [go_sem, *]; done)) (by first | (simp [go_sem]; done) | (simp [go_sem, *]; done))
  clear hz1
  rw [H.out]
  go_wp2_with fail
  refine (normal_any _ _ hu0 hu _).mono ?_
  rintro e w2 ⟨rfl, hb2⟩
  have hz2 := hb2.size
  (try simp at hz2)
  have z2_0 : w.heap.size < w2.heap.size := (by omega)
  have c2_0_0 := hb2.get (b := w.heap.size) (o := 0) (v := .int .i64 (W)) (by first | with_reducible exact c1_0_0 | (simp [go_sem]; done) | (simp [go_sem, *]; done))
  have c2_0_1 := hb2.get (b := w.heap.size) (o := 1) (v := .int .u64 (hi (v))) (by first | with_reducible exact c1_0_1 | (simp [go_sem]; done) | (simp [go_sem, *]; done))
  have c2_0_2 := hb2.get (b := w.heap.size) (o := 2) (v := .int .u64 (lo (v))) (by first | with_reducible exact c1_0_2 | (simp [go_sem]; done) | (simp [go_sem, *]; done))
  have z2_1 : w.heap.size + 1 < w2.heap.size := (by omega)
  have c2_1_0 := hb2.get (b := w.heap.size + 1) (o := 0) (v := .int .i64 (W)) (by first | with_reducible exact c1_1_0 | (simp [go_sem]; done) | (simp [go_sem, *]; done))
  have c2_1_1 := hb2.get (b := w.heap.size + 1) (o := 1) (v := .int .u64 (hi (u))) (by first | with_reducible exact c1_1_1 | (simp [go_sem]; done) | (simp [go_sem, *]; done))
  have c2_1_2 := hb2.get (b := w.heap.size + 1) (o := 2) (v := .int .u64 (lo (u))) (by first | with_reducible exact c1_1_2 | (simp [go_sem]; done) | (simp [go_sem, *]; done))
  have z2_2 : w.heap.size + 1 + 1 < w2.heap.size := (by omega)
  have c2_2_0 := hb2.get (b := w.heap.size + 1 + 1) (o := 0) (v := .int .i64 0) (by first | with_reducible exact c1_2_0 | (simp [go_sem]; done) | (simp [go_sem, *]; done))
  have f2_2_0 := hb2.free (b := w.heap.size + 1 + 1) (o := 0) (v := .int .i64 0) (by first | with_reducible exact c1_2_0 | (simp [go_sem]; done) | (simp [go_sem, *]; done)) (by first | with_reducible exact f1_2_0 | (simp [go_sem]; done) | (simp [go_sem, *]; done))
  have c2_2_1 := hb2.get (b := w.heap.size + 1 + 1) (o := 1) (v := .int .u64 0) (by first | with_reducible exact c1_2_1 | (simp [go_sem]; done) | (simp [go_sem, *]; done))
  have f2_2_1 := hb2.free (b := w.heap.size + 1 + 1) (o := 1) (v := .int .u64 0) (by first | with_reducible exact c1_2_1 | (simp [go_sem]; done) | (simp [go_sem, *]; done)) (by first | with_reducible exact f1_2_1 | (simp [go_sem]; done) | (simp [go_sem, *]; done))
  have c2_2_2 := hb2.get (b := w.heap.size + 1 + 1) (o := 2) (v := .int .u64 0) (by first | with_reducible exact c1_2_2 | (simp [go_sem]; done) | (simp [go_sem, *]; done))
  have f2_2_2 := hb2.free (b := w.heap.size + 1 + 1) (o := 2) (v := .int .u64 0) (by first | with_reducible exact c1_2_2 | (simp [go_sem]; done) | (simp [go_sem, *]; done)) (by first | with_reducible exact f1_2_2 | (simp [go_sem]; done) | (simp [go_sem, *]; done))
  clear hz2
  rw [K.out]
  go_wp2_with fail
  refine (truth_to _ _).mono ?_
  rintro e w3 ⟨rfl, hb3⟩
  have hz3 := hb3.size
  (try simp at hz3)
  have z3_0 : w.heap.size < w3.heap.size := (by omega)
  have c3_0_0 := hb3.get (b := w.heap.size) (o := 0) (v := .int .i64 (W)) (by first | with_reducible exact c2_0_0 | (simp [go_sem]; done) | (simp [go_sem, *]; done))
  have c3_0_1 := hb3.get (b := w.heap.size) (o := 1) (v := .int .u64 (hi (v))) (by first | with_reducible exact c2_0_1 | (simp [go_sem]; done) | (simp [go_sem, *]; done))
  have c3_0_2 := hb3.get (b := w.heap.size) (o := 2) (v := .int .u64 (lo (v))) (by first | with_reducible exact c2_0_2 | (simp [go_sem]; done) | (simp [go_sem, *]; done))
  have z3_1 : w.heap.size + 1 < w3.heap.size := (by omega)
  have c3_1_0 := hb3.get (b := w.heap.size + 1) (o := 0) (v := .int .i64 (W)) (by first | with_reducible exact c2_1_0 | (simp [go_sem]; done) | (simp [go_sem, *]; done))
  have c3_1_1 := hb3.get (b := w.heap.size + 1) (o := 1) (v := .int .u64 (hi (u))) (by first | with_reducible exact c2_1_1 | (simp [go_sem]; done) | (simp [go_sem, *]; done))
  have c3_1_2 := hb3.get (b := w.heap.size + 1) (o := 2) (v := .int .u64 (lo (u))) (by first | with_reducible exact c2_1_2 | (simp [go_sem]; done) | (simp [go_sem, *]; done))
  have z3_2 : w.heap.size + 1 + 1 < w3.heap.size := (by omega)
  have c3_2_0 := hb3.get (b := w.heap.size + 1 + 1) (o := 0) (v := .int .i64 0) (by first | with_reducible exact c2_2_0 | (simp [go_sem]; done) | (simp [go_sem, *]; done))
  have f3_2_0 := hb3.free (b := w.heap.size + 1 + 1) (o := 0) (v := .int .i64 0) (by first | with_reducible exact c2_2_0 | (simp [go_sem]; done) | (simp [go_sem, *]; done)) (by first | with_reducible exact f2_2_0 | (simp [go_sem]; done) | (simp [go_sem, *]; done))
  have c3_2_1 := hb3.get (b := w.heap.size + 1 + 1) (o := 1) (v := .int .u64 0) (by first | with_reducible exact c2_2_1 | (simp [go_sem]; done) | (simp [go_sem, *]; done))
  have f3_2_1 := hb3.free (b := w.heap.size + 1 + 1) (o := 1) (v := .int .u64 0) (by first | with_reducible exact c2_2_1 | (simp [go_sem]; done) | (simp [go_sem, *]; done)) (by first | with_reducible exact f2_2_1 | (simp [go_sem]; done) | (simp [go_sem, *]; done))
  have c3_2_2 := hb3.get (b := w.heap.size + 1 + 1) (o := 2) (v := .int .u64 0) (by first | with_reducible exact c2_2_2 | (simp [go_sem]; done) | (simp [go_sem, *]; done))
  have f3_2_2 := hb3.free (b := w.heap.size + 1 + 1) (o := 2) (v := .int .u64 0) (by first | with_reducible exact c2_2_2 | (simp [go_sem]; done) | (simp [go_sem, *]; done)) (by first | with_reducible exact f2_2_2 | (simp [go_sem]; done) | (simp [go_sem, *]; done))
  clear hz3
  go_wp2
  exact bodyPost_ret (v := bv 1 (b01 (false))) (by simp [results, Try.results5, go_sem, *]) rfl ⟨rfl, by repeat (first | with_reducible exact Fr.refl _ | with_reducible apply Fr.drewN | with_reducible apply Fr.drew | with_reducible apply Fr.alloc | (with_reducible refine Fr.set ?_ (by simp; try omega) _) | (with_reducible refine Fr.call ?_ (by assumption)))⟩
end Go.Proofs.Ytglgbhlnfafhjaa
