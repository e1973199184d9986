/- Contracts of package bvec's Bin, each operation under the contract of what it calls. -/
import Derived.Test.YtglgbhlnfafhjaaMidb
import Derived.Test.YtglgbhlnfafhjaaGe
namespace Go.Proofs.Ytglgbhlnfafhjaa
open Go.RowKit

set_option maxHeartbeats 4000000 in
theorem bin_bad1 (op W v X u : Int) (v0 : 0 ≤ v) (v1 : v < 340282366920938463463374607431768211456) (h : normB W v = false) (w : World) :
    Calls Try.prog 5 #[.int .i64 op, bv W v, bv X u] w fun e w' => e = .returned (bv 0 0) ∧ Fr w w' := by
  have H := Lib.hid h; clear h
  go_enter Try.func5, Try.ntmps5
  go_wp2_with fail
  refine (normal_any _ _ v0 v1 _).mono ?_
  rintro e w1 ⟨rfl, hb1⟩
  have hz1 := hb1.size
  (try simp at hz1)
  have z1_0 : w.heap.size < w1.heap.size := (by omega)
  have c1_0_0 := hb1.get (b := w.heap.size) (o := 0) (v := .int .i64 (W)) (by first | (simp [go_sem]; done) | (simp [go_sem, *]; done))
  have c1_0_1 := hb1.get (b := w.heap.size) (o := 1) (v := .int .u64 (hi (v))) (by first | (simp [go_sem]; done) | (simp [go_sem, *]; done))
  have c1_0_2 := hb1.get (b := w.heap.size) (o := 2) (v := .int .u64 (lo (v))) (by first | (simp [go_sem]; done) | (simp [go_sem, *]; done))
  have z1_1 : w.heap.size + 1 < w1.heap.size := (by omega)
  have c1_1_0 := hb1.get (b := w.heap.size + 1) (o := 0) (v := .int .i64 (X)) (by first | (simp [go_sem]; done) | (simp [go_sem, *]; done))
  have c1_1_1 := hb1.get (b := w.heap.size + 1) (o := 1) (v := .int .u64 (hi (u))) (by first | (simp [go_sem]; done) | (simp [go_sem, *]; done))
  have c1_1_2 := hb1.get (b := w.heap.size + 1) (o := 2) (v := .int .u64 (lo (u))) (by first | (simp [go_sem]; done) | (simp [go_sem, *]; done))
  have z1_2 : w.heap.size + 1 + 1 < w1.heap.size := (by omega)
  have c1_2_0 := hb1.get (b := w.heap.size + 1 + 1) (o := 0) (v := .int .i64 0) (by first | (simp [go_sem]; done) | (simp [go_sem, *]; done))
  have f1_2_0 := hb1.free (b := w.heap.size + 1 + 1) (o := 0) (v := .int .i64 0) (by first | (simp [go_sem]; done) | (simp [go_sem, *]; done)) (by first | (simp [go_sem]; done) | (simp [go_sem, *]; done))
  have c1_2_1 := hb1.get (b := w.heap.size + 1 + 1) (o := 1) (v := .int .u64 0) (by first | (simp [go_sem]; done) | (simp [go_sem, *]; done))
  have f1_2_1 := hb1.free (b := w.heap.size + 1 + 1) (o := 1) (v := .int .u64 0) (by first | (simp [go_sem]; done) | (simp [go_sem, *]; done)) (by first | (simp [go_sem]; done) | (simp [go_sem, *]; done))
  have c1_2_2 := hb1.get (b := w.heap.size + 1 + 1) (o := 2) (v := .int .u64 0) (by first | (simp [go_sem]; done) | (simp [go_sem, *]; done))
  have f1_2_2 := hb1.free (b := w.heap.size + 1 + 1) (o := 2) (v := .int .u64 0) (by first | (simp [go_sem]; done) | (simp [go_sem, *]; done)) (by first | (simp [go_sem]; done) | (simp [go_sem, *]; done))
  clear hz1
  rw [H.out]
  go_wp2
  exact bodyPost_ret (v := bv 0 0) (by simp [results, Try.results5, go_sem, hi_zero, lo_zero, *]) rfl ⟨rfl, by repeat (first | with_reducible exact Fr.refl _ | with_reducible apply Fr.drewN | with_reducible apply Fr.drew | with_reducible apply Fr.alloc | (with_reducible refine Fr.set ?_ (by simp; try omega) _) | (with_reducible refine Fr.call ?_ (by assumption)))⟩
set_option maxHeartbeats 4000000 in
theorem bin_bad2 (op W v X u : Int) (h : Norm W v) (u0 : 0 ≤ u) (u1 : u < 340282366920938463463374607431768211456) (k : normB X u = false) (w : World) :
    Calls Try.prog 5 #[.int .i64 op, bv W v, bv X u] w fun e w' => e = .returned (bv 0 0) ∧ Fr w w' := by
  have H := Lib.hid (norm_to h); have hv := h.lt128; have hv0 := h.2.2.1; clear h
  have K := Lib.hid k; clear k
  go_enter Try.func5, Try.ntmps5
  go_wp2_with fail
  refine (normal_any _ _ hv0 hv _).mono ?_
  rintro e w1 ⟨rfl, hb1⟩
  have hz1 := hb1.size
  (try simp at hz1)
  have z1_0 : w.heap.size < w1.heap.size := (by omega)
  have c1_0_0 := hb1.get (b := w.heap.size) (o := 0) (v := .int .i64 (W)) (by first | (simp [go_sem]; done) | (simp [go_sem, *]; done))
  have c1_0_1 := hb1.get (b := w.heap.size) (o := 1) (v := .int .u64 (hi (v))) (by first | (simp [go_sem]; done) | (simp [go_sem, *]; done))
  have c1_0_2 := hb1.get (b := w.heap.size) (o := 2) (v := .int .u64 (lo (v))) (by first | (simp [go_sem]; done) | (simp [go_sem, *]; done))
  have z1_1 : w.heap.size + 1 < w1.heap.size := (by omega)
  have c1_1_0 := hb1.get (b := w.heap.size + 1) (o := 0) (v := .int .i64 (X)) (by first | (simp [go_sem]; done) | (simp [go_sem, *]; done))
  have c1_1_1 := hb1.get (b := w.heap.size + 1) (o := 1) (v := .int .u64 (hi (u))) (by first | (simp [go_sem]; done) | (simp [go_sem, *]; done))
  have c1_1_2 := hb1.get (b := w.heap.size + 1) (o := 2) (v := .int .u64 (lo (u))) (by first | (simp [go_sem]; done) | (simp [go_sem, *]; done))
  have z1_2 : w.heap.size + 1 + 1 < w1.heap.size := (by omega)
  have c1_2_0 := hb1.get (b := w.heap.size + 1 + 1) (o := 0) (v := .int .i64 0) (by first | (simp [go_sem]; done) | (simp [go_sem, *]; done))
  have f1_2_0 := hb1.free (b := w.heap.size + 1 + 1) (o := 0) (v := .int .i64 0) (by first | (simp [go_sem]; done) | (simp [go_sem, *]; done)) (by first | (simp [go_sem]; done) | (simp [go_sem, *]; done))
  have c1_2_1 := hb1.get (b := w.heap.size + 1 + 1) (o := 1) (v := .int .u64 0) (by first | (simp [go_sem]; done) | (simp [go_sem, *]; done))
  have f1_2_1 := hb1.free (b := w.heap.size + 1 + 1) (o := 1) (v := .int .u64 0) (by first | (simp [go_sem]; done) | (simp [go_sem, *]; done)) (by first | (simp [go_sem]; done) | (simp [go_sem, *]; done))
  have c1_2_2 := hb1.get (b := w.heap.size + 1 + 1) (o := 2) (v := .int .u64 0) (by first | (simp [go_sem]; done) | (simp [go_sem, *]; done))
  have f1_2_2 := hb1.free (b := w.heap.size + 1 + 1) (o := 2) (v := .int .u64 0) (by first | (simp [go_sem]; done) | (simp [go_sem, *]; done)) (by first | (simp [go_sem]; done) | (simp [go_sem, *]; done))
  clear hz1
  rw [H.out]
  go_wp2_with fail
  refine (normal_any _ _ u0 u1 _).mono ?_
  rintro e w2 ⟨rfl, hb2⟩
  have hz2 := hb2.size
  (try simp at hz2)
  have z2_0 : w.heap.size < w2.heap.size := (by omega)
  have c2_0_0 := hb2.get (b := w.heap.size) (o := 0) (v := .int .i64 (W)) (by first | with_reducible exact c1_0_0 | (simp [go_sem]; done) | (simp [go_sem, *]; done))
  have c2_0_1 := hb2.get (b := w.heap.size) (o := 1) (v := .int .u64 (hi (v))) (by first | with_reducible exact c1_0_1 | (simp [go_sem]; done) | (simp [go_sem, *]; done))
  have c2_0_2 := hb2.get (b := w.heap.size) (o := 2) (v := .int .u64 (lo (v))) (by first | with_reducible exact c1_0_2 | (simp [go_sem]; done) | (simp [go_sem, *]; done))
  have z2_1 : w.heap.size + 1 < w2.heap.size := (by omega)
  have c2_1_0 := hb2.get (b := w.heap.size + 1) (o := 0) (v := .int .i64 (X)) (by first | with_reducible exact c1_1_0 | (simp [go_sem]; done) | (simp [go_sem, *]; done))
  have c2_1_1 := hb2.get (b := w.heap.size + 1) (o := 1) (v := .int .u64 (hi (u))) (by first | with_reducible exact c1_1_1 | (simp [go_sem]; done) | (simp [go_sem, *]; done))
  have c2_1_2 := hb2.get (b := w.heap.size + 1) (o := 2) (v := .int .u64 (lo (u))) (by first | with_reducible exact c1_1_2 | (simp [go_sem]; done) | (simp [go_sem, *]; done))
  have z2_2 : w.heap.size + 1 + 1 < w2.heap.size := (by omega)
  have c2_2_0 := hb2.get (b := w.heap.size + 1 + 1) (o := 0) (v := .int .i64 0) (by first | with_reducible exact c1_2_0 | (simp [go_sem]; done) | (simp [go_sem, *]; done))
  have f2_2_0 := hb2.free (b := w.heap.size + 1 + 1) (o := 0) (v := .int .i64 0) (by first | with_reducible exact c1_2_0 | (simp [go_sem]; done) | (simp [go_sem, *]; done)) (by first | with_reducible exact f1_2_0 | (simp [go_sem]; done) | (simp [go_sem, *]; done))
  have c2_2_1 := hb2.get (b := w.heap.size + 1 + 1) (o := 1) (v := .int .u64 0) (by first | with_reducible exact c1_2_1 | (simp [go_sem]; done) | (simp [go_sem, *]; done))
  have f2_2_1 := hb2.free (b := w.heap.size + 1 + 1) (o := 1) (v := .int .u64 0) (by first | with_reducible exact c1_2_1 | (simp [go_sem]; done) | (simp [go_sem, *]; done)) (by first | with_reducible exact f1_2_1 | (simp [go_sem]; done) | (simp [go_sem, *]; done))
  have c2_2_2 := hb2.get (b := w.heap.size + 1 + 1) (o := 2) (v := .int .u64 0) (by first | with_reducible exact c1_2_2 | (simp [go_sem]; done) | (simp [go_sem, *]; done))
  have f2_2_2 := hb2.free (b := w.heap.size + 1 + 1) (o := 2) (v := .int .u64 0) (by first | with_reducible exact c1_2_2 | (simp [go_sem]; done) | (simp [go_sem, *]; done)) (by first | with_reducible exact f1_2_2 | (simp [go_sem]; done) | (simp [go_sem, *]; done))
  clear hz2
  rw [K.out]
  go_wp2
  exact bodyPost_ret (v := bv 0 0) (by simp [results, Try.results5, go_sem, hi_zero, lo_zero, *]) rfl ⟨rfl, by repeat (first | with_reducible exact Fr.refl _ | with_reducible apply Fr.drewN | with_reducible apply Fr.drew | with_reducible apply Fr.alloc | (with_reducible refine Fr.set ?_ (by simp; try omega) _) | (with_reducible refine Fr.call ?_ (by assumption)))⟩
set_option maxHeartbeats 4000000 in
theorem bin_7 (W v X u z : Int) (h : Norm W v) (k : Norm X u) (hd : ∀ w : World, Calls Try.prog 9 #[.int .i64 7, bv W v, bv X u] w fun e w' => e = .returned (bv W z) ∧ Fr w w') (w : World) :
    Calls Try.prog 5 #[.int .i64 7, bv W v, bv X u] w fun e w' => e = .returned (bv W z) ∧ Fr w w' := by
  have HD := Lib.hid hd; clear hd
  have HN := Lib.hid h; have KN := Lib.hid k
  have H := Lib.hid (norm_to h); have hv := h.lt128; have hv0 := h.2.2.1; have hw1 := h.1; have hw2 := h.2.1; clear h
  have K := Lib.hid (norm_to k); have hu := k.lt128; have hu0 := k.2.2.1; clear k
  go_enter Try.func5, Try.ntmps5
  go_wp2_with fail
  refine (normal_any _ _ hv0 hv _).mono ?_
  rintro e w1 ⟨rfl, hb1⟩
  have hz1 := hb1.size
  (try simp at hz1)
  have z1_0 : w.heap.size < w1.heap.size := (by omega)
  have c1_0_0 := hb1.get (b := w.heap.size) (o := 0) (v := .int .i64 (W)) (by first | (simp [go_sem]; done) | (simp [go_sem, *]; done))
  have c1_0_1 := hb1.get (b := w.heap.size) (o := 1) (v := .int .u64 (hi (v))) (by first | (simp [go_sem]; done) | (simp [go_sem, *]; done))
  have c1_0_2 := hb1.get (b := w.heap.size) (o := 2) (v := .int .u64 (lo (v))) (by first | (simp [go_sem]; done) | (simp [go_sem, *]; done))
  have z1_1 : w.heap.size + 1 < w1.heap.size := (by omega)
  have c1_1_0 := hb1.get (b := w.heap.size + 1) (o := 0) (v := .int .i64 (X)) (by first | (simp [go_sem]; done) | (simp [go_sem, *]; done))
  have c1_1_1 := hb1.get (b := w.heap.size + 1) (o := 1) (v := .int .u64 (hi (u))) (by first | (simp [go_sem]; done) | (simp [go_sem, *]; done))
  have c1_1_2 := hb1.get (b := w.heap.size + 1) (o := 2) (v := .int .u64 (lo (u))) (by first | (simp [go_sem]; done) | (simp [go_sem, *]; done))
  have z1_2 : w.heap.size + 1 + 1 < w1.heap.size := (by omega)
  have c1_2_0 := hb1.get (b := w.heap.size + 1 + 1) (o := 0) (v := .int .i64 0) (by first | (simp [go_sem]; done) | (simp [go_sem, *]; done))
  have f1_2_0 := hb1.free (b := w.heap.size + 1 + 1) (o := 0) (v := .int .i64 0) (by first | (simp [go_sem]; done) | (simp [go_sem, *]; done)) (by first | (simp [go_sem]; done) | (simp [go_sem, *]; done))
  have c1_2_1 := hb1.get (b := w.heap.size + 1 + 1) (o := 1) (v := .int .u64 0) (by first | (simp [go_sem]; done) | (simp [go_sem, *]; done))
  have f1_2_1 := hb1.free (b := w.heap.size + 1 + 1) (o := 1) (v := .int .u64 0) (by first | (simp [go_sem]; done) | (simp [go_sem, *]; done)) (by first | (simp [go_sem]; done) | (simp [go_sem, *]; done))
  have c1_2_2 := hb1.get (b := w.heap.size + 1 + 1) (o := 2) (v := .int .u64 0) (by first | (simp [go_sem]; done) | (simp [go_sem, *]; done))
  have f1_2_2 := hb1.free (b := w.heap.size + 1 + 1) (o := 2) (v := .int .u64 0) (by first | (simp [go_sem]; done) | (simp [go_sem, *]; done)) (by first | (simp [go_sem]; done) | (simp [go_sem, *]; done))
  clear hz1
  rw [H.out]
  go_wp2_with fail
  refine (normal_any _ _ hu0 hu _).mono ?_
  rintro e w2 ⟨rfl, hb2⟩
  have hz2 := hb2.size
  (try simp at hz2)
  have z2_0 : w.heap.size < w2.heap.size := (by omega)
  have c2_0_0 := hb2.get (b := w.heap.size) (o := 0) (v := .int .i64 (W)) (by first | with_reducible exact c1_0_0 | (simp [go_sem]; done) | (simp [go_sem, *]; done))
  have c2_0_1 := hb2.get (b := w.heap.size) (o := 1) (v := .int .u64 (hi (v))) (by first | with_reducible exact c1_0_1 | (simp [go_sem]; done) | (simp [go_sem, *]; done))
  have c2_0_2 := hb2.get (b := w.heap.size) (o := 2) (v := .int .u64 (lo (v))) (by first | with_reducible exact c1_0_2 | (simp [go_sem]; done) | (simp [go_sem, *]; done))
  have z2_1 : w.heap.size + 1 < w2.heap.size := (by omega)
  have c2_1_0 := hb2.get (b := w.heap.size + 1) (o := 0) (v := .int .i64 (X)) (by first | with_reducible exact c1_1_0 | (simp [go_sem]; done) | (simp [go_sem, *]; done))
  have c2_1_1 := hb2.get (b := w.heap.size + 1) (o := 1) (v := .int .u64 (hi (u))) (by first | with_reducible exact c1_1_1 | (simp [go_sem]; done) | (simp [go_sem, *]; done))
  have c2_1_2 := hb2.get (b := w.heap.size + 1) (o := 2) (v := .int .u64 (lo (u))) (by first | with_reducible exact c1_1_2 | (simp [go_sem]; done) | (simp [go_sem, *]; done))
  have z2_2 : w.heap.size + 1 + 1 < w2.heap.size := (by omega)
  have c2_2_0 := hb2.get (b := w.heap.size + 1 + 1) (o := 0) (v := .int .i64 0) (by first | with_reducible exact c1_2_0 | (simp [go_sem]; done) | (simp [go_sem, *]; done))
  have f2_2_0 := hb2.free (b := w.heap.size + 1 + 1) (o := 0) (v := .int .i64 0) (by first | with_reducible exact c1_2_0 | (simp [go_sem]; done) | (simp [go_sem, *]; done)) (by first | with_reducible exact f1_2_0 | (simp [go_sem]; done) | (simp [go_sem, *]; done))
  have c2_2_1 := hb2.get (b := w.heap.size + 1 + 1) (o := 1) (v := .int .u64 0) (by first | with_reducible exact c1_2_1 | (simp [go_sem]; done) | (simp [go_sem, *]; done))
  have f2_2_1 := hb2.free (b := w.heap.size + 1 + 1) (o := 1) (v := .int .u64 0) (by first | with_reducible exact c1_2_1 | (simp [go_sem]; done) | (simp [go_sem, *]; done)) (by first | with_reducible exact f1_2_1 | (simp [go_sem]; done) | (simp [go_sem, *]; done))
  have c2_2_2 := hb2.get (b := w.heap.size + 1 + 1) (o := 2) (v := .int .u64 0) (by first | with_reducible exact c1_2_2 | (simp [go_sem]; done) | (simp [go_sem, *]; done))
  have f2_2_2 := hb2.free (b := w.heap.size + 1 + 1) (o := 2) (v := .int .u64 0) (by first | with_reducible exact c1_2_2 | (simp [go_sem]; done) | (simp [go_sem, *]; done)) (by first | with_reducible exact f1_2_2 | (simp [go_sem]; done) | (simp [go_sem, *]; done))
  clear hz2
  rw [K.out]
  go_wp2_with fail
  refine (HD.out _).mono ?_
  rintro e w3 ⟨rfl, hb3⟩
  have hz3 := hb3.size
  (try simp at hz3)
  have z3_0 : w.heap.size < w3.heap.size := (by omega)
  have c3_0_0 := hb3.get (b := w.heap.size) (o := 0) (v := .int .i64 (W)) (by first | with_reducible exact c2_0_0 | (simp [go_sem]; done) | (simp [go_sem, *]; done))
  have c3_0_1 := hb3.get (b := w.heap.size) (o := 1) (v := .int .u64 (hi (v))) (by first | with_reducible exact c2_0_1 | (simp [go_sem]; done) | (simp [go_sem, *]; done))
  have c3_0_2 := hb3.get (b := w.heap.size) (o := 2) (v := .int .u64 (lo (v))) (by first | with_reducible exact c2_0_2 | (simp [go_sem]; done) | (simp [go_sem, *]; done))
  have z3_1 : w.heap.size + 1 < w3.heap.size := (by omega)
  have c3_1_0 := hb3.get (b := w.heap.size + 1) (o := 0) (v := .int .i64 (X)) (by first | with_reducible exact c2_1_0 | (simp [go_sem]; done) | (simp [go_sem, *]; done))
  have c3_1_1 := hb3.get (b := w.heap.size + 1) (o := 1) (v := .int .u64 (hi (u))) (by first | with_reducible exact c2_1_1 | (simp [go_sem]; done) | (simp [go_sem, *]; done))
  have c3_1_2 := hb3.get (b := w.heap.size + 1) (o := 2) (v := .int .u64 (lo (u))) (by first | with_reducible exact c2_1_2 | (simp [go_sem]; done) | (simp [go_sem, *]; done))
  have z3_2 : w.heap.size + 1 + 1 < w3.heap.size := (by omega)
  have c3_2_0 := hb3.get (b := w.heap.size + 1 + 1) (o := 0) (v := .int .i64 0) (by first | with_reducible exact c2_2_0 | (simp [go_sem]; done) | (simp [go_sem, *]; done))
  have f3_2_0 := hb3.free (b := w.heap.size + 1 + 1) (o := 0) (v := .int .i64 0) (by first | with_reducible exact c2_2_0 | (simp [go_sem]; done) | (simp [go_sem, *]; done)) (by first | with_reducible exact f2_2_0 | (simp [go_sem]; done) | (simp [go_sem, *]; done))
  have c3_2_1 := hb3.get (b := w.heap.size + 1 + 1) (o := 1) (v := .int .u64 0) (by first | with_reducible exact c2_2_1 | (simp [go_sem]; done) | (simp [go_sem, *]; done))
  have f3_2_1 := hb3.free (b := w.heap.size + 1 + 1) (o := 1) (v := .int .u64 0) (by first | with_reducible exact c2_2_1 | (simp [go_sem]; done) | (simp [go_sem, *]; done)) (by first | with_reducible exact f2_2_1 | (simp [go_sem]; done) | (simp [go_sem, *]; done))
  have c3_2_2 := hb3.get (b := w.heap.size + 1 + 1) (o := 2) (v := .int .u64 0) (by first | with_reducible exact c2_2_2 | (simp [go_sem]; done) | (simp [go_sem, *]; done))
  have f3_2_2 := hb3.free (b := w.heap.size + 1 + 1) (o := 2) (v := .int .u64 0) (by first | with_reducible exact c2_2_2 | (simp [go_sem]; done) | (simp [go_sem, *]; done)) (by first | with_reducible exact f2_2_2 | (simp [go_sem]; done) | (simp [go_sem, *]; done))
  clear hz3
  go_wp2
  exact bodyPost_ret (v := bv W z) (by simp [results, Try.results5, go_sem, *]) rfl ⟨rfl, by repeat (first | with_reducible exact Fr.refl _ | with_reducible apply Fr.drewN | with_reducible apply Fr.drew | with_reducible apply Fr.alloc | (with_reducible refine Fr.set ?_ (by simp; try omega) _) | (with_reducible refine Fr.call ?_ (by assumption)))⟩
set_option maxHeartbeats 4000000 in
theorem bin_8 (W v X u z : Int) (h : Norm W v) (k : Norm X u) (hd : ∀ w : World, Calls Try.prog 9 #[.int .i64 8, bv W v, bv X u] w fun e w' => e = .returned (bv W z) ∧ Fr w w') (w : World) :
    Calls Try.prog 5 #[.int .i64 8, bv W v, bv X u] w fun e w' => e = .returned (bv W z) ∧ Fr w w' := by
  have HD := Lib.hid hd; clear hd
  have HN := Lib.hid h; have KN := Lib.hid k
  have H := Lib.hid (norm_to h); have hv := h.lt128; have hv0 := h.2.2.1; have hw1 := h.1; have hw2 := h.2.1; clear h
  have K := Lib.hid (norm_to k); have hu := k.lt128; have hu0 := k.2.2.1; clear k
  go_enter Try.func5, Try.ntmps5
  go_wp2_with fail
  refine (normal_any _ _ hv0 hv _).mono ?_
  rintro e w1 ⟨rfl, hb1⟩
  have hz1 := hb1.size
  (try simp at hz1)
  have z1_0 : w.heap.size < w1.heap.size := (by omega)
  have c1_0_0 := hb1.get (b := w.heap.size) (o := 0) (v := .int .i64 (W)) (by first | (simp [go_sem]; done) | (simp [go_sem, *]; done))
  have c1_0_1 := hb1.get (b := w.heap.size) (o := 1) (v := .int .u64 (hi (v))) (by first | (simp [go_sem]; done) | (simp [go_sem, *]; done))
  have c1_0_2 := hb1.get (b := w.heap.size) (o := 2) (v := .int .u64 (lo (v))) (by first | (simp [go_sem]; done) | (simp [go_sem, *]; done))
  have z1_1 : w.heap.size + 1 < w1.heap.size := (by omega)
  have c1_1_0 := hb1.get (b := w.heap.size + 1) (o := 0) (v := .int .i64 (X)) (by first | (simp [go_sem]; done) | (simp [go_sem, *]; done))
  have c1_1_1 := hb1.get (b := w.heap.size + 1) (o := 1) (v := .int .u64 (hi (u))) (by first | (simp [go_sem]; done) | (simp [go_sem, *]; done))
  have c1_1_2 := hb1.get (b := w.heap.size + 1) (o := 2) (v := .int .u64 (lo (u))) (by first | (simp [go_sem]; done) | (simp [go_sem, *]; done))
  have z1_2 : w.heap.size + 1 + 1 < w1.heap.size := (by omega)
  have c1_2_0 := hb1.get (b := w.heap.size + 1 + 1) (o := 0) (v := .int .i64 0) (by first | (simp [go_sem]; done) | (simp [go_sem, *]; done))
  have f1_2_0 := hb1.free (b := w.heap.size + 1 + 1) (o := 0) (v := .int .i64 0) (by first | (simp [go_sem]; done) | (simp [go_sem, *]; done)) (by first | (simp [go_sem]; done) | (simp [go_sem, *]; done))
  have c1_2_1 := hb1.get (b := w.heap.size + 1 + 1) (o := 1) (v := .int .u64 0) (by first | (simp [go_sem]; done) | (simp [go_sem, *]; done))
  have f1_2_1 := hb1.free (b := w.heap.size + 1 + 1) (o := 1) (v := .int .u64 0) (by first | (simp [go_sem]; done) | (simp [go_sem, *]; done)) (by first | (simp [go_sem]; done) | (simp [go_sem, *]; done))
  have c1_2_2 := hb1.get (b := w.heap.size + 1 + 1) (o := 2) (v := .int .u64 0) (by first | (simp [go_sem]; done) | (simp [go_sem, *]; done))
  have f1_2_2 := hb1.free (b := w.heap.size + 1 + 1) (o := 2) (v := .int .u64 0) (by first | (simp [go_sem]; done) | (simp [go_sem, *]; done)) (by first | (simp [go_sem]; done) | (simp [go_sem, *]; done))
  clear hz1
  rw [H.out]
  go_wp2_with fail
  refine (normal_any _ _ hu0 hu _).mono ?_
  rintro e w2 ⟨rfl, hb2⟩
  have hz2 := hb2.size
  (try simp at hz2)
  have z2_0 : w.heap.size < w2.heap.size := (by omega)
  have c2_0_0 := hb2.get (b := w.heap.size) (o := 0) (v := .int .i64 (W)) (by first | with_reducible exact c1_0_0 | (simp [go_sem]; done) | (simp [go_sem, *]; done))
  have c2_0_1 := hb2.get (b := w.heap.size) (o := 1) (v := .int .u64 (hi (v))) (by first | with_reducible exact c1_0_1 | (simp [go_sem]; done) | (simp [go_sem, *]; done))
  have c2_0_2 := hb2.get (b := w.heap.size) (o := 2) (v := .int .u64 (lo (v))) (by first | with_reducible exact c1_0_2 | (simp [go_sem]; done) | (simp [go_sem, *]; done))
  have z2_1 : w.heap.size + 1 < w2.heap.size := (by omega)
  have c2_1_0 := hb2.get (b := w.heap.size + 1) (o := 0) (v := .int .i64 (X)) (by first | with_reducible exact c1_1_0 | (simp [go_sem]; done) | (simp [go_sem, *]; done))
  have c2_1_1 := hb2.get (b := w.heap.size + 1) (o := 1) (v := .int .u64 (hi (u))) (by first | with_reducible exact c1_1_1 | (simp [go_sem]; done) | (simp [go_sem, *]; done))
  have c2_1_2 := hb2.get (b := w.heap.size + 1) (o := 2) (v := .int .u64 (lo (u))) (by first | with_reducible exact c1_1_2 | (simp [go_sem]; done) | (simp [go_sem, *]; done))
  have z2_2 : w.heap.size + 1 + 1 < w2.heap.size := (by omega)
  have c2_2_0 := hb2.get (b := w.heap.size + 1 + 1) (o := 0) (v := .int .i64 0) (by first | with_reducible exact c1_2_0 | (simp [go_sem]; done) | (simp [go_sem, *]; done))
  have f2_2_0 := hb2.free (b := w.heap.size + 1 + 1) (o := 0) (v := .int .i64 0) (by first | with_reducible exact c1_2_0 | (simp [go_sem]; done) | (simp [go_sem, *]; done)) (by first | with_reducible exact f1_2_0 | (simp [go_sem]; done) | (simp [go_sem, *]; done))
  have c2_2_1 := hb2.get (b := w.heap.size + 1 + 1) (o := 1) (v := .int .u64 0) (by first | with_reducible exact c1_2_1 | (simp [go_sem]; done) | (simp [go_sem, *]; done))
  have f2_2_1 := hb2.free (b := w.heap.size + 1 + 1) (o := 1) (v := .int .u64 0) (by first | with_reducible exact c1_2_1 | (simp [go_sem]; done) | (simp [go_sem, *]; done)) (by first | with_reducible exact f1_2_1 | (simp [go_sem]; done) | (simp [go_sem, *]; done))
  have c2_2_2 := hb2.get (b := w.heap.size + 1 + 1) (o := 2) (v := .int .u64 0) (by first | with_reducible exact c1_2_2 | (simp [go_sem]; done) | (simp [go_sem, *]; done))
  have f2_2_2 := hb2.free (b := w.heap.size + 1 + 1) (o := 2) (v := .int .u64 0) (by first | with_reducible exact c1_2_2 | (simp [go_sem]; done) | (simp [go_sem, *]; done)) (by first | with_reducible exact f1_2_2 | (simp [go_sem]; done) | (simp [go_sem, *]; done))
  clear hz2
  rw [K.out]
  go_wp2_with fail
  refine (HD.out _).mono ?_
  rintro e w3 ⟨rfl, hb3⟩
  have hz3 := hb3.size
  (try simp at hz3)
  have z3_0 : w.heap.size < w3.heap.size := (by omega)
  have c3_0_0 := hb3.get (b := w.heap.size) (o := 0) (v := .int .i64 (W)) (by first | with_reducible exact c2_0_0 | (simp [go_sem]; done) | (simp [go_sem, *]; done))
  have c3_0_1 := hb3.get (b := w.heap.size) (o := 1) (v := .int .u64 (hi (v))) (by first | with_reducible exact c2_0_1 | (simp [go_sem]; done) | (simp [go_sem, *]; done))
  have c3_0_2 := hb3.get (b := w.heap.size) (o := 2) (v := .int .u64 (lo (v))) (by first | with_reducible exact c2_0_2 | (simp [go_sem]; done) | (simp [go_sem, *]; done))
  have z3_1 : w.heap.size + 1 < w3.heap.size := (by omega)
  have c3_1_0 := hb3.get (b := w.heap.size + 1) (o := 0) (v := .int .i64 (X)) (by first | with_reducible exact c2_1_0 | (simp [go_sem]; done) | (simp [go_sem, *]; done))
  have c3_1_1 := hb3.get (b := w.heap.size + 1) (o := 1) (v := .int .u64 (hi (u))) (by first | with_reducible exact c2_1_1 | (simp [go_sem]; done) | (simp [go_sem, *]; done))
  have c3_1_2 := hb3.get (b := w.heap.size + 1) (o := 2) (v := .int .u64 (lo (u))) (by first | with_reducible exact c2_1_2 | (simp [go_sem]; done) | (simp [go_sem, *]; done))
  have z3_2 : w.heap.size + 1 + 1 < w3.heap.size := (by omega)
  have c3_2_0 := hb3.get (b := w.heap.size + 1 + 1) (o := 0) (v := .int .i64 0) (by first | with_reducible exact c2_2_0 | (simp [go_sem]; done) | (simp [go_sem, *]; done))
  have f3_2_0 := hb3.free (b := w.heap.size + 1 + 1) (o := 0) (v := .int .i64 0) (by first | with_reducible exact c2_2_0 | (simp [go_sem]; done) | (simp [go_sem, *]; done)) (by first | with_reducible exact f2_2_0 | (simp [go_sem]; done) | (simp [go_sem, *]; done))
  have c3_2_1 := hb3.get (b := w.heap.size + 1 + 1) (o := 1) (v := .int .u64 0) (by first | with_reducible exact c2_2_1 | (simp [go_sem]; done) | (simp [go_sem, *]; done))
  have f3_2_1 := hb3.free (b := w.heap.size + 1 + 1) (o := 1) (v := .int .u64 0) (by first | with_reducible exact c2_2_1 | (simp [go_sem]; done) | (simp [go_sem, *]; done)) (by first | with_reducible exact f2_2_1 | (simp [go_sem]; done) | (simp [go_sem, *]; done))
  have c3_2_2 := hb3.get (b := w.heap.size + 1 + 1) (o := 2) (v := .int .u64 0) (by first | with_reducible exact c2_2_2 | (simp [go_sem]; done) | (simp [go_sem, *]; done))
  have f3_2_2 := hb3.free (b := w.heap.size + 1 + 1) (o := 2) (v := .int .u64 0) (by first | with_reducible exact c2_2_2 | (simp [go_sem]; done) | (simp [go_sem, *]; done)) (by first | with_reducible exact f2_2_2 | (simp [go_sem]; done) | (simp [go_sem, *]; done))
  clear hz3
  go_wp2
  exact bodyPost_ret (v := bv W z) (by simp [results, Try.results5, go_sem, *]) rfl ⟨rfl, by repeat (first | with_reducible exact Fr.refl _ | with_reducible apply Fr.drewN | with_reducible apply Fr.drew | with_reducible apply Fr.alloc | (with_reducible refine Fr.set ?_ (by simp; try omega) _) | (with_reducible refine Fr.call ?_ (by assumption)))⟩
set_option maxHeartbeats 4000000 in
theorem bin_9 (W v X u z : Int) (h : Norm W v) (k : Norm X u) (hd : ∀ w : World, Calls Try.prog 9 #[.int .i64 9, bv W v, bv X u] w fun e w' => e = .returned (bv W z) ∧ Fr w w') (w : World) :
    Calls Try.prog 5 #[.int .i64 9, bv W v, bv X u] w fun e w' => e = .returned (bv W z) ∧ Fr w w' := by
  have HD := Lib.hid hd; clear hd
  have HN := Lib.hid h; have KN := Lib.hid k
  have H := Lib.hid (norm_to h); have hv := h.lt128; have hv0 := h.2.2.1; have hw1 := h.1; have hw2 := h.2.1; clear h
  have K := Lib.hid (norm_to k); have hu := k.lt128; have hu0 := k.2.2.1; clear k
  go_enter Try.func5, Try.ntmps5
  go_wp2_with fail
  refine (normal_any _ _ hv0 hv _).mono ?_
  rintro e w1 ⟨rfl, hb1⟩
  have hz1 := hb1.size
  (try simp at hz1)
  have z1_0 : w.heap.size < w1.heap.size := (by omega)
  have c1_0_0 := hb1.get (b := w.heap.size) (o := 0) (v := .int .i64 (W)) (by first | (simp [go_sem]; done) | (simp [go_sem, *]; done))
  have c1_0_1 := hb1.get (b := w.heap.size) (o := 1) (v := .int .u64 (hi (v))) (by first | (simp [go_sem]; done) | (simp [go_sem, *]; done))
  have c1_0_2 := hb1.get (b := w.heap.size) (o := 2) (v := .int .u64 (lo (v))) (by first | (simp [go_sem]; done) | (simp [go_sem, *]; done))
  have z1_1 : w.heap.size + 1 < w1.heap.size := (by omega)
  have c1_1_0 := hb1.get (b := w.heap.size + 1) (o := 0) (v := .int .i64 (X)) (by first | (simp [go_sem]; done) | (simp [go_sem, *]; done))
  have c1_1_1 := hb1.get (b := w.heap.size + 1) (o := 1) (v := .int .u64 (hi (u))) (by first | (simp [go_sem]; done) | (simp [go_sem, *]; done))
  have c1_1_2 := hb1.get (b := w.heap.size + 1) (o := 2) (v := .int .u64 (lo (u))) (by first | (simp [go_sem]; done) | (simp [go_sem, *]; done))
  have z1_2 : w.heap.size + 1 + 1 < w1.heap.size := (by omega)
  have c1_2_0 := hb1.get (b := w.heap.size + 1 + 1) (o := 0) (v := .int .i64 0) (by first | (simp [go_sem]; done) | (simp [go_sem, *]; done))
  have f1_2_0 := hb1.free (b := w.heap.size + 1 + 1) (o := 0) (v := .int .i64 0) (by first | (simp [go_sem]; done) | (simp [go_sem, *]; done)) (by first | (simp [go_sem]; done) | (simp [go_sem, *]; done))
  have c1_2_1 := hb1.get (b := w.heap.size + 1 + 1) (o := 1) (v := .int .u64 0) (by first | (simp [go_sem]; done) | (simp [go_sem, *]; done))
  have f1_2_1 := hb1.free (b := w.heap.size + 1 + 1) (o := 1) (v := .int .u64 0) (by first | (simp [go_sem]; done) | (simp [go_sem, *]; done)) (by first | (simp [go_sem]; done) | (simp [go_sem, *]; done))
  have c1_2_2 := hb1.get (b := w.heap.size + 1 + 1) (o := 2) (v := .int .u64 0) (by first | (simp [go_sem]; done) | (simp [go_sem, *]; done))
  have f1_2_2 := hb1.free (b := w.heap.size + 1 + 1) (o := 2) (v := .int .u64 0) (by first | (simp [go_sem]; done) | (simp [go_sem, *]; done)) (by first | (simp [go_sem]; done) | (simp [go_sem, *]; done))
  clear hz1
  rw [H.out]
  go_wp2_with fail
  refine (normal_any _ _ hu0 hu _).mono ?_
  rintro e w2 ⟨rfl, hb2⟩
  have hz2 := hb2.size
  (try simp at hz2)
  have z2_0 : w.heap.size < w2.heap.size := (by omega)
  have c2_0_0 := hb2.get (b := w.heap.size) (o := 0) (v := .int .i64 (W)) (by first | with_reducible exact c1_0_0 | (simp [go_sem]; done) | (simp [go_sem, *]; done))
  have c2_0_1 := hb2.get (b := w.heap.size) (o := 1) (v := .int .u64 (hi (v))) (by first | with_reducible exact c1_0_1 | (simp [go_sem]; done) | (simp [go_sem, *]; done))
  have c2_0_2 := hb2.get (b := w.heap.size) (o := 2) (v := .int .u64 (lo (v))) (by first | with_reducible exact c1_0_2 | (simp [go_sem]; done) | (simp [go_sem, *]; done))
  have z2_1 : w.heap.size + 1 < w2.heap.size := (by omega)
  have c2_1_0 := hb2.get (b := w.heap.size + 1) (o := 0) (v := .int .i64 (X)) (by first | with_reducible exact c1_1_0 | (simp [go_sem]; done) | (simp [go_sem, *]; done))
  have c2_1_1 := hb2.get (b := w.heap.size + 1) (o := 1) (v := .int .u64 (hi (u))) (by first | with_reducible exact c1_1_1 | (simp [go_sem]; done) | (simp [go_sem, *]; done))
  have c2_1_2 := hb2.get (b := w.heap.size + 1) (o := 2) (v := .int .u64 (lo (u))) (by first | with_reducible exact c1_1_2 | (simp [go_sem]; done) | (simp [go_sem, *]; done))
  have z2_2 : w.heap.size + 1 + 1 < w2.heap.size := (by omega)
  have c2_2_0 := hb2.get (b := w.heap.size + 1 + 1) (o := 0) (v := .int .i64 0) (by first | with_reducible exact c1_2_0 | (simp [go_sem]; done) | (simp [go_sem, *]; done))
  have f2_2_0 := hb2.free (b := w.heap.size + 1 + 1) (o := 0) (v := .int .i64 0) (by first | with_reducible exact c1_2_0 | (simp [go_sem]; done) | (simp [go_sem, *]; done)) (by first | with_reducible exact f1_2_0 | (simp [go_sem]; done) | (simp [go_sem, *]; done))
  have c2_2_1 := hb2.get (b := w.heap.size + 1 + 1) (o := 1) (v := .int .u64 0) (by first | with_reducible exact c1_2_1 | (simp [go_sem]; done) | (simp [go_sem, *]; done))
  have f2_2_1 := hb2.free (b := w.heap.size + 1 + 1) (o := 1) (v := .int .u64 0) (by first | with_reducible exact c1_2_1 | (simp [go_sem]; done) | (simp [go_sem, *]; done)) (by first | with_reducible exact f1_2_1 | (simp [go_sem]; done) | (simp [go_sem, *]; done))
  have c2_2_2 := hb2.get (b := w.heap.size + 1 + 1) (o := 2) (v := .int .u64 0) (by first | with_reducible exact c1_2_2 | (simp [go_sem]; done) | (simp [go_sem, *]; done))
  have f2_2_2 := hb2.free (b := w.heap.size + 1 + 1) (o := 2) (v := .int .u64 0) (by first | with_reducible exact c1_2_2 | (simp [go_sem]; done) | (simp [go_sem, *]; done)) (by first | with_reducible exact f1_2_2 | (simp [go_sem]; done) | (simp [go_sem, *]; done))
  clear hz2
  rw [K.out]
  go_wp2_with fail
  refine (HD.out _).mono ?_
  rintro e w3 ⟨rfl, hb3⟩
  have hz3 := hb3.size
  (try simp at hz3)
  have z3_0 : w.heap.size < w3.heap.size := (by omega)
  have c3_0_0 := hb3.get (b := w.heap.size) (o := 0) (v := .int .i64 (W)) (by first | with_reducible exact c2_0_0 | (simp [go_sem]; done) | (simp [go_sem, *]; done))
  have c3_0_1 := hb3.get (b := w.heap.size) (o := 1) (v := .int .u64 (hi (v))) (by first | with_reducible exact c2_0_1 | (simp [go_sem]; done) | (simp [go_sem, *]; done))
  have c3_0_2 := hb3.get (b := w.heap.size) (o := 2) (v := .int .u64 (lo (v))) (by first | with_reducible exact c2_0_2 | (simp [go_sem]; done) | (simp [go_sem, *]; done))
  have z3_1 : w.heap.size + 1 < w3.heap.size := (by omega)
  have c3_1_0 := hb3.get (b := w.heap.size + 1) (o := 0) (v := .int .i64 (X)) (by first | with_reducible exact c2_1_0 | (simp [go_sem]; done) | (simp [go_sem, *]; done))
  have c3_1_1 := hb3.get (b := w.heap.size + 1) (o := 1) (v := .int .u64 (hi (u))) (by first | with_reducible exact c2_1_1 | (simp [go_sem]; done) | (simp [go_sem, *]; done))
  have c3_1_2 := hb3.get (b := w.heap.size + 1) (o := 2) (v := .int .u64 (lo (u))) (by first | with_reducible exact c2_1_2 | (simp [go_sem]; done) | (simp [go_sem, *]; done))
  have z3_2 : w.heap.size + 1 + 1 < w3.heap.size := (by omega)
  have c3_2_0 := hb3.get (b := w.heap.size + 1 + 1) (o := 0) (v := .int .i64 0) (by first | with_reducible exact c2_2_0 | (simp [go_sem]; done) | (simp [go_sem, *]; done))
  have f3_2_0 := hb3.free (b := w.heap.size + 1 + 1) (o := 0) (v := .int .i64 0) (by first | with_reducible exact c2_2_0 | (simp [go_sem]; done) | (simp [go_sem, *]; done)) (by first | with_reducible exact f2_2_0 | (simp [go_sem]; done) | (simp [go_sem, *]; done))
  have c3_2_1 := hb3.get (b := w.heap.size + 1 + 1) (o := 1) (v := .int .u64 0) (by first | with_reducible exact c2_2_1 | (simp [go_sem]; done) | (simp [go_sem, *]; done))
  have f3_2_1 := hb3.free (b := w.heap.size + 1 + 1) (o := 1) (v := .int .u64 0) (by first | with_reducible exact c2_2_1 | (simp [go_sem]; done) | (simp [go_sem, *]; done)) (by first | with_reducible exact f2_2_1 | (simp [go_sem]; done) | (simp [go_sem, *]; done))
  have c3_2_2 := hb3.get (b := w.heap.size + 1 + 1) (o := 2) (v := .int .u64 0) (by first | with_reducible exact c2_2_2 | (simp [go_sem]; done) | (simp [go_sem, *]; done))
  have f3_2_2 := hb3.free (b := w.heap.size + 1 + 1) (o := 2) (v := .int .u64 0) (by first | with_reducible exact c2_2_2 | (simp [go_sem]; done) | (simp [go_sem, *]; done)) (by first | with_reducible exact f2_2_2 | (simp [go_sem]; done) | (simp [go_sem, *]; done))
  clear hz3
  go_wp2
  exact bodyPost_ret (v := bv W z) (by simp [results, Try.results5, go_sem, *]) rfl ⟨rfl, by repeat (first | with_reducible exact Fr.refl _ | with_reducible apply Fr.drewN | with_reducible apply Fr.drew | with_reducible apply Fr.alloc | (with_reducible refine Fr.set ?_ (by simp; try omega) _) | (with_reducible refine Fr.call ?_ (by assumption)))⟩
set_option maxHeartbeats 4000000 in
theorem bin_17 (W v X u Z z : Int) (h : Norm W v) (k : Norm X u) (hd : ∀ w : World, Calls Try.prog 10 #[bv W v, bv X u] w fun e w' => e = .returned (bv Z z) ∧ Fr w w') (w : World) :
    Calls Try.prog 5 #[.int .i64 17, bv W v, bv X u] w fun e w' => e = .returned (bv Z z) ∧ Fr w w' := by
  have HD := Lib.hid hd; clear hd
  have HN := Lib.hid h; have KN := Lib.hid k
  have H := Lib.hid (norm_to h); have hv := h.lt128; have hv0 := h.2.2.1; have hw1 := h.1; have hw2 := h.2.1; clear h
  have K := Lib.hid (norm_to k); have hu := k.lt128; have hu0 := k.2.2.1; clear k
  go_enter Try.func5, Try.ntmps5
  go_wp2_with fail
  refine (normal_any _ _ hv0 hv _).mono ?_
  rintro e w1 ⟨rfl, hb1⟩
  have hz1 := hb1.size
  (try simp at hz1)
  have z1_0 : w.heap.size < w1.heap.size := (by omega)
  have c1_0_0 := hb1.get (b := w.heap.size) (o := 0) (v := .int .i64 (W)) (by first | (simp [go_sem]; done) | (simp [go_sem, *]; done))
  have c1_0_1 := hb1.get (b := w.heap.size) (o := 1) (v := .int .u64 (hi (v))) (by first | (simp [go_sem]; done) | (simp [go_sem, *]; done))
  have c1_0_2 := hb1.get (b := w.heap.size) (o := 2) (v := .int .u64 (lo (v))) (by first | (simp [go_sem]; done) | (simp [go_sem, *]; done))
  have z1_1 : w.heap.size + 1 < w1.heap.size := (by omega)
  have c1_1_0 := hb1.get (b := w.heap.size + 1) (o := 0) (v := .int .i64 (X)) (by first | (simp [go_sem]; done) | (simp [go_sem, *]; done))
  have c1_1_1 := hb1.get (b := w.heap.size + 1) (o := 1) (v := .int .u64 (hi (u))) (by first | (simp [go_sem]; done) | (simp [go_sem, *]; done))
  have c1_1_2 := hb1.get (b := w.heap.size + 1) (o := 2) (v := .int .u64 (lo (u))) (by first | (simp [go_sem]; done) | (simp [go_sem, *]; done))
  have z1_2 : w.heap.size + 1 + 1 < w1.heap.size := (by omega)
  have c1_2_0 := hb1.get (b := w.heap.size + 1 + 1) (o := 0) (v := .int .i64 0) (by first | (simp [go_sem]; done) | (simp [go_sem, *]; done))
  have f1_2_0 := hb1.free (b := w.heap.size + 1 + 1) (o := 0) (v := .int .i64 0) (by first | (simp [go_sem]; done) | (simp [go_sem, *]; done)) (by first | (simp [go_sem]; done) | (simp [go_sem, *]; done))
  have c1_2_1 := hb1.get (b := w.heap.size + 1 + 1) (o := 1) (v := .int .u64 0) (by first | (simp [go_sem]; done) | (simp [go_sem, *]; done))
  have f1_2_1 := hb1.free (b := w.heap.size + 1 + 1) (o := 1) (v := .int .u64 0) (by first | (simp [go_sem]; done) | (simp [go_sem, *]; done)) (by first | (simp [go_sem]; done) | (simp [go_sem, *]; done))
  have c1_2_2 := hb1.get (b := w.heap.size + 1 + 1) (o := 2) (v := .int .u64 0) (by first | (simp [go_sem]; done) | (simp [go_sem, *]; done))
  have f1_2_2 := hb1.free (b := w.heap.size + 1 + 1) (o := 2) (v := .int .u64 0) (by first | (simp [go_sem]; done) | (simp [go_sem, *]; done)) (by first | (simp [go_sem]; done) | (simp [go_sem, *]; done))
  clear hz1
  rw [H.out]
  go_wp2_with fail
  refine (normal_any _ _ hu0 hu _).mono ?_
  rintro e w2 ⟨rfl, hb2⟩
  have hz2 := hb2.size
  (try simp at hz2)
  have z2_0 : w.heap.size < w2.heap.size := (by omega)
  have c2_0_0 := hb2.get (b := w.heap.size) (o := 0) (v := .int .i64 (W)) (by first | with_reducible exact c1_0_0 | (simp [go_sem]; done) | (simp [go_sem, *]; done))
  have c2_0_1 := hb2.get (b := w.heap.size) (o := 1) (v := .int .u64 (hi (v))) (by first | with_reducible exact c1_0_1 | (simp [go_sem]; done) | (simp [go_sem, *]; done))
  have c2_0_2 := hb2.get (b := w.heap.size) (o := 2) (v := .int .u64 (lo (v))) (by first | with_reducible exact c1_0_2 | (simp [go_sem]; done) | (simp [go_sem, *]; done))
  have z2_1 : w.heap.size + 1 < w2.heap.size := (by omega)
  have c2_1_0 := hb2.get (b := w.heap.size + 1) (o := 0) (v := .int .i64 (X)) (by first | with_reducible exact c1_1_0 | (simp [go_sem]; done) | (simp [go_sem, *]; done))
  have c2_1_1 := hb2.get (b := w.heap.size + 1) (o := 1) (v := .int .u64 (hi (u))) (by first | with_reducible exact c1_1_1 | (simp [go_sem]; done) | (simp [go_sem, *]; done))
  have c2_1_2 := hb2.get (b := w.heap.size + 1) (o := 2) (v := .int .u64 (lo (u))) (by first | with_reducible exact c1_1_2 | (simp [go_sem]; done) | (simp [go_sem, *]; done))
  have z2_2 : w.heap.size + 1 + 1 < w2.heap.size := (by omega)
  have c2_2_0 := hb2.get (b := w.heap.size + 1 + 1) (o := 0) (v := .int .i64 0) (by first | with_reducible exact c1_2_0 | (simp [go_sem]; done) | (simp [go_sem, *]; done))
  have f2_2_0 := hb2.free (b := w.heap.size + 1 + 1) (o := 0) (v := .int .i64 0) (by first | with_reducible exact c1_2_0 | (simp [go_sem]; done) | (simp [go_sem, *]; done)) (by first | with_reducible exact f1_2_0 | (simp [go_sem]; done) | (simp [go_sem, *]; done))
  have c2_2_1 := hb2.get (b := w.heap.size + 1 + 1) (o := 1) (v := .int .u64 0) (by first | with_reducible exact c1_2_1 | (simp [go_sem]; done) | (simp [go_sem, *]; done))
  have f2_2_1 := hb2.free (b := w.heap.size + 1 + 1) (o := 1) (v := .int .u64 0) (by first | with_reducible exact c1_2_1 | (simp [go_sem]; done) | (simp [go_sem, *]; done)) (by first | with_reducible exact f1_2_1 | (simp [go_sem]; done) | (simp [go_sem, *]; done))
  have c2_2_2 := hb2.get (b := w.heap.size + 1 + 1) (o := 2) (v := .int .u64 0) (by first | with_reducible exact c1_2_2 | (simp [go_sem]; done) | (simp [go_sem, *]; done))
  have f2_2_2 := hb2.free (b := w.heap.size + 1 + 1) (o := 2) (v := .int .u64 0) (by first | with_reducible exact c1_2_2 | (simp [go_sem]; done) | (simp [go_sem, *]; done)) (by first | with_reducible exact f1_2_2 | (simp [go_sem]; done) | (simp [go_sem, *]; done))
  clear hz2
  rw [K.out]
  go_wp2_with fail
  refine (HD.out _).mono ?_
  rintro e w3 ⟨rfl, hb3⟩
  have hz3 := hb3.size
  (try simp at hz3)
  have z3_0 : w.heap.size < w3.heap.size := (by omega)
  have c3_0_0 := hb3.get (b := w.heap.size) (o := 0) (v := .int .i64 (W)) (by first | with_reducible exact c2_0_0 | (simp [go_sem]; done) | (simp [go_sem, *]; done))
  have c3_0_1 := hb3.get (b := w.heap.size) (o := 1) (v := .int .u64 (hi (v))) (by first | with_reducible exact c2_0_1 | (simp [go_sem]; done) | (simp [go_sem, *]; done))
  have c3_0_2 := hb3.get (b := w.heap.size) (o := 2) (v := .int .u64 (lo (v))) (by first | with_reducible exact c2_0_2 | (simp [go_sem]; done) | (simp [go_sem, *]; done))
  have z3_1 : w.heap.size + 1 < w3.heap.size := (by omega)
  have c3_1_0 := hb3.get (b := w.heap.size + 1) (o := 0) (v := .int .i64 (X)) (by first | with_reducible exact c2_1_0 | (simp [go_sem]; done) | (simp [go_sem, *]; done))
  have c3_1_1 := hb3.get (b := w.heap.size + 1) (o := 1) (v := .int .u64 (hi (u))) (by first | with_reducible exact c2_1_1 | (simp [go_sem]; done) | (simp [go_sem, *]; done))
  have c3_1_2 := hb3.get (b := w.heap.size + 1) (o := 2) (v := .int .u64 (lo (u))) (by first | with_reducible exact c2_1_2 | (simp [go_sem]; done) | (simp [go_sem, *]; done))
  have z3_2 : w.heap.size + 1 + 1 < w3.heap.size := (by omega)
  have c3_2_0 := hb3.get (b := w.heap.size + 1 + 1) (o := 0) (v := .int .i64 0) (by first | with_reducible exact c2_2_0 | (simp [go_sem]; done) | (simp [go_sem, *]; done))
  have f3_2_0 := hb3.free (b := w.heap.size + 1 + 1) (o := 0) (v := .int .i64 0) (by first | with_reducible exact c2_2_0 | (simp [go_sem]; done) | (simp [go_sem, *]; done)) (by first | with_reducible exact f2_2_0 | (simp [go_sem]; done) | (simp [go_sem, *]; done))
  have c3_2_1 := hb3.get (b := w.heap.size + 1 + 1) (o := 1) (v := .int .u64 0) (by first | with_reducible exact c2_2_1 | (simp [go_sem]; done) | (simp [go_sem, *]; done))
  have f3_2_1 := hb3.free (b := w.heap.size + 1 + 1) (o := 1) (v := .int .u64 0) (by first | with_reducible exact c2_2_1 | (simp [go_sem]; done) | (simp [go_sem, *]; done)) (by first | with_reducible exact f2_2_1 | (simp [go_sem]; done) | (simp [go_sem, *]; done))
  have c3_2_2 := hb3.get (b := w.heap.size + 1 + 1) (o := 2) (v := .int .u64 0) (by first | with_reducible exact c2_2_2 | (simp [go_sem]; done) | (simp [go_sem, *]; done))
  have f3_2_2 := hb3.free (b := w.heap.size + 1 + 1) (o := 2) (v := .int .u64 0) (by first | with_reducible exact c2_2_2 | (simp [go_sem]; done) | (simp [go_sem, *]; done)) (by first | with_reducible exact f2_2_2 | (simp [go_sem]; done) | (simp [go_sem, *]; done))
  clear hz3
  go_wp2
  exact bodyPost_ret (v := bv Z z) (by simp [results, Try.results5, go_sem, *]) rfl ⟨rfl, by repeat (first | with_reducible exact Fr.refl _ | with_reducible apply Fr.drewN | with_reducible apply Fr.drew | with_reducible apply Fr.alloc | (with_reducible refine Fr.set ?_ (by simp; try omega) _) | (with_reducible refine Fr.call ?_ (by assumption)))⟩
set_option maxHeartbeats 4000000 in
theorem bin_wide (op W v X u : Int) (h : Norm W v) (k : Norm X u) (hne : (W == X) = false) (o7 : (op == 7) = false) (o8 : (op == 8) = false) (o9 : (op == 9) = false) (o17 : (op == 17) = false) (w : World) :
    Calls Try.prog 5 #[.int .i64 op, bv W v, bv X u] w fun e w' => e = .returned (bv 0 0) ∧ Fr w w' := by
  have hne2 : (W != X) = true := by rw [bne_iff_ne]; exact beq_eq_false_iff_ne.1 hne
  have HN := Lib.hid h; have KN := Lib.hid k
  have H := Lib.hid (norm_to h); have hv := h.lt128; have hv0 := h.2.2.1; have hw1 := h.1; have hw2 := h.2.1; clear h
  have K := Lib.hid (norm_to k); have hu := k.lt128; have hu0 := k.2.2.1; clear k
  go_enter Try.func5, Try.ntmps5
  go_wp2_with fail
  refine (normal_any _ _ hv0 hv _).mono ?_
  rintro e w1 ⟨rfl, hb1⟩
  have hz1 := hb1.size
  (try simp at hz1)
  have z1_0 : w.heap.size < w1.heap.size := (by omega)
  have c1_0_0 := hb1.get (b := w.heap.size) (o := 0) (v := .int .i64 (W)) (by first | (simp [go_sem]; done) | (simp [go_sem, *]; done))
  have c1_0_1 := hb1.get (b := w.heap.size) (o := 1) (v := .int .u64 (hi (v))) (by first | (simp [go_sem]; done) | (simp [go_sem, *]; done))
  have c1_0_2 := hb1.get (b := w.heap.size) (o := 2) (v := .int .u64 (lo (v))) (by first | (simp [go_sem]; done) | (simp [go_sem, *]; done))
  have z1_1 : w.heap.size + 1 < w1.heap.size := (by omega)
  have c1_1_0 := hb1.get (b := w.heap.size + 1) (o := 0) (v := .int .i64 (X)) (by first | (simp [go_sem]; done) | (simp [go_sem, *]; done))
  have c1_1_1 := hb1.get (b := w.heap.size + 1) (o := 1) (v := .int .u64 (hi (u))) (by first | (simp [go_sem]; done) | (simp [go_sem, *]; done))
  have c1_1_2 := hb1.get (b := w.heap.size + 1) (o := 2) (v := .int .u64 (lo (u))) (by first | (simp [go_sem]; done) | (simp [go_sem, *]; done))
  have z1_2 : w.heap.size + 1 + 1 < w1.heap.size := (by omega)
  have c1_2_0 := hb1.get (b := w.heap.size + 1 + 1) (o := 0) (v := .int .i64 0) (by first | (simp [go_sem]; done) | (simp [go_sem, *]; done))
  have f1_2_0 := hb1.free (b := w.heap.size + 1 + 1) (o := 0) (v := .int .i64 0) (by first | (simp [go_sem]; done) | (simp [go_sem, *]; done)) (by first | (simp [go_sem]; done) | (simp [go_sem, *]; done))
  have c1_2_1 := hb1.get (b := w.heap.size + 1 + 1) (o := 1) (v := .int .u64 0) (by first | (simp [go_sem]; done) | (simp [go_sem, *]; done))
  have f1_2_1 := hb1.free (b := w.heap.size + 1 + 1) (o := 1) (v := .int .u64 0) (by first | (simp [go_sem]; done) | (simp [go_sem, *]; done)) (by first | (simp [go_sem]; done) | (simp [go_sem, *]; done))
  have c1_2_2 := hb1.get (b := w.heap.size + 1 + 1) (o := 2) (v := .int .u64 0) (by first | (simp [go_sem]; done) | (simp [go_sem, *]; done))
  have f1_2_2 := hb1.free (b := w.heap.size + 1 + 1) (o := 2) (v := .int .u64 0) (by first | (simp [go_sem]; done) | (simp [go_sem, *]; done)) (by first | (simp [go_sem]; done) | (simp [go_sem, *]; done))
  clear hz1
  rw [H.out]
  go_wp2_with fail
  refine (normal_any _ _ hu0 hu _).mono ?_
  rintro e w2 ⟨rfl, hb2⟩
  have hz2 := hb2.size
  (try simp at hz2)
  have z2_0 : w.heap.size < w2.heap.size := (by omega)
  have c2_0_0 := hb2.get (b := w.heap.size) (o := 0) (v := .int .i64 (W)) (by first | with_reducible exact c1_0_0 | (simp [go_sem]; done) | (simp [go_sem, *]; done))
  have c2_0_1 := hb2.get (b := w.heap.size) (o := 1) (v := .int .u64 (hi (v))) (by first | with_reducible exact c1_0_1 | (simp [go_sem]; done) | (simp [go_sem, *]; done))
  have c2_0_2 := hb2.get (b := w.heap.size) (o := 2) (v := .int .u64 (lo (v))) (by first | with_reducible exact c1_0_2 | (simp [go_sem]; done) | (simp [go_sem, *]; done))
  have z2_1 : w.heap.size + 1 < w2.heap.size := (by omega)
  have c2_1_0 := hb2.get (b := w.heap.size + 1) (o := 0) (v := .int .i64 (X)) (by first | with_reducible exact c1_1_0 | (simp [go_sem]; done) | (simp [go_sem, *]; done))
  have c2_1_1 := hb2.get (b := w.heap.size + 1) (o := 1) (v := .int .u64 (hi (u))) (by first | with_reducible exact c1_1_1 | (simp [go_sem]; done) | (simp [go_sem, *]; done))
  have c2_1_2 := hb2.get (b := w.heap.size + 1) (o := 2) (v := .int .u64 (lo (u))) (by first | with_reducible exact c1_1_2 | (simp [go_sem]; done) | (simp [go_sem, *]; done))
  have z2_2 : w.heap.size + 1 + 1 < w2.heap.size := (by omega)
  have c2_2_0 := hb2.get (b := w.heap.size + 1 + 1) (o := 0) (v := .int .i64 0) (by first | with_reducible exact c1_2_0 | (simp [go_sem]; done) | (simp [go_sem, *]; done))
  have f2_2_0 := hb2.free (b := w.heap.size + 1 + 1) (o := 0) (v := .int .i64 0) (by first | with_reducible exact c1_2_0 | (simp [go_sem]; done) | (simp [go_sem, *]; done)) (by first | with_reducible exact f1_2_0 | (simp [go_sem]; done) | (simp [go_sem, *]; done))
  have c2_2_1 := hb2.get (b := w.heap.size + 1 + 1) (o := 1) (v := .int .u64 0) (by first | with_reducible exact c1_2_1 | (simp [go_sem]; done) | (simp [go_sem, *]; done))
  have f2_2_1 := hb2.free (b := w.heap.size + 1 + 1) (o := 1) (v := .int .u64 0) (by first | with_reducible exact c1_2_1 | (simp [go_sem]; done) | (simp [go_sem, *]; done)) (by first | with_reducible exact f1_2_1 | (simp [go_sem]; done) | (simp [go_sem, *]; done))
  have c2_2_2 := hb2.get (b := w.heap.size + 1 + 1) (o := 2) (v := .int .u64 0) (by first | with_reducible exact c1_2_2 | (simp [go_sem]; done) | (simp [go_sem, *]; done))
  have f2_2_2 := hb2.free (b := w.heap.size + 1 + 1) (o := 2) (v := .int .u64 0) (by first | with_reducible exact c1_2_2 | (simp [go_sem]; done) | (simp [go_sem, *]; done)) (by first | with_reducible exact f1_2_2 | (simp [go_sem]; done) | (simp [go_sem, *]; done))
  clear hz2
  rw [K.out]
  go_wp2
  exact bodyPost_ret (v := bv 0 0) (by simp [results, Try.results5, go_sem, hi_zero, lo_zero, *]) rfl ⟨rfl, by repeat (first | with_reducible exact Fr.refl _ | with_reducible apply Fr.drewN | with_reducible apply Fr.drew | with_reducible apply Fr.alloc | (with_reducible refine Fr.set ?_ (by simp; try omega) _) | (with_reducible refine Fr.call ?_ (by assumption)))⟩
set_option maxHeartbeats 4000000 in
theorem bin_other (op W v u : Int) (h : Norm W v) (k : Norm W u) (o7 : (op == 7) = false) (o8 : (op == 8) = false) (o9 : (op == 9) = false) (o17 : (op == 17) = false) (o1 : (op == 1) = false) (o2 : (op == 2) = false) (o3 : (op == 3) = false) (o4 : (op == 4) = false) (o5 : (op == 5) = false) (o6 : (op == 6) = false) (o10 : (op == 10) = false) (o11 : (op == 11) = false) (o12 : (op == 12) = false) (o13 : (op == 13) = false) (o14 : (op == 14) = false) (o15 : (op == 15) = false) (o16 : (op == 16) = false) (w : World) :
    Calls Try.prog 5 #[.int .i64 op, bv W v, bv W u] w fun e w' => e = .returned (bv 0 0) ∧ Fr w w' := by
  have HN := Lib.hid h; have KN := Lib.hid k
  have H := Lib.hid (norm_to h); have hv := h.lt128; have hv0 := h.2.2.1; have hw1 := h.1; have hw2 := h.2.1; clear h
  have K := Lib.hid (norm_to k); have hu := k.lt128; have hu0 := k.2.2.1; clear k
  go_enter Try.func5, Try.ntmps5
  go_wp2_with fail
  refine (normal_any _ _ hv0 hv _).mono ?_
  rintro e w1 ⟨rfl, hb1⟩
  have hz1 := hb1.size
  (try simp at hz1)
  have z1_0 : w.heap.size < w1.heap.size := (by omega)
  have c1_0_0 := hb1.get (b := w.heap.size) (o := 0) (v := .int .i64 (W)) (by first | (simp [go_sem]; done) | (simp [go_sem, *]; done))
  have c1_0_1 := hb1.get (b := w.heap.size) (o := 1) (v := .int .u64 (hi (v))) (by first | (simp [go_sem]; done) | (simp [go_sem, *]; done))
  have c1_0_2 := hb1.get (b := w.heap.size) (o := 2) (v := .int .u64 (lo (v))) (by first | (simp [go_sem]; done) | (simp [go_sem, *]; done))
  have z1_1 : w.heap.size + 1 < w1.heap.size := (by omega)
  have c1_1_0 := hb1.get (b := w.heap.size + 1) (o := 0) (v := .int .i64 (W)) (by first | (simp [go_sem]; done) | (simp [go_sem, *]; done))
  have c1_1_1 := hb1.get (b := w.heap.size + 1) (o := 1) (v := .int .u64 (hi (u))) (by first | (simp [go_sem]; done) | (simp [go_sem, *]; done))
  have c1_1_2 := hb1.get (b := w.heap.size + 1) (o := 2) (v := .int .u64 (lo (u))) (by first | (simp [go_sem]; done) | (simp [go_sem, *]; done))
  have z1_2 : w.heap.size + 1 + 1 < w1.heap.size := (by omega)
  have c1_2_0 := hb1.get (b := w.heap.size + 1 + 1) (o := 0) (v := .int .i64 0) (by first | (simp [go_sem]; done) | (simp [go_sem, *]; done))
  have f1_2_0 := hb1.free (b := w.heap.size + 1 + 1) (o := 0) (v := .int .i64 0) (by first | (simp [go_sem]; done) | (simp [go_sem, *]; done)) (by first | (simp [go_sem]; done) | (simp [go_sem, *]; done))
  have c1_2_1 := hb1.get (b := w.heap.size + 1 + 1) (o := 1) (v := .int .u64 0) (by first | (simp [go_sem]; done) | (simp [go_sem, *]; done))
  have f1_2_1 := hb1.free (b := w.heap.size + 1 + 1) (o := 1) (v := .int .u64 0) (by first | (simp [go_sem]; done) | (simp [go_sem, *]; done)) (by first | (simp [go_sem]; done) | (simp [go_sem, *]; done))
  have c1_2_2 := hb1.get (b := w.heap.size + 1 + 1) (o := 2) (v := .int .u64 0) (by first | (simp [go_sem]; done) | (simp [go_sem, *]; done))
  have f1_2_2 := hb1.free (b := w.heap.size + 1 + 1) (o := 2) (v := .int .u64 0) (by first | (simp [go_sem]; done) | (simp [go_sem, *]; done)) (by first | (simp [go_sem]; done) | (simp [go_sem, *]; done))
  clear hz1
  rw [H.out]
  go_wp2_with fail
  refine (normal_any _ _ hu0 hu _).mono ?_
  rintro e w2 ⟨rfl, hb2⟩
  have hz2 := hb2.size
  (try simp at hz2)
  have z2_0 : w.heap.size < w2.heap.size := (by omega)
  have c2_0_0 := hb2.get (b := w.heap.size) (o := 0) (v := .int .i64 (W)) (by first | with_reducible exact c1_0_0 | (simp [go_sem]; done) | (simp [go_sem, *]; done))
  have c2_0_1 := hb2.get (b := w.heap.size) (o := 1) (v := .int .u64 (hi (v))) (by first | with_reducible exact c1_0_1 | (simp [go_sem]; done) | (simp [go_sem, *]; done))
  have c2_0_2 := hb2.get (b := w.heap.size) (o := 2) (v := .int .u64 (lo (v))) (by first | with_reducible exact c1_0_2 | (simp [go_sem]; done) | (simp [go_sem, *]; done))
  have z2_1 : w.heap.size + 1 < w2.heap.size := (by omega)
  have c2_1_0 := hb2.get (b := w.heap.size + 1) (o := 0) (v := .int .i64 (W)) (by first | with_reducible exact c1_1_0 | (simp [go_sem]; done) | (simp [go_sem, *]; done))
  have c2_1_1 := hb2.get (b := w.heap.size + 1) (o := 1) (v := .int .u64 (hi (u))) (by first | with_reducible exact c1_1_1 | (simp [go_sem]; done) | (simp [go_sem, *]; done))
  have c2_1_2 := hb2.get (b := w.heap.size + 1) (o := 2) (v := .int .u64 (lo (u))) (by first | with_reducible exact c1_1_2 | (simp [go_sem]; done) | (simp [go_sem, *]; done))
  have z2_2 : w.heap.size + 1 + 1 < w2.heap.size := (by omega)
  have c2_2_0 := hb2.get (b := w.heap.size + 1 + 1) (o := 0) (v := .int .i64 0) (by first | with_reducible exact c1_2_0 | (simp [go_sem]; done) | (simp [go_sem, *]; done))
  have f2_2_0 := hb2.free (b := w.heap.size + 1 + 1) (o := 0) (v := .int .i64 0) (by first | with_reducible exact c1_2_0 | (simp [go_sem]; done) | (simp [go_sem, *]; done)) (by first | with_reducible exact f1_2_0 | (simp [go_sem]; done) | (simp [go_sem, *]; done))
  have c2_2_1 := hb2.get (b := w.heap.size + 1 + 1) (o := 1) (v := .int .u64 0) (by first | with_reducible exact c1_2_1 | (simp [go_sem]; done) | (simp [go_sem, *]; done))
  have f2_2_1 := hb2.free (b := w.heap.size + 1 + 1) (o := 1) (v := .int .u64 0) (by first | with_reducible exact c1_2_1 | (simp [go_sem]; done) | (simp [go_sem, *]; done)) (by first | with_reducible exact f1_2_1 | (simp [go_sem]; done) | (simp [go_sem, *]; done))
  have c2_2_2 := hb2.get (b := w.heap.size + 1 + 1) (o := 2) (v := .int .u64 0) (by first | with_reducible exact c1_2_2 | (simp [go_sem]; done) | (simp [go_sem, *]; done))
  have f2_2_2 := hb2.free (b := w.heap.size + 1 + 1) (o := 2) (v := .int .u64 0) (by first | with_reducible exact c1_2_2 | (simp [go_sem]; done) | (simp [go_sem, *]; done)) (by first | with_reducible exact f1_2_2 | (simp [go_sem]; done) | (simp [go_sem, *]; done))
  clear hz2
  rw [K.out]
  go_wp2
  exact bodyPost_ret (v := bv 0 0) (by simp [results, Try.results5, go_sem, hi_zero, lo_zero, *]) rfl ⟨rfl, by repeat (first | with_reducible exact Fr.refl _ | with_reducible apply Fr.drewN | with_reducible apply Fr.drew | with_reducible apply Fr.alloc | (with_reducible refine Fr.set ?_ (by simp; try omega) _) | (with_reducible refine Fr.call ?_ (by assumption)))⟩
end Go.Proofs.Ytglgbhlnfafhjaa
