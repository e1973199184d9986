/- BvecRing's walk where the bits are not normal or not of one width. -/
import Derived.Test.YtpibkhkhbjeoiaaRingm
namespace Go.Proofs.Ytpibkhkhbjeoiaa
open Go.RowKit

set_option maxHeartbeats 4000000 in
theorem ring_bad1 (HA : AliveC) (W v X u Y x : Int) (v0 : 0 ≤ v) (v1 : v < 340282366920938463463374607431768211456) (_u0 : 0 ≤ u) (_u1 : u < 340282366920938463463374607431768211456) (_x0 : 0 ≤ x) (_x1 : x < 340282366920938463463374607431768211456) (h : normB W v = false) (w : World) :
    Calls Try.prog 11 #[bv W v, bv X u, bv Y x] w fun e w' => e = .returned (.bool true) ∧ Fr w w' := by
  have HA : Hid AliveC := Lib.hid HA
  have H := Lib.hid h; clear h
  go_enter Try.func11, Try.ntmps11
  go_wp2_with fail
  refine (HA.out _).mono ?_
  rintro e w1 ⟨rfl, hb1⟩
  have hz1 := hb1.size
  (try simp at hz1)
  have z1_0 : w.heap.size < w1.heap.size := (by omega)
  have c1_0_0 := hb1.get (b := w.heap.size) (o := 0) (v := .int .i64 (W)) (by first | (simp [go_sem]; done) | (simp [go_sem, *]; done))
  have c1_0_1 := hb1.get (b := w.heap.size) (o := 1) (v := .int .u64 (hi (v))) (by first | (simp [go_sem]; done) | (simp [go_sem, *]; done))
  have c1_0_2 := hb1.get (b := w.heap.size) (o := 2) (v := .int .u64 (lo (v))) (by first | (simp [go_sem]; done) | (simp [go_sem, *]; done))
  have z1_1 : w.heap.size + 1 < w1.heap.size := (by omega)
  have c1_1_0 := hb1.get (b := w.heap.size + 1) (o := 0) (v := .int .i64 (X)) (by first | (simp [go_sem]; done) | (simp [go_sem, *]; done))
  have c1_1_1 := hb1.get (b := w.heap.size + 1) (o := 1) (v := .int .u64 (hi (u))) (by first | (simp [go_sem]; done) | (simp [go_sem, *]; done))
  have c1_1_2 := hb1.get (b := w.heap.size + 1) (o := 2) (v := .int .u64 (lo (u))) (by first | (simp [go_sem]; done) | (simp [go_sem, *]; done))
  have z1_2 : w.heap.size + 1 + 1 < w1.heap.size := (by omega)
  have c1_2_0 := hb1.get (b := w.heap.size + 1 + 1) (o := 0) (v := .int .i64 (Y)) (by first | (simp [go_sem]; done) | (simp [go_sem, *]; done))
  have c1_2_1 := hb1.get (b := w.heap.size + 1 + 1) (o := 1) (v := .int .u64 (hi (x))) (by first | (simp [go_sem]; done) | (simp [go_sem, *]; done))
  have c1_2_2 := hb1.get (b := w.heap.size + 1 + 1) (o := 2) (v := .int .u64 (lo (x))) (by first | (simp [go_sem]; done) | (simp [go_sem, *]; done))
  clear hz1
  go_wp2_with fail
  refine (normal_any _ _ v0 v1 _).mono ?_
  rintro e w2 ⟨rfl, hb2⟩
  have hz2 := hb2.size
  (try simp at hz2)
  have z2_0 : w.heap.size < w2.heap.size := (by omega)
  have c2_0_0 := hb2.get (b := w.heap.size) (o := 0) (v := .int .i64 (W)) (by first | with_reducible exact c1_0_0 | (simp [go_sem]; done) | (simp [go_sem, *]; done))
  have c2_0_1 := hb2.get (b := w.heap.size) (o := 1) (v := .int .u64 (hi (v))) (by first | with_reducible exact c1_0_1 | (simp [go_sem]; done) | (simp [go_sem, *]; done))
  have c2_0_2 := hb2.get (b := w.heap.size) (o := 2) (v := .int .u64 (lo (v))) (by first | with_reducible exact c1_0_2 | (simp [go_sem]; done) | (simp [go_sem, *]; done))
  have z2_1 : w.heap.size + 1 < w2.heap.size := (by omega)
  have c2_1_0 := hb2.get (b := w.heap.size + 1) (o := 0) (v := .int .i64 (X)) (by first | with_reducible exact c1_1_0 | (simp [go_sem]; done) | (simp [go_sem, *]; done))
  have c2_1_1 := hb2.get (b := w.heap.size + 1) (o := 1) (v := .int .u64 (hi (u))) (by first | with_reducible exact c1_1_1 | (simp [go_sem]; done) | (simp [go_sem, *]; done))
  have c2_1_2 := hb2.get (b := w.heap.size + 1) (o := 2) (v := .int .u64 (lo (u))) (by first | with_reducible exact c1_1_2 | (simp [go_sem]; done) | (simp [go_sem, *]; done))
  have z2_2 : w.heap.size + 1 + 1 < w2.heap.size := (by omega)
  have c2_2_0 := hb2.get (b := w.heap.size + 1 + 1) (o := 0) (v := .int .i64 (Y)) (by first | with_reducible exact c1_2_0 | (simp [go_sem]; done) | (simp [go_sem, *]; done))
  have c2_2_1 := hb2.get (b := w.heap.size + 1 + 1) (o := 1) (v := .int .u64 (hi (x))) (by first | with_reducible exact c1_2_1 | (simp [go_sem]; done) | (simp [go_sem, *]; done))
  have c2_2_2 := hb2.get (b := w.heap.size + 1 + 1) (o := 2) (v := .int .u64 (lo (x))) (by first | with_reducible exact c1_2_2 | (simp [go_sem]; done) | (simp [go_sem, *]; done))
  clear hz2
  rw [H.out]
  go_wp2
  go_ret
  exact ⟨rfl, by repeat (first | with_reducible exact Fr.refl _ | with_reducible apply Fr.drewN | with_reducible apply Fr.drew | with_reducible apply Fr.alloc | (with_reducible refine Fr.set ?_ (by simp; try omega) _) | (with_reducible refine Fr.call ?_ (by assumption)))⟩
set_option maxHeartbeats 4000000 in
theorem ring_bad2 (HA : AliveC) (W v X u Y x : Int) (v0 : 0 ≤ v) (v1 : v < 340282366920938463463374607431768211456) (u0 : 0 ≤ u) (u1 : u < 340282366920938463463374607431768211456) (_x0 : 0 ≤ x) (_x1 : x < 340282366920938463463374607431768211456) (h : normB W v = true) (k : normB X u = false) (w : World) :
    Calls Try.prog 11 #[bv W v, bv X u, bv Y x] w fun e w' => e = .returned (.bool true) ∧ Fr w w' := by
  have HA : Hid AliveC := Lib.hid HA
  have H := Lib.hid h; have K := Lib.hid k; clear h k
  go_enter Try.func11, Try.ntmps11
  go_wp2_with fail
  refine (HA.out _).mono ?_
  rintro e w1 ⟨rfl, hb1⟩
  have hz1 := hb1.size
  (try simp at hz1)
  have z1_0 : w.heap.size < w1.heap.size := (by omega)
  have c1_0_0 := hb1.get (b := w.heap.size) (o := 0) (v := .int .i64 (W)) (by first | (simp [go_sem]; done) | (simp [go_sem, *]; done))
  have c1_0_1 := hb1.get (b := w.heap.size) (o := 1) (v := .int .u64 (hi (v))) (by first | (simp [go_sem]; done) | (simp [go_sem, *]; done))
  have c1_0_2 := hb1.get (b := w.heap.size) (o := 2) (v := .int .u64 (lo (v))) (by first | (simp [go_sem]; done) | (simp [go_sem, *]; done))
  have z1_1 : w.heap.size + 1 < w1.heap.size := (by omega)
  have c1_1_0 := hb1.get (b := w.heap.size + 1) (o := 0) (v := .int .i64 (X)) (by first | (simp [go_sem]; done) | (simp [go_sem, *]; done))
  have c1_1_1 := hb1.get (b := w.heap.size + 1) (o := 1) (v := .int .u64 (hi (u))) (by first | (simp [go_sem]; done) | (simp [go_sem, *]; done))
  have c1_1_2 := hb1.get (b := w.heap.size + 1) (o := 2) (v := .int .u64 (lo (u))) (by first | (simp [go_sem]; done) | (simp [go_sem, *]; done))
  have z1_2 : w.heap.size + 1 + 1 < w1.heap.size := (by omega)
  have c1_2_0 := hb1.get (b := w.heap.size + 1 + 1) (o := 0) (v := .int .i64 (Y)) (by first | (simp [go_sem]; done) | (simp [go_sem, *]; done))
  have c1_2_1 := hb1.get (b := w.heap.size + 1 + 1) (o := 1) (v := .int .u64 (hi (x))) (by first | (simp [go_sem]; done) | (simp [go_sem, *]; done))
  have c1_2_2 := hb1.get (b := w.heap.size + 1 + 1) (o := 2) (v := .int .u64 (lo (x))) (by first | (simp [go_sem]; done) | (simp [go_sem, *]; done))
  clear hz1
  go_wp2_with fail
  refine (normal_any _ _ v0 v1 _).mono ?_
  rintro e w2 ⟨rfl, hb2⟩
  have hz2 := hb2.size
  (try simp at hz2)
  have z2_0 : w.heap.size < w2.heap.size := (by omega)
  have c2_0_0 := hb2.get (b := w.heap.size) (o := 0) (v := .int .i64 (W)) (by first | with_reducible exact c1_0_0 | (simp [go_sem]; done) | (simp [go_sem, *]; done))
  have c2_0_1 := hb2.get (b := w.heap.size) (o := 1) (v := .int .u64 (hi (v))) (by first | with_reducible exact c1_0_1 | (simp [go_sem]; done) | (simp [go_sem, *]; done))
  have c2_0_2 := hb2.get (b := w.heap.size) (o := 2) (v := .int .u64 (lo (v))) (by first | with_reducible exact c1_0_2 | (simp [go_sem]; done) | (simp [go_sem, *]; done))
  have z2_1 : w.heap.size + 1 < w2.heap.size := (by omega)
  have c2_1_0 := hb2.get (b := w.heap.size + 1) (o := 0) (v := .int .i64 (X)) (by first | with_reducible exact c1_1_0 | (simp [go_sem]; done) | (simp [go_sem, *]; done))
  have c2_1_1 := hb2.get (b := w.heap.size + 1) (o := 1) (v := .int .u64 (hi (u))) (by first | with_reducible exact c1_1_1 | (simp [go_sem]; done) | (simp [go_sem, *]; done))
  have c2_1_2 := hb2.get (b := w.heap.size + 1) (o := 2) (v := .int .u64 (lo (u))) (by first | with_reducible exact c1_1_2 | (simp [go_sem]; done) | (simp [go_sem, *]; done))
  have z2_2 : w.heap.size + 1 + 1 < w2.heap.size := (by omega)
  have c2_2_0 := hb2.get (b := w.heap.size + 1 + 1) (o := 0) (v := .int .i64 (Y)) (by first | with_reducible exact c1_2_0 | (simp [go_sem]; done) | (simp [go_sem, *]; done))
  have c2_2_1 := hb2.get (b := w.heap.size + 1 + 1) (o := 1) (v := .int .u64 (hi (x))) (by first | with_reducible exact c1_2_1 | (simp [go_sem]; done) | (simp [go_sem, *]; done))
  have c2_2_2 := hb2.get (b := w.heap.size + 1 + 1) (o := 2) (v := .int .u64 (lo (x))) (by first | with_reducible exact c1_2_2 | (simp [go_sem]; done) | (simp [go_sem, *]; done))
  clear hz2
  rw [H.out]
  go_wp2_with fail
  refine (normal_any _ _ u0 u1 _).mono ?_
  rintro e w3 ⟨rfl, hb3⟩
  have hz3 := hb3.size
  (try simp at hz3)
  have z3_0 : w.heap.size < w3.heap.size := (by omega)
  have c3_0_0 := hb3.get (b := w.heap.size) (o := 0) (v := .int .i64 (W)) (by first | with_reducible exact c2_0_0 | (simp [go_sem]; done) | (simp [go_sem, *]; done))
  have c3_0_1 := hb3.get (b := w.heap.size) (o := 1) (v := .int .u64 (hi (v))) (by first | with_reducible exact c2_0_1 | (simp [go_sem]; done) | (simp [go_sem, *]; done))
  have c3_0_2 := hb3.get (b := w.heap.size) (o := 2) (v := .int .u64 (lo (v))) (by first | with_reducible exact c2_0_2 | (simp [go_sem]; done) | (simp [go_sem, *]; done))
  have z3_1 : w.heap.size + 1 < w3.heap.size := (by omega)
  have c3_1_0 := hb3.get (b := w.heap.size + 1) (o := 0) (v := .int .i64 (X)) (by first | with_reducible exact c2_1_0 | (simp [go_sem]; done) | (simp [go_sem, *]; done))
  have c3_1_1 := hb3.get (b := w.heap.size + 1) (o := 1) (v := .int .u64 (hi (u))) (by first | with_reducible exact c2_1_1 | (simp [go_sem]; done) | (simp [go_sem, *]; done))
  have c3_1_2 := hb3.get (b := w.heap.size + 1) (o := 2) (v := .int .u64 (lo (u))) (by first | with_reducible exact c2_1_2 | (simp [go_sem]; done) | (simp [go_sem, *]; done))
  have z3_2 : w.heap.size + 1 + 1 < w3.heap.size := (by omega)
  have c3_2_0 := hb3.get (b := w.heap.size + 1 + 1) (o := 0) (v := .int .i64 (Y)) (by first | with_reducible exact c2_2_0 | (simp [go_sem]; done) | (simp [go_sem, *]; done))
  have c3_2_1 := hb3.get (b := w.heap.size + 1 + 1) (o := 1) (v := .int .u64 (hi (x))) (by first | with_reducible exact c2_2_1 | (simp [go_sem]; done) | (simp [go_sem, *]; done))
  have c3_2_2 := hb3.get (b := w.heap.size + 1 + 1) (o := 2) (v := .int .u64 (lo (x))) (by first | with_reducible exact c2_2_2 | (simp [go_sem]; done) | (simp [go_sem, *]; done))
  clear hz3
  rw [K.out]
  go_wp2
  go_ret
  exact ⟨rfl, by repeat (first | with_reducible exact Fr.refl _ | with_reducible apply Fr.drewN | with_reducible apply Fr.drew | with_reducible apply Fr.alloc | (with_reducible refine Fr.set ?_ (by simp; try omega) _) | (with_reducible refine Fr.call ?_ (by assumption)))⟩
set_option maxHeartbeats 4000000 in
theorem ring_bad3 (HA : AliveC) (W v X u Y x : Int) (v0 : 0 ≤ v) (v1 : v < 340282366920938463463374607431768211456) (u0 : 0 ≤ u) (u1 : u < 340282366920938463463374607431768211456) (x0 : 0 ≤ x) (x1 : x < 340282366920938463463374607431768211456) (h : normB W v = true) (k : normB X u = true) (j : normB Y x = false) (w : World) :
    Calls Try.prog 11 #[bv W v, bv X u, bv Y x] w fun e w' => e = .returned (.bool true) ∧ Fr w w' := by
  have HA : Hid AliveC := Lib.hid HA
  have H := Lib.hid h; have K := Lib.hid k; have J := Lib.hid j; clear h k j
  go_enter Try.func11, Try.ntmps11
  go_wp2_with fail
  refine (HA.out _).mono ?_
  rintro e w1 ⟨rfl, hb1⟩
  have hz1 := hb1.size
  (try simp at hz1)
  have z1_0 : w.heap.size < w1.heap.size := (by omega)
  have c1_0_0 := hb1.get (b := w.heap.size) (o := 0) (v := .int .i64 (W)) (by first | (simp [go_sem]; done) | (simp [go_sem, *]; done))
  have c1_0_1 := hb1.get (b := w.heap.size) (o := 1) (v := .int .u64 (hi (v))) (by first | (simp [go_sem]; done) | (simp [go_sem, *]; done))
  have c1_0_2 := hb1.get (b := w.heap.size) (o := 2) (v := .int .u64 (lo (v))) (by first | (simp [go_sem]; done) | (simp [go_sem, *]; done))
  have z1_1 : w.heap.size + 1 < w1.heap.size := (by omega)
  have c1_1_0 := hb1.get (b := w.heap.size + 1) (o := 0) (v := .int .i64 (X)) (by first | (simp [go_sem]; done) | (simp [go_sem, *]; done))
  have c1_1_1 := hb1.get (b := w.heap.size + 1) (o := 1) (v := .int .u64 (hi (u))) (by first | (simp [go_sem]; done) | (simp [go_sem, *]; done))
  have c1_1_2 := hb1.get (b := w.heap.size + 1) (o := 2) (v := .int .u64 (lo (u))) (by first | (simp [go_sem]; done) | (simp [go_sem, *]; done))
  have z1_2 : w.heap.size + 1 + 1 < w1.heap.size := (by omega)
  have c1_2_0 := hb1.get (b := w.heap.size + 1 + 1) (o := 0) (v := .int .i64 (Y)) (by first | (simp [go_sem]; done) | (simp [go_sem, *]; done))
  have c1_2_1 := hb1.get (b := w.heap.size + 1 + 1) (o := 1) (v := .int .u64 (hi (x))) (by first | (simp [go_sem]; done) | (simp [go_sem, *]; done))
  have c1_2_2 := hb1.get (b := w.heap.size + 1 + 1) (o := 2) (v := .int .u64 (lo (x))) (by first | (simp [go_sem]; done) | (simp [go_sem, *]; done))
  clear hz1
  go_wp2_with fail
  refine (normal_any _ _ v0 v1 _).mono ?_
  rintro e w2 ⟨rfl, hb2⟩
  have hz2 := hb2.size
  (try simp at hz2)
  have z2_0 : w.heap.size < w2.heap.size := (by omega)
  have c2_0_0 := hb2.get (b := w.heap.size) (o := 0) (v := .int .i64 (W)) (by first | with_reducible exact c1_0_0 | (simp [go_sem]; done) | (simp [go_sem, *]; done))
  have c2_0_1 := hb2.get (b := w.heap.size) (o := 1) (v := .int .u64 (hi (v))) (by first | with_reducible exact c1_0_1 | (simp [go_sem]; done) | (simp [go_sem, *]; done))
  have c2_0_2 := hb2.get (b := w.heap.size) (o := 2) (v := .int .u64 (lo (v))) (by first | with_reducible exact c1_0_2 | (simp [go_sem]; done) | (simp [go_sem, *]; done))
  have z2_1 : w.heap.size + 1 < w2.heap.size := (by omega)
  have c2_1_0 := hb2.get (b := w.heap.size + 1) (o := 0) (v := .int .i64 (X)) (by first | with_reducible exact c1_1_0 | (simp [go_sem]; done) | (simp [go_sem, *]; done))
  have c2_1_1 := hb2.get (b := w.heap.size + 1) (o := 1) (v := .int .u64 (hi (u))) (by first | with_reducible exact c1_1_1 | (simp [go_sem]; done) | (simp [go_sem, *]; done))
  have c2_1_2 := hb2.get (b := w.heap.size + 1) (o := 2) (v := .int .u64 (lo (u))) (by first | with_reducible exact c1_1_2 | (simp [go_sem]; done) | (simp [go_sem, *]; done))
  have z2_2 : w.heap.size + 1 + 1 < w2.heap.size := (by omega)
  have c2_2_0 := hb2.get (b := w.heap.size + 1 + 1) (o := 0) (v := .int .i64 (Y)) (by first | with_reducible exact c1_2_0 | (simp [go_sem]; done) | (simp [go_sem, *]; done))
  have c2_2_1 := hb2.get (b := w.heap.size + 1 + 1) (o := 1) (v := .int .u64 (hi (x))) (by first | with_reducible exact c1_2_1 | (simp [go_sem]; done) | (simp [go_sem, *]; done))
  have c2_2_2 := hb2.get (b := w.heap.size + 1 + 1) (o := 2) (v := .int .u64 (lo (x))) (by first | with_reducible exact c1_2_2 | (simp [go_sem]; done) | (simp [go_sem, *]; done))
  clear hz2
  rw [H.out]
  go_wp2_with fail
  refine (normal_any _ _ u0 u1 _).mono ?_
  rintro e w3 ⟨rfl, hb3⟩
  have hz3 := hb3.size
  (try simp at hz3)
  have z3_0 : w.heap.size < w3.heap.size := (by omega)
  have c3_0_0 := hb3.get (b := w.heap.size) (o := 0) (v := .int .i64 (W)) (by first | with_reducible exact c2_0_0 | (simp [go_sem]; done) | (simp [go_sem, *]; done))
  have c3_0_1 := hb3.get (b := w.heap.size) (o := 1) (v := .int .u64 (hi (v))) (by first | with_reducible exact c2_0_1 | (simp [go_sem]; done) | (simp [go_sem, *]; done))
  have c3_0_2 := hb3.get (b := w.heap.size) (o := 2) (v := .int .u64 (lo (v))) (by first | with_reducible exact c2_0_2 | (simp [go_sem]; done) | (simp [go_sem, *]; done))
  have z3_1 : w.heap.size + 1 < w3.heap.size := (by omega)
  have c3_1_0 := hb3.get (b := w.heap.size + 1) (o := 0) (v := .int .i64 (X)) (by first | with_reducible exact c2_1_0 | (simp [go_sem]; done) | (simp [go_sem, *]; done))
  have c3_1_1 := hb3.get (b := w.heap.size + 1) (o := 1) (v := .int .u64 (hi (u))) (by first | with_reducible exact c2_1_1 | (simp [go_sem]; done) | (simp [go_sem, *]; done))
  have c3_1_2 := hb3.get (b := w.heap.size + 1) (o := 2) (v := .int .u64 (lo (u))) (by first | with_reducible exact c2_1_2 | (simp [go_sem]; done) | (simp [go_sem, *]; done))
  have z3_2 : w.heap.size + 1 + 1 < w3.heap.size := (by omega)
  have c3_2_0 := hb3.get (b := w.heap.size + 1 + 1) (o := 0) (v := .int .i64 (Y)) (by first | with_reducible exact c2_2_0 | (simp [go_sem]; done) | (simp [go_sem, *]; done))
  have c3_2_1 := hb3.get (b := w.heap.size + 1 + 1) (o := 1) (v := .int .u64 (hi (x))) (by first | with_reducible exact c2_2_1 | (simp [go_sem]; done) | (simp [go_sem, *]; done))
  have c3_2_2 := hb3.get (b := w.heap.size + 1 + 1) (o := 2) (v := .int .u64 (lo (x))) (by first | with_reducible exact c2_2_2 | (simp [go_sem]; done) | (simp [go_sem, *]; done))
  clear hz3
  rw [K.out]
  go_wp2_with fail
  refine (normal_any _ _ x0 x1 _).mono ?_
  rintro e w4 ⟨rfl, hb4⟩
  have hz4 := hb4.size
  (try simp at hz4)
  have z4_0 : w.heap.size < w4.heap.size := (by omega)
  have c4_0_0 := hb4.get (b := w.heap.size) (o := 0) (v := .int .i64 (W)) (by first | with_reducible exact c3_0_0 | (simp [go_sem]; done) | (simp [go_sem, *]; done))
  have c4_0_1 := hb4.get (b := w.heap.size) (o := 1) (v := .int .u64 (hi (v))) (by first | with_reducible exact c3_0_1 | (simp [go_sem]; done) | (simp [go_sem, *]; done))
  have c4_0_2 := hb4.get (b := w.heap.size) (o := 2) (v := .int .u64 (lo (v))) (by first | with_reducible exact c3_0_2 | (simp [go_sem]; done) | (simp [go_sem, *]; done))
  have z4_1 : w.heap.size + 1 < w4.heap.size := (by omega)
  have c4_1_0 := hb4.get (b := w.heap.size + 1) (o := 0) (v := .int .i64 (X)) (by first | with_reducible exact c3_1_0 | (simp [go_sem]; done) | (simp [go_sem, *]; done))
  have c4_1_1 := hb4.get (b := w.heap.size + 1) (o := 1) (v := .int .u64 (hi (u))) (by first | with_reducible exact c3_1_1 | (simp [go_sem]; done) | (simp [go_sem, *]; done))
  have c4_1_2 := hb4.get (b := w.heap.size + 1) (o := 2) (v := .int .u64 (lo (u))) (by first | with_reducible exact c3_1_2 | (simp [go_sem]; done) | (simp [go_sem, *]; done))
  have z4_2 : w.heap.size + 1 + 1 < w4.heap.size := (by omega)
  have c4_2_0 := hb4.get (b := w.heap.size + 1 + 1) (o := 0) (v := .int .i64 (Y)) (by first | with_reducible exact c3_2_0 | (simp [go_sem]; done) | (simp [go_sem, *]; done))
  have c4_2_1 := hb4.get (b := w.heap.size + 1 + 1) (o := 1) (v := .int .u64 (hi (x))) (by first | with_reducible exact c3_2_1 | (simp [go_sem]; done) | (simp [go_sem, *]; done))
  have c4_2_2 := hb4.get (b := w.heap.size + 1 + 1) (o := 2) (v := .int .u64 (lo (x))) (by first | with_reducible exact c3_2_2 | (simp [go_sem]; done) | (simp [go_sem, *]; done))
  clear hz4
  rw [J.out]
  go_wp2
  go_ret
  exact ⟨rfl, by repeat (first | with_reducible exact Fr.refl _ | with_reducible apply Fr.drewN | with_reducible apply Fr.drew | with_reducible apply Fr.alloc | (with_reducible refine Fr.set ?_ (by simp; try omega) _) | (with_reducible refine Fr.call ?_ (by assumption)))⟩
set_option maxHeartbeats 4000000 in
theorem ring_bad4 (HA : AliveC) (W v X u Y x : Int) (v0 : 0 ≤ v) (v1 : v < 340282366920938463463374607431768211456) (u0 : 0 ≤ u) (u1 : u < 340282366920938463463374607431768211456) (x0 : 0 ≤ x) (x1 : x < 340282366920938463463374607431768211456) (h : normB W v = true) (k : normB X u = true) (j : normB Y x = true) (n1 : (W != X) = true ∨ ((W != X) = false ∧ (W != Y) = true)) (w : World) :
    Calls Try.prog 11 #[bv W v, bv X u, bv Y x] w fun e w' => e = .returned (.bool true) ∧ Fr w w' := by
  have HA : Hid AliveC := Lib.hid HA
  have H := Lib.hid h; have K := Lib.hid k; have J := Lib.hid j; clear h k j
  rcases n1 with n1 | ⟨n1, n2⟩
  all_goals
    go_enter Try.func11, Try.ntmps11
    go_wp2_with fail
    refine (HA.out _).mono ?_
    rintro e w1 ⟨rfl, hb1⟩
    have hz1 := hb1.size
    (try simp at hz1)
    have z1_0 : w.heap.size < w1.heap.size := (by omega)
    have c1_0_0 := hb1.get (b := w.heap.size) (o := 0) (v := .int .i64 (W)) (by first | (simp [go_sem]; done) | (simp [go_sem, *]; done))
    have c1_0_1 := hb1.get (b := w.heap.size) (o := 1) (v := .int .u64 (hi (v))) (by first | (simp [go_sem]; done) | (simp [go_sem, *]; done))
    have c1_0_2 := hb1.get (b := w.heap.size) (o := 2) (v := .int .u64 (lo (v))) (by first | (simp [go_sem]; done) | (simp [go_sem, *]; done))
    have z1_1 : w.heap.size + 1 < w1.heap.size := (by omega)
    have c1_1_0 := hb1.get (b := w.heap.size + 1) (o := 0) (v := .int .i64 (X)) (by first | (simp [go_sem]; done) | (simp [go_sem, *]; done))
    have c1_1_1 := hb1.get (b := w.heap.size + 1) (o := 1) (v := .int .u64 (hi (u))) (by first | (simp [go_sem]; done) | (simp [go_sem, *]; done))
    have c1_1_2 := hb1.get (b := w.heap.size + 1) (o := 2) (v := .int .u64 (lo (u))) (by first | (simp [go_sem]; done) | (simp [go_sem, *]; done))
    have z1_2 : w.heap.size + 1 + 1 < w1.heap.size := (by omega)
    have c1_2_0 := hb1.get (b := w.heap.size + 1 + 1) (o := 0) (v := .int .i64 (Y)) (by first | (simp [go_sem]; done) | (simp [go_sem, *]; done))
    have c1_2_1 := hb1.get (b := w.heap.size + 1 + 1) (o := 1) (v := .int .u64 (hi (x))) (by first | (simp [go_sem]; done) | (simp [go_sem, *]; done))
    have c1_2_2 := hb1.get (b := w.heap.size + 1 + 1) (o := 2) (v := .int .u64 (lo (x))) (by first | (simp [go_sem]; done) | (simp [go_sem, *]; done))
    clear hz1
    go_wp2_with fail
    refine (normal_any _ _ v0 v1 _).mono ?_
    rintro e w2 ⟨rfl, hb2⟩
    have hz2 := hb2.size
    (try simp at hz2)
    have z2_0 : w.heap.size < w2.heap.size := (by omega)
    have c2_0_0 := hb2.get (b := w.heap.size) (o := 0) (v := .int .i64 (W)) (by first | with_reducible exact c1_0_0 | (simp [go_sem]; done) | (simp [go_sem, *]; done))
    have c2_0_1 := hb2.get (b := w.heap.size) (o := 1) (v := .int .u64 (hi (v))) (by first | with_reducible exact c1_0_1 | (simp [go_sem]; done) | (simp [go_sem, *]; done))
    have c2_0_2 := hb2.get (b := w.heap.size) (o := 2) (v := .int .u64 (lo (v))) (by first | with_reducible exact c1_0_2 | (simp [go_sem]; done) | (simp [go_sem, *]; done))
    have z2_1 : w.heap.size + 1 < w2.heap.size := (by omega)
    have c2_1_0 := hb2.get (b := w.heap.size + 1) (o := 0) (v := .int .i64 (X)) (by first | with_reducible exact c1_1_0 | (simp [go_sem]; done) | (simp [go_sem, *]; done))
    have c2_1_1 := hb2.get (b := w.heap.size + 1) (o := 1) (v := .int .u64 (hi (u))) (by first | with_reducible exact c1_1_1 | (simp [go_sem]; done) | (simp [go_sem, *]; done))
    have c2_1_2 := hb2.get (b := w.heap.size + 1) (o := 2) (v := .int .u64 (lo (u))) (by first | with_reducible exact c1_1_2 | (simp [go_sem]; done) | (simp [go_sem, *]; done))
    have z2_2 : w.heap.size + 1 + 1 < w2.heap.size := (by omega)
    have c2_2_0 := hb2.get (b := w.heap.size + 1 + 1) (o := 0) (v := .int .i64 (Y)) (by first | with_reducible exact c1_2_0 | (simp [go_sem]; done) | (simp [go_sem, *]; done))
    have c2_2_1 := hb2.get (b := w.heap.size + 1 + 1) (o := 1) (v := .int .u64 (hi (x))) (by first | with_reducible exact c1_2_1 | (simp [go_sem]; done) | (simp [go_sem, *]; done))
    have c2_2_2 := hb2.get (b := w.heap.size + 1 + 1) (o := 2) (v := .int .u64 (lo (x))) (by first | with_reducible exact c1_2_2 | (simp [go_sem]; done) | (simp [go_sem, *]; done))
    clear hz2
    rw [H.out]
    go_wp2_with fail
    refine (normal_any _ _ u0 u1 _).mono ?_
    rintro e w3 ⟨rfl, hb3⟩
    have hz3 := hb3.size
    (try simp at hz3)
    have z3_0 : w.heap.size < w3.heap.size := (by omega)
    have c3_0_0 := hb3.get (b := w.heap.size) (o := 0) (v := .int .i64 (W)) (by first | with_reducible exact c2_0_0 | (simp [go_sem]; done) | (simp [go_sem, *]; done))
    have c3_0_1 := hb3.get (b := w.heap.size) (o := 1) (v := .int .u64 (hi (v))) (by first | with_reducible exact c2_0_1 | (simp [go_sem]; done) | (simp [go_sem, *]; done))
    have c3_0_2 := hb3.get (b := w.heap.size) (o := 2) (v := .int .u64 (lo (v))) (by first | with_reducible exact c2_0_2 | (simp [go_sem]; done) | (simp [go_sem, *]; done))
    have z3_1 : w.heap.size + 1 < w3.heap.size := (by omega)
    have c3_1_0 := hb3.get (b := w.heap.size + 1) (o := 0) (v := .int .i64 (X)) (by first | with_reducible exact c2_1_0 | (simp [go_sem]; done) | (simp [go_sem, *]; done))
    have c3_1_1 := hb3.get (b := w.heap.size + 1) (o := 1) (v := .int .u64 (hi (u))) (by first | with_reducible exact c2_1_1 | (simp [go_sem]; done) | (simp [go_sem, *]; done))
    have c3_1_2 := hb3.get (b := w.heap.size + 1) (o := 2) (v := .int .u64 (lo (u))) (by first | with_reducible exact c2_1_2 | (simp [go_sem]; done) | (simp [go_sem, *]; done))
    have z3_2 : w.heap.size + 1 + 1 < w3.heap.size := (by omega)
    have c3_2_0 := hb3.get (b := w.heap.size + 1 + 1) (o := 0) (v := .int .i64 (Y)) (by first | with_reducible exact c2_2_0 | (simp [go_sem]; done) | (simp [go_sem, *]; done))
    have c3_2_1 := hb3.get (b := w.heap.size + 1 + 1) (o := 1) (v := .int .u64 (hi (x))) (by first | with_reducible exact c2_2_1 | (simp [go_sem]; done) | (simp [go_sem, *]; done))
    have c3_2_2 := hb3.get (b := w.heap.size + 1 + 1) (o := 2) (v := .int .u64 (lo (x))) (by first | with_reducible exact c2_2_2 | (simp [go_sem]; done) | (simp [go_sem, *]; done))
    clear hz3
    rw [K.out]
    go_wp2_with fail
    refine (normal_any _ _ x0 x1 _).mono ?_
    rintro e w4 ⟨rfl, hb4⟩
    have hz4 := hb4.size
    (try simp at hz4)
    have z4_0 : w.heap.size < w4.heap.size := (by omega)
    have c4_0_0 := hb4.get (b := w.heap.size) (o := 0) (v := .int .i64 (W)) (by first | with_reducible exact c3_0_0 | (simp [go_sem]; done) | (simp [go_sem, *]; done))
    have c4_0_1 := hb4.get (b := w.heap.size) (o := 1) (v := .int .u64 (hi (v))) (by first | with_reducible exact c3_0_1 | (simp [go_sem]; done) | (simp [go_sem, *]; done))
    have c4_0_2 := hb4.get (b := w.heap.size) (o := 2) (v := .int .u64 (lo (v))) (by first | with_reducible exact c3_0_2 | (simp [go_sem]; done) | (simp [go_sem, *]; done))
    have z4_1 : w.heap.size + 1 < w4.heap.size := (by omega)
    have c4_1_0 := hb4.get (b := w.heap.size + 1) (o := 0) (v := .int .i64 (X)) (by first | with_reducible exact c3_1_0 | (simp [go_sem]; done) | (simp [go_sem, *]; done))
    have c4_1_1 := hb4.get (b := w.heap.size + 1) (o := 1) (v := .int .u64 (hi (u))) (by first | with_reducible exact c3_1_1 | (simp [go_sem]; done) | (simp [go_sem, *]; done))
    have c4_1_2 := hb4.get (b := w.heap.size + 1) (o := 2) (v := .int .u64 (lo (u))) (by first | with_reducible exact c3_1_2 | (simp [go_sem]; done) | (simp [go_sem, *]; done))
    have z4_2 : w.heap.size + 1 + 1 < w4.heap.size := (by omega)
    have c4_2_0 := hb4.get (b := w.heap.size + 1 + 1) (o := 0) (v := .int .i64 (Y)) (by first | with_reducible exact c3_2_0 | (simp [go_sem]; done) | (simp [go_sem, *]; done))
    have c4_2_1 := hb4.get (b := w.heap.size + 1 + 1) (o := 1) (v := .int .u64 (hi (x))) (by first | with_reducible exact c3_2_1 | (simp [go_sem]; done) | (simp [go_sem, *]; done))
    have c4_2_2 := hb4.get (b := w.heap.size + 1 + 1) (o := 2) (v := .int .u64 (lo (x))) (by first | with_reducible exact c3_2_2 | (simp [go_sem]; done) | (simp [go_sem, *]; done))
    clear hz4
    rw [J.out]
    go_wp2
    go_ret
    exact ⟨rfl, by repeat (first | with_reducible exact Fr.refl _ | with_reducible apply Fr.drewN | with_reducible apply Fr.drew | with_reducible apply Fr.alloc | (with_reducible refine Fr.set ?_ (by simp; try omega) _) | (with_reducible refine Fr.call ?_ (by assumption)))⟩
end Go.Proofs.Ytpibkhkhbjeoiaa
