/- What FromInt answers. -/
import Derived.Test.YtglgbhlnfafhjaaMidb
namespace Go.Proofs.Ytglgbhlnfafhjaa
open Go.RowKit

set_option maxHeartbeats 4000000 in
theorem make_ok (W v : Int) (h0 : 1 ≤ W) (h1 : W ≤ 128) (w : World) :
    Calls Try.prog 33 #[.int .i64 W, .int .u64 (hi v), .int .u64 (lo v)] w fun e w' => e = .returned (bv W (cutI W.toNat v)) ∧ Fr w w' := by
  go_enter Try.func33, Try.ntmps33
  go_wp2_with fail
  refine (cut_to _ _ (by omega) (by omega) _).mono ?_
  rintro e w1 ⟨rfl, hb1⟩
  have hz1 := hb1.size
  (try simp at hz1)
  have z1_0 : w.heap.size < w1.heap.size := (by omega)
  have c1_0_0 := hb1.get (b := w.heap.size) (o := 0) (v := .int .i64 0) (by first | (simp [go_sem]; done) | (simp [go_sem, *]; done))
  have f1_0_0 := hb1.free (b := w.heap.size) (o := 0) (v := .int .i64 0) (by first | (simp [go_sem]; done) | (simp [go_sem, *]; done)) (by first | (simp [go_sem]; done) | (simp [go_sem, *]; done))
  have c1_0_1 := hb1.get (b := w.heap.size) (o := 1) (v := .int .u64 0) (by first | (simp [go_sem]; done) | (simp [go_sem, *]; done))
  have f1_0_1 := hb1.free (b := w.heap.size) (o := 1) (v := .int .u64 0) (by first | (simp [go_sem]; done) | (simp [go_sem, *]; done)) (by first | (simp [go_sem]; done) | (simp [go_sem, *]; done))
  have c1_0_2 := hb1.get (b := w.heap.size) (o := 2) (v := .int .u64 0) (by first | (simp [go_sem]; done) | (simp [go_sem, *]; done))
  have f1_0_2 := hb1.free (b := w.heap.size) (o := 2) (v := .int .u64 0) (by first | (simp [go_sem]; done) | (simp [go_sem, *]; done)) (by first | (simp [go_sem]; done) | (simp [go_sem, *]; done))
  clear hz1
  go_wp2
  exact bodyPost_ret (v := bv W (cutI W.toNat v)) (by simp [results, Try.results33, go_sem, *]) rfl ⟨rfl, by repeat (first | with_reducible exact Fr.refl _ | with_reducible apply Fr.drewN | with_reducible apply Fr.drew | with_reducible apply Fr.alloc | (with_reducible refine Fr.set ?_ (by simp; try omega) _) | (with_reducible refine Fr.call ?_ (by assumption)))⟩
set_option maxHeartbeats 4000000 in
theorem fromInt_ok (W n : Int) (h0 : 1 ≤ W) (h1 : W ≤ 128) (n0 : -9223372036854775808 ≤ n) (n1 : n ≤ 9223372036854775807) (w : World) :
    Calls Try.prog 7 #[.int .i64 W, .int .i64 n] w fun e w' => e = .returned (bv W (cutI W.toNat n)) ∧ Fr w w' := by
  go_enter Try.func7, Try.ntmps7
  go_wp2_with fail
  refine (fromInt_any _ n0 n1 _).mono ?_
  rintro e w1 ⟨rfl, hb1⟩
  have hz1 := hb1.size
  (try simp at hz1)
  have z1_0 : w.heap.size < w1.heap.size := (by omega)
  have c1_0_0 := hb1.get (b := w.heap.size) (o := 0) (v := .int .i64 0) (by first | (simp [go_sem]; done) | (simp [go_sem, *]; done))
  have f1_0_0 := hb1.free (b := w.heap.size) (o := 0) (v := .int .i64 0) (by first | (simp [go_sem]; done) | (simp [go_sem, *]; done)) (by first | (simp [go_sem]; done) | (simp [go_sem, *]; done))
  have c1_0_1 := hb1.get (b := w.heap.size) (o := 1) (v := .int .u64 0) (by first | (simp [go_sem]; done) | (simp [go_sem, *]; done))
  have f1_0_1 := hb1.free (b := w.heap.size) (o := 1) (v := .int .u64 0) (by first | (simp [go_sem]; done) | (simp [go_sem, *]; done)) (by first | (simp [go_sem]; done) | (simp [go_sem, *]; done))
  have c1_0_2 := hb1.get (b := w.heap.size) (o := 2) (v := .int .u64 0) (by first | (simp [go_sem]; done) | (simp [go_sem, *]; done))
  have f1_0_2 := hb1.free (b := w.heap.size) (o := 2) (v := .int .u64 0) (by first | (simp [go_sem]; done) | (simp [go_sem, *]; done)) (by first | (simp [go_sem]; done) | (simp [go_sem, *]; done))
  clear hz1
  go_wp2_with fail
  refine (make_ok _ _ (by omega) (by omega) _).mono ?_
  rintro e w2 ⟨rfl, hb2⟩
  have hz2 := hb2.size
  (try simp at hz2)
  have z2_0 : w.heap.size < w2.heap.size := (by omega)
  have c2_0_0 := hb2.get (b := w.heap.size) (o := 0) (v := .int .i64 0) (by first | (simp [go_sem]; done) | (simp [go_sem, *]; done))
  have f2_0_0 := hb2.free (b := w.heap.size) (o := 0) (v := .int .i64 0) (by first | (simp [go_sem]; done) | (simp [go_sem, *]; done)) (by first | (simp [go_sem]; done) | (simp [go_sem, *]; done))
  have c2_0_1 := hb2.get (b := w.heap.size) (o := 1) (v := .int .u64 0) (by first | (simp [go_sem]; done) | (simp [go_sem, *]; done))
  have f2_0_1 := hb2.free (b := w.heap.size) (o := 1) (v := .int .u64 0) (by first | (simp [go_sem]; done) | (simp [go_sem, *]; done)) (by first | (simp [go_sem]; done) | (simp [go_sem, *]; done))
  have c2_0_2 := hb2.get (b := w.heap.size) (o := 2) (v := .int .u64 0) (by first | (simp [go_sem]; done) | (simp [go_sem, *]; done))
  have f2_0_2 := hb2.free (b := w.heap.size) (o := 2) (v := .int .u64 0) (by first | (simp [go_sem]; done) | (simp [go_sem, *]; done)) (by first | (simp [go_sem]; done) | (simp [go_sem, *]; done))
  clear hz2
  go_wp2
  exact bodyPost_ret (v := bv W (cutI W.toNat n)) (by simp [results, Try.results7, go_sem, *]) rfl ⟨rfl, by repeat (first | with_reducible exact Fr.refl _ | with_reducible apply Fr.drewN | with_reducible apply Fr.drew | with_reducible apply Fr.alloc | (with_reducible refine Fr.set ?_ (by simp; try omega) _) | (with_reducible refine Fr.call ?_ (by assumption)))⟩
end Go.Proofs.Ytglgbhlnfafhjaa
