/- Contracts of the statements' sum and mul, and of Bin's sum, difference, product: normal bits of one width. -/
import Derived.Test.YtpibkhkhbjeoiaaGi
import Derived.Test.YtpibkhkhbjeoiaaGb
import Derived.Test.YtpibkhkhbjeoiaaGa
import Derived.Test.YtpibkhkhbjeoiaaExt
namespace Go.Proofs.Ytpibkhkhbjeoiaa
open Go.RowKit

theorem bin_add (W v u : Int) (h : Norm W v) (k : Norm W u) (w : World) : Calls Try.prog 14 #[.int .i64 1, bv W v, bv W u] w fun e w' => e = .returned (bv W (cutI W.toNat (v + u))) ∧ Fr w w' :=
  bin_1 W v u _ h k (fun w => reckon_1 v u w) w
theorem bin_sub (W v u : Int) (h : Norm W v) (k : Norm W u) (w : World) : Calls Try.prog 14 #[.int .i64 2, bv W v, bv W u] w fun e w' => e = .returned (bv W (cutI W.toNat (v - u))) ∧ Fr w w' :=
  bin_2 W v u _ h k (fun w => reckon_2 v u w) w
theorem bin_mul (W v u : Int) (h : Norm W v) (k : Norm W u) (w : World) : Calls Try.prog 14 #[.int .i64 3, bv W v, bv W u] w fun e w' => e = .returned (bv W (cutI W.toNat (v * u))) ∧ Fr w w' :=
  bin_3 W v u _ h k (fun w => reckon_3 v u w) w
theorem bin_and (W v u : Int) (h : Norm W v) (k : Norm W u) (w : World) : Calls Try.prog 14 #[.int .i64 4, bv W v, bv W u] w fun e w' => e = .returned (bv W (cutI W.toNat (landI v u))) ∧ Fr w w' :=
  bin_4 W v u _ h k (fun w => reckon_4 v u w) w
theorem bin_or (W v u : Int) (h : Norm W v) (k : Norm W u) (w : World) : Calls Try.prog 14 #[.int .i64 5, bv W v, bv W u] w fun e w' => e = .returned (bv W (cutI W.toNat (lorI v u))) ∧ Fr w w' :=
  bin_5 W v u _ h k (fun w => reckon_5 v u w) w
theorem bin_xor (W v u : Int) (h : Norm W v) (k : Norm W u) (w : World) : Calls Try.prog 14 #[.int .i64 6, bv W v, bv W u] w fun e w' => e = .returned (bv W (cutI W.toNat (lxorI v u))) ∧ Fr w w' :=
  bin_6 W v u _ h k (fun w => reckon_6 v u w) w
set_option maxHeartbeats 4000000 in
theorem law_sum (W v u : Int) (h : Norm W v) (k : Norm W u) (w : World) :
    Calls Try.prog 37 #[bv W v, bv W u] w fun e w' => e = .returned (bv W (cutI W.toNat (v + u))) ∧ Fr w w' := by
  have HN := Lib.hid h; have KN := Lib.hid k; clear h k
  go_enter Try.func37, Try.ntmps37
  go_wp2_with fail
  refine (bin_add _ _ _ HN.out KN.out _).mono ?_
  rintro e w1 ⟨rfl, hb1⟩
  have hz1 := hb1.size
  (try simp at hz1)
  have z1_0 : w.heap.size < w1.heap.size := (by omega)
  have c1_0_0 := hb1.get (b := w.heap.size) (o := 0) (v := .int .i64 (W)) (by first | (simp [go_sem]; done) | (simp [go_sem, *]; done))
  have c1_0_1 := hb1.get (b := w.heap.size) (o := 1) (v := .int .u64 (hi (v))) (by first | (simp [go_sem]; done) | (simp [go_sem, *]; done))
  have c1_0_2 := hb1.get (b := w.heap.size) (o := 2) (v := .int .u64 (lo (v))) (by first | (simp [go_sem]; done) | (simp [go_sem, *]; done))
  have z1_1 : w.heap.size + 1 < w1.heap.size := (by omega)
  have c1_1_0 := hb1.get (b := w.heap.size + 1) (o := 0) (v := .int .i64 (W)) (by first | (simp [go_sem]; done) | (simp [go_sem, *]; done))
  have c1_1_1 := hb1.get (b := w.heap.size + 1) (o := 1) (v := .int .u64 (hi (u))) (by first | (simp [go_sem]; done) | (simp [go_sem, *]; done))
  have c1_1_2 := hb1.get (b := w.heap.size + 1) (o := 2) (v := .int .u64 (lo (u))) (by first | (simp [go_sem]; done) | (simp [go_sem, *]; done))
  have z1_2 : w.heap.size + 1 + 1 < w1.heap.size := (by omega)
  have c1_2_0 := hb1.get (b := w.heap.size + 1 + 1) (o := 0) (v := .int .i64 0) (by first | (simp [go_sem]; done) | (simp [go_sem, *]; done))
  have f1_2_0 := hb1.free (b := w.heap.size + 1 + 1) (o := 0) (v := .int .i64 0) (by first | (simp [go_sem]; done) | (simp [go_sem, *]; done)) (by first | (simp [go_sem]; done) | (simp [go_sem, *]; done))
  have c1_2_1 := hb1.get (b := w.heap.size + 1 + 1) (o := 1) (v := .int .u64 0) (by first | (simp [go_sem]; done) | (simp [go_sem, *]; done))
  have f1_2_1 := hb1.free (b := w.heap.size + 1 + 1) (o := 1) (v := .int .u64 0) (by first | (simp [go_sem]; done) | (simp [go_sem, *]; done)) (by first | (simp [go_sem]; done) | (simp [go_sem, *]; done))
  have c1_2_2 := hb1.get (b := w.heap.size + 1 + 1) (o := 2) (v := .int .u64 0) (by first | (simp [go_sem]; done) | (simp [go_sem, *]; done))
  have f1_2_2 := hb1.free (b := w.heap.size + 1 + 1) (o := 2) (v := .int .u64 0) (by first | (simp [go_sem]; done) | (simp [go_sem, *]; done)) (by first | (simp [go_sem]; done) | (simp [go_sem, *]; done))
  clear hz1
  go_wp2
  exact bodyPost_ret (v := bv W (cutI W.toNat (v + u))) (by simp [results, Try.results37, go_sem, *]) rfl ⟨rfl, by repeat (first | with_reducible exact Fr.refl _ | with_reducible apply Fr.drewN | with_reducible apply Fr.drew | with_reducible apply Fr.alloc | (with_reducible refine Fr.set ?_ (by simp; try omega) _) | (with_reducible refine Fr.call ?_ (by assumption)))⟩
set_option maxHeartbeats 4000000 in
theorem law_mul (W v u : Int) (h : Norm W v) (k : Norm W u) (w : World) :
    Calls Try.prog 38 #[bv W v, bv W u] w fun e w' => e = .returned (bv W (cutI W.toNat (v * u))) ∧ Fr w w' := by
  have HN := Lib.hid h; have KN := Lib.hid k; clear h k
  go_enter Try.func38, Try.ntmps38
  go_wp2_with fail
  refine (bin_mul _ _ _ HN.out KN.out _).mono ?_
  rintro e w1 ⟨rfl, hb1⟩
  have hz1 := hb1.size
  (try simp at hz1)
  have z1_0 : w.heap.size < w1.heap.size := (by omega)
  have c1_0_0 := hb1.get (b := w.heap.size) (o := 0) (v := .int .i64 (W)) (by first | (simp [go_sem]; done) | (simp [go_sem, *]; done))
  have c1_0_1 := hb1.get (b := w.heap.size) (o := 1) (v := .int .u64 (hi (v))) (by first | (simp [go_sem]; done) | (simp [go_sem, *]; done))
  have c1_0_2 := hb1.get (b := w.heap.size) (o := 2) (v := .int .u64 (lo (v))) (by first | (simp [go_sem]; done) | (simp [go_sem, *]; done))
  have z1_1 : w.heap.size + 1 < w1.heap.size := (by omega)
  have c1_1_0 := hb1.get (b := w.heap.size + 1) (o := 0) (v := .int .i64 (W)) (by first | (simp [go_sem]; done) | (simp [go_sem, *]; done))
  have c1_1_1 := hb1.get (b := w.heap.size + 1) (o := 1) (v := .int .u64 (hi (u))) (by first | (simp [go_sem]; done) | (simp [go_sem, *]; done))
  have c1_1_2 := hb1.get (b := w.heap.size + 1) (o := 2) (v := .int .u64 (lo (u))) (by first | (simp [go_sem]; done) | (simp [go_sem, *]; done))
  have z1_2 : w.heap.size + 1 + 1 < w1.heap.size := (by omega)
  have c1_2_0 := hb1.get (b := w.heap.size + 1 + 1) (o := 0) (v := .int .i64 0) (by first | (simp [go_sem]; done) | (simp [go_sem, *]; done))
  have f1_2_0 := hb1.free (b := w.heap.size + 1 + 1) (o := 0) (v := .int .i64 0) (by first | (simp [go_sem]; done) | (simp [go_sem, *]; done)) (by first | (simp [go_sem]; done) | (simp [go_sem, *]; done))
  have c1_2_1 := hb1.get (b := w.heap.size + 1 + 1) (o := 1) (v := .int .u64 0) (by first | (simp [go_sem]; done) | (simp [go_sem, *]; done))
  have f1_2_1 := hb1.free (b := w.heap.size + 1 + 1) (o := 1) (v := .int .u64 0) (by first | (simp [go_sem]; done) | (simp [go_sem, *]; done)) (by first | (simp [go_sem]; done) | (simp [go_sem, *]; done))
  have c1_2_2 := hb1.get (b := w.heap.size + 1 + 1) (o := 2) (v := .int .u64 0) (by first | (simp [go_sem]; done) | (simp [go_sem, *]; done))
  have f1_2_2 := hb1.free (b := w.heap.size + 1 + 1) (o := 2) (v := .int .u64 0) (by first | (simp [go_sem]; done) | (simp [go_sem, *]; done)) (by first | (simp [go_sem]; done) | (simp [go_sem, *]; done))
  clear hz1
  go_wp2
  exact bodyPost_ret (v := bv W (cutI W.toNat (v * u))) (by simp [results, Try.results38, go_sem, *]) rfl ⟨rfl, by repeat (first | with_reducible exact Fr.refl _ | with_reducible apply Fr.drewN | with_reducible apply Fr.drew | with_reducible apply Fr.alloc | (with_reducible refine Fr.set ?_ (by simp; try omega) _) | (with_reducible refine Fr.call ?_ (by assumption)))⟩
end Go.Proofs.Ytpibkhkhbjeoiaa
