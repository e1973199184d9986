/- Contracts of package bvec's signed, fromInt, truth, Normal: no condition but widths from 1 to 128. -/
import Derived.Test.YtglgbhlnfafhjaaMid
import Derived.Test.YtglgbhlnfafhjaaNumb
import Derived.Deep.RegionHeld3
import Derived.Deep.RegionWith
import Derived.Deep.QuietTactic
import Derived.BigQuiet
namespace Go.Proofs.Ytglgbhlnfafhjaa
open Go.RowKit

theorem cut_to (W v : Int) (h0 : 1 ≤ W) (h1 : W ≤ 128) (w : World) :
    Calls Try.prog 11 #[.int .i64 W, wv v] w fun e w' => e = .returned (bv W (cutI W.toNat v)) ∧ Fr w w' := by
  have h := cut_any W v h0 h1 w
  rw [landI_ones _ (by omega)] at h
  exact h
set_option maxHeartbeats 4000000 in
theorem signed_any (W v : Int) (h : Norm W v) (w : World) :
    Calls Try.prog 16 #[bv W v] w fun e w' => e = .returned (wv (sgnI W v)) ∧ Fr w w' := by
  have H1 := Lib.hid (negB_shl W v h)
  have HN := Lib.hid h
  obtain ⟨h1, h2, h3, h4⟩ := h
  clear h4
  by_cases k : v < 2 ^ (W.toNat - 1)
  · have HK := Lib.hid k
    have H4 : Hid (negB (v * 2 ^ (128 - W).toNat) = false) := by have := H1.out; rw [decide_eq_false (by omega)] at this; exact this
    have H2 : Hid (sgnI W v = v) := by unfold sgnI; rw [if_pos k]; rfl
    clear k
    go_enter Try.func16, Try.ntmps16
    go_wp2_with fail
    refine (value_any _ _ _).mono ?_
    rintro e w1 ⟨rfl, hb1⟩
    have hz1 := hb1.size
    (try simp at hz1)
    have z1_0 : w.heap.size < w1.heap.size := (by omega)
    have c1_0_0 := hb1.get (b := w.heap.size) (o := 0) (v := .int .i64 (W)) (by first | (simp [go_sem]; done) | (simp [go_sem, *]; done))
    have c1_0_1 := hb1.get (b := w.heap.size) (o := 1) (v := .int .u64 (hi (v))) (by first | (simp [go_sem]; done) | (simp [go_sem, *]; done))
    have c1_0_2 := hb1.get (b := w.heap.size) (o := 2) (v := .int .u64 (lo (v))) (by first | (simp [go_sem]; done) | (simp [go_sem, *]; done))
    have z1_1 : w.heap.size + 1 < w1.heap.size := (by omega)
    have c1_1_0 := hb1.get (b := w.heap.size + 1) (o := 0) (v := .int .u64 0) (by first | (simp [go_sem]; done) | (simp [go_sem, *]; done))
    have f1_1_0 := hb1.free (b := w.heap.size + 1) (o := 0) (v := .int .u64 0) (by first | (simp [go_sem]; done) | (simp [go_sem, *]; done)) (by first | (simp [go_sem]; done) | (simp [go_sem, *]; done))
    have c1_1_1 := hb1.get (b := w.heap.size + 1) (o := 1) (v := .int .u64 0) (by first | (simp [go_sem]; done) | (simp [go_sem, *]; done))
    have f1_1_1 := hb1.free (b := w.heap.size + 1) (o := 1) (v := .int .u64 0) (by first | (simp [go_sem]; done) | (simp [go_sem, *]; done)) (by first | (simp [go_sem]; done) | (simp [go_sem, *]; done))
    clear hz1
    go_wp2_with fail
    refine (wshl_any _ _ (by omega) (by omega) _).mono ?_
    rintro e w2 ⟨rfl, hb2⟩
    have hz2 := hb2.size
    (try simp at hz2)
    have z2_0 : w.heap.size < w2.heap.size := (by omega)
    have c2_0_0 := hb2.get (b := w.heap.size) (o := 0) (v := .int .i64 (W)) (by first | (simp [go_sem]; done) | (simp [go_sem, *]; done))
    have c2_0_1 := hb2.get (b := w.heap.size) (o := 1) (v := .int .u64 (hi (v))) (by first | (simp [go_sem]; done) | (simp [go_sem, *]; done))
    have c2_0_2 := hb2.get (b := w.heap.size) (o := 2) (v := .int .u64 (lo (v))) (by first | (simp [go_sem]; done) | (simp [go_sem, *]; done))
    have z2_1 : w.heap.size + 1 < w2.heap.size := (by omega)
    have c2_1_0 := hb2.get (b := w.heap.size + 1) (o := 0) (v := .int .u64 0) (by first | (simp [go_sem]; done) | (simp [go_sem, *]; done))
    have f2_1_0 := hb2.free (b := w.heap.size + 1) (o := 0) (v := .int .u64 0) (by first | (simp [go_sem]; done) | (simp [go_sem, *]; done)) (by first | (simp [go_sem]; done) | (simp [go_sem, *]; done))
    have c2_1_1 := hb2.get (b := w.heap.size + 1) (o := 1) (v := .int .u64 0) (by first | (simp [go_sem]; done) | (simp [go_sem, *]; done))
    have f2_1_1 := hb2.free (b := w.heap.size + 1) (o := 1) (v := .int .u64 0) (by first | (simp [go_sem]; done) | (simp [go_sem, *]; done)) (by first | (simp [go_sem]; done) | (simp [go_sem, *]; done))
    have z2_2 : w1.heap.size < w2.heap.size := (by omega)
    have c2_2_0 := hb2.get (b := w1.heap.size) (o := 0) (v := .int .u64 (hi (v))) (by first | (simp [go_sem]; done) | (simp [go_sem, *]; done))
    have c2_2_1 := hb2.get (b := w1.heap.size) (o := 1) (v := .int .u64 (lo (v))) (by first | (simp [go_sem]; done) | (simp [go_sem, *]; done))
    clear hz2
    go_wp2_with fail
    refine (below0_any _ _).mono ?_
    rintro e w3 ⟨rfl, hb3⟩
    have hz3 := hb3.size
    (try simp at hz3)
    have z3_0 : w.heap.size < w3.heap.size := (by omega)
    have c3_0_0 := hb3.get (b := w.heap.size) (o := 0) (v := .int .i64 (W)) (by first | (simp [go_sem]; done) | (simp [go_sem, *]; done))
    have c3_0_1 := hb3.get (b := w.heap.size) (o := 1) (v := .int .u64 (hi (v))) (by first | (simp [go_sem]; done) | (simp [go_sem, *]; done))
    have c3_0_2 := hb3.get (b := w.heap.size) (o := 2) (v := .int .u64 (lo (v))) (by first | (simp [go_sem]; done) | (simp [go_sem, *]; done))
    have z3_1 : w.heap.size + 1 < w3.heap.size := (by omega)
    have c3_1_0 := hb3.get (b := w.heap.size + 1) (o := 0) (v := .int .u64 0) (by first | (simp [go_sem]; done) | (simp [go_sem, *]; done))
    have f3_1_0 := hb3.free (b := w.heap.size + 1) (o := 0) (v := .int .u64 0) (by first | (simp [go_sem]; done) | (simp [go_sem, *]; done)) (by first | (simp [go_sem]; done) | (simp [go_sem, *]; done))
    have c3_1_1 := hb3.get (b := w.heap.size + 1) (o := 1) (v := .int .u64 0) (by first | (simp [go_sem]; done) | (simp [go_sem, *]; done))
    have f3_1_1 := hb3.free (b := w.heap.size + 1) (o := 1) (v := .int .u64 0) (by first | (simp [go_sem]; done) | (simp [go_sem, *]; done)) (by first | (simp [go_sem]; done) | (simp [go_sem, *]; done))
    have z3_2 : w1.heap.size < w3.heap.size := (by omega)
    have c3_2_0 := hb3.get (b := w1.heap.size) (o := 0) (v := .int .u64 (hi (v))) (by first | (simp [go_sem]; done) | (simp [go_sem, *]; done))
    have c3_2_1 := hb3.get (b := w1.heap.size) (o := 1) (v := .int .u64 (lo (v))) (by first | (simp [go_sem]; done) | (simp [go_sem, *]; done))
    clear hz3
    rw [H4.out]
    go_wp2
    rw [H2.out]
    exact bodyPost_ret (v := wv v) (by simp [results, Try.results16, go_sem, *]) rfl ⟨rfl, by repeat (first | with_reducible exact Fr.refl _ | with_reducible apply Fr.drewN | with_reducible apply Fr.drew | with_reducible apply Fr.alloc | (with_reducible refine Fr.set ?_ (by simp; try omega) _) | (with_reducible refine Fr.call ?_ (by assumption)))⟩
  · have HK := Lib.hid k
    have H4 : Hid (negB (v * 2 ^ (128 - W).toNat) = true) := by have := H1.out; rw [decide_eq_true (by omega)] at this; exact this
    obtain ⟨e1, e2⟩ := hi_sgn W v HN.out k
    have E1 := Lib.hid e1; have E2 := Lib.hid e2; clear e1 e2
    clear k
    go_enter Try.func16, Try.ntmps16
    go_wp2_with fail
    refine (value_any _ _ _).mono ?_
    rintro e w1 ⟨rfl, hb1⟩
    have hz1 := hb1.size
    (try simp at hz1)
    have z1_0 : w.heap.size < w1.heap.size := (by omega)
    have c1_0_0 := hb1.get (b := w.heap.size) (o := 0) (v := .int .i64 (W)) (by first | (simp [go_sem]; done) | (simp [go_sem, *]; done))
    have c1_0_1 := hb1.get (b := w.heap.size) (o := 1) (v := .int .u64 (hi (v))) (by first | (simp [go_sem]; done) | (simp [go_sem, *]; done))
    have c1_0_2 := hb1.get (b := w.heap.size) (o := 2) (v := .int .u64 (lo (v))) (by first | (simp [go_sem]; done) | (simp [go_sem, *]; done))
    have z1_1 : w.heap.size + 1 < w1.heap.size := (by omega)
    have c1_1_0 := hb1.get (b := w.heap.size + 1) (o := 0) (v := .int .u64 0) (by first | (simp [go_sem]; done) | (simp [go_sem, *]; done))
    have f1_1_0 := hb1.free (b := w.heap.size + 1) (o := 0) (v := .int .u64 0) (by first | (simp [go_sem]; done) | (simp [go_sem, *]; done)) (by first | (simp [go_sem]; done) | (simp [go_sem, *]; done))
    have c1_1_1 := hb1.get (b := w.heap.size + 1) (o := 1) (v := .int .u64 0) (by first | (simp [go_sem]; done) | (simp [go_sem, *]; done))
    have f1_1_1 := hb1.free (b := w.heap.size + 1) (o := 1) (v := .int .u64 0) (by first | (simp [go_sem]; done) | (simp [go_sem, *]; done)) (by first | (simp [go_sem]; done) | (simp [go_sem, *]; done))
    clear hz1
    go_wp2_with fail
    refine (wshl_any _ _ (by omega) (by omega) _).mono ?_
    rintro e w2 ⟨rfl, hb2⟩
    have hz2 := hb2.size
    (try simp at hz2)
    have z2_0 : w.heap.size < w2.heap.size := (by omega)
    have c2_0_0 := hb2.get (b := w.heap.size) (o := 0) (v := .int .i64 (W)) (by first | (simp [go_sem]; done) | (simp [go_sem, *]; done))
    have c2_0_1 := hb2.get (b := w.heap.size) (o := 1) (v := .int .u64 (hi (v))) (by first | (simp [go_sem]; done) | (simp [go_sem, *]; done))
    have c2_0_2 := hb2.get (b := w.heap.size) (o := 2) (v := .int .u64 (lo (v))) (by first | (simp [go_sem]; done) | (simp [go_sem, *]; done))
    have z2_1 : w.heap.size + 1 < w2.heap.size := (by omega)
    have c2_1_0 := hb2.get (b := w.heap.size + 1) (o := 0) (v := .int .u64 0) (by first | (simp [go_sem]; done) | (simp [go_sem, *]; done))
    have f2_1_0 := hb2.free (b := w.heap.size + 1) (o := 0) (v := .int .u64 0) (by first | (simp [go_sem]; done) | (simp [go_sem, *]; done)) (by first | (simp [go_sem]; done) | (simp [go_sem, *]; done))
    have c2_1_1 := hb2.get (b := w.heap.size + 1) (o := 1) (v := .int .u64 0) (by first | (simp [go_sem]; done) | (simp [go_sem, *]; done))
    have f2_1_1 := hb2.free (b := w.heap.size + 1) (o := 1) (v := .int .u64 0) (by first | (simp [go_sem]; done) | (simp [go_sem, *]; done)) (by first | (simp [go_sem]; done) | (simp [go_sem, *]; done))
    have z2_2 : w1.heap.size < w2.heap.size := (by omega)
    have c2_2_0 := hb2.get (b := w1.heap.size) (o := 0) (v := .int .u64 (hi (v))) (by first | (simp [go_sem]; done) | (simp [go_sem, *]; done))
    have c2_2_1 := hb2.get (b := w1.heap.size) (o := 1) (v := .int .u64 (lo (v))) (by first | (simp [go_sem]; done) | (simp [go_sem, *]; done))
    clear hz2
    go_wp2_with fail
    refine (below0_any _ _).mono ?_
    rintro e w3 ⟨rfl, hb3⟩
    have hz3 := hb3.size
    (try simp at hz3)
    have z3_0 : w.heap.size < w3.heap.size := (by omega)
    have c3_0_0 := hb3.get (b := w.heap.size) (o := 0) (v := .int .i64 (W)) (by first | (simp [go_sem]; done) | (simp [go_sem, *]; done))
    have c3_0_1 := hb3.get (b := w.heap.size) (o := 1) (v := .int .u64 (hi (v))) (by first | (simp [go_sem]; done) | (simp [go_sem, *]; done))
    have c3_0_2 := hb3.get (b := w.heap.size) (o := 2) (v := .int .u64 (lo (v))) (by first | (simp [go_sem]; done) | (simp [go_sem, *]; done))
    have z3_1 : w.heap.size + 1 < w3.heap.size := (by omega)
    have c3_1_0 := hb3.get (b := w.heap.size + 1) (o := 0) (v := .int .u64 0) (by first | (simp [go_sem]; done) | (simp [go_sem, *]; done))
    have f3_1_0 := hb3.free (b := w.heap.size + 1) (o := 0) (v := .int .u64 0) (by first | (simp [go_sem]; done) | (simp [go_sem, *]; done)) (by first | (simp [go_sem]; done) | (simp [go_sem, *]; done))
    have c3_1_1 := hb3.get (b := w.heap.size + 1) (o := 1) (v := .int .u64 0) (by first | (simp [go_sem]; done) | (simp [go_sem, *]; done))
    have f3_1_1 := hb3.free (b := w.heap.size + 1) (o := 1) (v := .int .u64 0) (by first | (simp [go_sem]; done) | (simp [go_sem, *]; done)) (by first | (simp [go_sem]; done) | (simp [go_sem, *]; done))
    have z3_2 : w1.heap.size < w3.heap.size := (by omega)
    have c3_2_0 := hb3.get (b := w1.heap.size) (o := 0) (v := .int .u64 (hi (v))) (by first | (simp [go_sem]; done) | (simp [go_sem, *]; done))
    have c3_2_1 := hb3.get (b := w1.heap.size) (o := 1) (v := .int .u64 (lo (v))) (by first | (simp [go_sem]; done) | (simp [go_sem, *]; done))
    clear hz3
    rw [H4.out]
    go_wp2_with fail
    go_region_with (first
      | (go_at_call 38; refine (wones_any _ (by omega) (by omega) _).mono ?_; rintro e w4 ⟨rfl, hb4⟩; have hz4 := hb4.size; (try simp at hz4); have z4_0 : w.heap.size < w4.heap.size := (by omega); have c4_0_0 := hb4.get (b := w.heap.size) (o := 0) (v := .int .i64 (W)) (by first | (simp [go_sem]; done) | (simp [go_sem, *]; done)); have c4_0_1 := hb4.get (b := w.heap.size) (o := 1) (v := .int .u64 (hi (v))) (by first | (simp [go_sem]; done) | (simp [go_sem, *]; done)); have c4_0_2 := hb4.get (b := w.heap.size) (o := 2) (v := .int .u64 (lo (v))) (by first | (simp [go_sem]; done) | (simp [go_sem, *]; done)); have z4_1 : w.heap.size + 1 < w4.heap.size := (by omega); have c4_1_0 := hb4.get (b := w.heap.size + 1) (o := 0) (v := .int .u64 0) (by first | (simp [go_sem]; done) | (simp [go_sem, *]; done)); have f4_1_0 := hb4.free (b := w.heap.size + 1) (o := 0) (v := .int .u64 0) (by first | (simp [go_sem]; done) | (simp [go_sem, *]; done)) (by first | (simp [go_sem]; done) | (simp [go_sem, *]; done)); have c4_1_1 := hb4.get (b := w.heap.size + 1) (o := 1) (v := .int .u64 0) (by first | (simp [go_sem]; done) | (simp [go_sem, *]; done)); have f4_1_1 := hb4.free (b := w.heap.size + 1) (o := 1) (v := .int .u64 0) (by first | (simp [go_sem]; done) | (simp [go_sem, *]; done)) (by first | (simp [go_sem]; done) | (simp [go_sem, *]; done)); have z4_2 : w1.heap.size < w4.heap.size := (by omega); have c4_2_0 := hb4.get (b := w1.heap.size) (o := 0) (v := .int .u64 (hi (v))) (by first | (simp [go_sem]; done) | (simp [go_sem, *]; done)); have c4_2_1 := hb4.get (b := w1.heap.size) (o := 1) (v := .int .u64 (lo (v))) (by first | (simp [go_sem]; done) | (simp [go_sem, *]; done)); clear hz4)
      | (go_at_call 39; refine (wnot_any _ _).mono ?_; rintro e w5 ⟨rfl, hb5⟩; have hz5 := hb5.size; (try simp at hz5); have z5_0 : w.heap.size < w5.heap.size := (by omega); have c5_0_0 := hb5.get (b := w.heap.size) (o := 0) (v := .int .i64 (W)) (by first | (simp [go_sem]; done) | (simp [go_sem, *]; done)); have c5_0_1 := hb5.get (b := w.heap.size) (o := 1) (v := .int .u64 (hi (v))) (by first | (simp [go_sem]; done) | (simp [go_sem, *]; done)); have c5_0_2 := hb5.get (b := w.heap.size) (o := 2) (v := .int .u64 (lo (v))) (by first | (simp [go_sem]; done) | (simp [go_sem, *]; done)); have z5_1 : w.heap.size + 1 < w5.heap.size := (by omega); have c5_1_0 := hb5.get (b := w.heap.size + 1) (o := 0) (v := .int .u64 0) (by first | (simp [go_sem]; done) | (simp [go_sem, *]; done)); have f5_1_0 := hb5.free (b := w.heap.size + 1) (o := 0) (v := .int .u64 0) (by first | (simp [go_sem]; done) | (simp [go_sem, *]; done)) (by first | (simp [go_sem]; done) | (simp [go_sem, *]; done)); have c5_1_1 := hb5.get (b := w.heap.size + 1) (o := 1) (v := .int .u64 0) (by first | (simp [go_sem]; done) | (simp [go_sem, *]; done)); have f5_1_1 := hb5.free (b := w.heap.size + 1) (o := 1) (v := .int .u64 0) (by first | (simp [go_sem]; done) | (simp [go_sem, *]; done)) (by first | (simp [go_sem]; done) | (simp [go_sem, *]; done)); have z5_2 : w1.heap.size < w5.heap.size := (by omega); have c5_2_0 := hb5.get (b := w1.heap.size) (o := 0) (v := .int .u64 (hi (v))) (by first | (simp [go_sem]; done) | (simp [go_sem, *]; done)); have c5_2_1 := hb5.get (b := w1.heap.size) (o := 1) (v := .int .u64 (lo (v))) (by first | (simp [go_sem]; done) | (simp [go_sem, *]; done)); clear hz5)
      | (go_at_call 37; refine (wor_any _ _ _).mono ?_; rintro e w6 ⟨rfl, hb6⟩; have hz6 := hb6.size; (try simp at hz6); have z6_0 : w.heap.size < w6.heap.size := (by omega); have c6_0_0 := hb6.get (b := w.heap.size) (o := 0) (v := .int .i64 (W)) (by first | (simp [go_sem]; done) | (simp [go_sem, *]; done)); have c6_0_1 := hb6.get (b := w.heap.size) (o := 1) (v := .int .u64 (hi (v))) (by first | (simp [go_sem]; done) | (simp [go_sem, *]; done)); have c6_0_2 := hb6.get (b := w.heap.size) (o := 2) (v := .int .u64 (lo (v))) (by first | (simp [go_sem]; done) | (simp [go_sem, *]; done)); have z6_1 : w.heap.size + 1 < w6.heap.size := (by omega); have c6_1_0 := hb6.get (b := w.heap.size + 1) (o := 0) (v := .int .u64 0) (by first | (simp [go_sem]; done) | (simp [go_sem, *]; done)); have f6_1_0 := hb6.free (b := w.heap.size + 1) (o := 0) (v := .int .u64 0) (by first | (simp [go_sem]; done) | (simp [go_sem, *]; done)) (by first | (simp [go_sem]; done) | (simp [go_sem, *]; done)); have c6_1_1 := hb6.get (b := w.heap.size + 1) (o := 1) (v := .int .u64 0) (by first | (simp [go_sem]; done) | (simp [go_sem, *]; done)); have f6_1_1 := hb6.free (b := w.heap.size + 1) (o := 1) (v := .int .u64 0) (by first | (simp [go_sem]; done) | (simp [go_sem, *]; done)) (by first | (simp [go_sem]; done) | (simp [go_sem, *]; done)); have z6_2 : w1.heap.size < w6.heap.size := (by omega); have c6_2_0 := hb6.get (b := w1.heap.size) (o := 0) (v := .int .u64 (hi (v))) (by first | (simp [go_sem]; done) | (simp [go_sem, *]; done)); have c6_2_1 := hb6.get (b := w1.heap.size) (o := 1) (v := .int .u64 (lo (v))) (by first | (simp [go_sem]; done) | (simp [go_sem, *]; done)); clear hz6))
    all_goals go_wp2
    all_goals exact bodyPost_ret (v := wv (sgnI W v)) (by simp [results, Try.results16, go_sem, ← E1.out, ← E2.out, *]) rfl ⟨rfl, by repeat (first | with_reducible exact Fr.refl _ | with_reducible apply Fr.drewN | with_reducible apply Fr.drew | with_reducible apply Fr.alloc | (with_reducible refine Fr.set ?_ (by simp; try omega) _) | (with_reducible refine Fr.call ?_ (by assumption)))⟩
set_option maxHeartbeats 4000000 in
theorem fromInt_any (n : Int) (h0 : -9223372036854775808 ≤ n) (h1 : n ≤ 9223372036854775807) (w : World) :
    Calls Try.prog 32 #[.int .i64 n] w fun e w' => e = .returned (wv n) ∧ Fr w w' := by
  obtain ⟨e1, e2⟩ := hi_int n h0 h1
  have E1 := Lib.hid e1; have E2 := Lib.hid e2; clear e1 e2
  go_enter Try.func32, Try.ntmps32
  go_wp2
  exact bodyPost_ret (v := wv n) (by simp [results, Try.results32, go_sem, IntKind.wrap_u64, E1.out, E2.out, *]) rfl ⟨rfl, by repeat (first | with_reducible exact Fr.refl _ | with_reducible apply Fr.drewN | with_reducible apply Fr.drew | with_reducible apply Fr.alloc | (with_reducible refine Fr.set ?_ (by simp; try omega) _) | (with_reducible refine Fr.call ?_ (by assumption)))⟩
set_option maxHeartbeats 4000000 in
theorem truth_any (b : Bool) (w : World) :
    Calls Try.prog 17 #[.bool b] w fun e w' => e = .returned (bv 1 (if b then 1 else 0)) ∧ Fr w w' := by
  cases b
  all_goals
    go_enter Try.func17, Try.ntmps17
    go_wp2
  · exact bodyPost_ret (v := bv 1 0) (by simp [results, Try.results17, go_sem, hi_zero, lo_zero]) rfl ⟨rfl, by repeat (first | with_reducible exact Fr.refl _ | with_reducible apply Fr.drewN | with_reducible apply Fr.drew | with_reducible apply Fr.alloc | (with_reducible refine Fr.set ?_ (by simp; try omega) _) | (with_reducible refine Fr.call ?_ (by assumption)))⟩
  · exact bodyPost_ret (v := bv 1 1) (by simp [results, Try.results17, go_sem, hi_one, lo_one]) rfl ⟨rfl, by repeat (first | with_reducible exact Fr.refl _ | with_reducible apply Fr.drewN | with_reducible apply Fr.drew | with_reducible apply Fr.alloc | (with_reducible refine Fr.set ?_ (by simp; try omega) _) | (with_reducible refine Fr.call ?_ (by assumption)))⟩
set_option maxHeartbeats 4000000 in
theorem normal_in (W v : Int) (h0 : 1 ≤ W) (h1 : W ≤ 128) (v0 : 0 ≤ v) (v1 : v < 340282366920938463463374607431768211456) (w : World) :
    Calls Try.prog 8 #[bv W v] w fun e w' => e = .returned (.bool (normB W v)) ∧ Fr w w' := by
  have H := Lib.hid (normB_eq W v h0 h1 v0 v1)
  clear v0 v1
  cases e1 : (hi v == hi (cutI W.toNat v)) <;> cases e2 : (lo v == lo (cutI W.toNat v))
  all_goals
    have HH : Hid (normB W v = _) := H.out.symm
    rw [e1, e2] at HH
    clear H
    go_enter Try.func8, Try.ntmps8
    go_wp2_with fail
    go_region_held3 (fun w' => w'.cell? ⟨w.heap.size, 0, none⟩ = some (.int .i64 W) ∧ w'.cell? ⟨w.heap.size, 1, none⟩ = some (.int .u64 (hi v)) ∧ w'.cell? ⟨w.heap.size, 2, none⟩ = some (.int .u64 (lo v))) (simp [go_sem, *])
     (first
      | (go_at_call 13; refine (value_any _ _ _).mono ?_; rintro e w1 ⟨rfl, hb1⟩; have hz1 := hb1.size; (try simp at hz1); have z1_0 : w.heap.size < w1.heap.size := (by omega); have c1_0_0 := hb1.get (b := w.heap.size) (o := 0) (v := .int .i64 (W)) (by first | (simp [go_sem]; done) | (simp [go_sem, *]; done)); have c1_0_1 := hb1.get (b := w.heap.size) (o := 1) (v := .int .u64 (hi (v))) (by first | (simp [go_sem]; done) | (simp [go_sem, *]; done)); have c1_0_2 := hb1.get (b := w.heap.size) (o := 2) (v := .int .u64 (lo (v))) (by first | (simp [go_sem]; done) | (simp [go_sem, *]; done)); clear hz1)
      | (go_at_call 11; refine (cut_to _ _ (by omega) (by omega) _).mono ?_; rintro e w2 ⟨rfl, hb2⟩; have hz2 := hb2.size; (try simp at hz2); have z2_0 : w.heap.size < w2.heap.size := (by omega); have c2_0_0 := hb2.get (b := w.heap.size) (o := 0) (v := .int .i64 (W)) (by first | (simp [go_sem]; done) | (simp [go_sem, *]; done)); have c2_0_1 := hb2.get (b := w.heap.size) (o := 1) (v := .int .u64 (hi (v))) (by first | (simp [go_sem]; done) | (simp [go_sem, *]; done)); have c2_0_2 := hb2.get (b := w.heap.size) (o := 2) (v := .int .u64 (lo (v))) (by first | (simp [go_sem]; done) | (simp [go_sem, *]; done)); clear hz2))
    go_wp2
    go_ret
    exact ⟨by rw [HH.out]; rfl, by repeat (first | with_reducible exact Fr.refl _ | with_reducible apply Fr.drewN | with_reducible apply Fr.drew | with_reducible apply Fr.alloc | (with_reducible refine Fr.set ?_ (by simp; try omega) _) | (with_reducible refine Fr.call ?_ (by assumption)))⟩
set_option maxHeartbeats 4000000 in
theorem normal_out (W v : Int) (h0 : W < 1 ∨ 128 < W) (w : World) :
    Calls Try.prog 8 #[bv W v] w fun e w' => e = .returned (.bool false) ∧ Fr w w' := by
  rcases h0 with h0 | h0
  · have g : decide (1 ≤ W) = false := by simp; omega
    go_enter Try.func8, Try.ntmps8
    go_wp2_with fail
    go_quiet (fail)
    go_wp2
    go_ret
    exact ⟨rfl, by repeat (first | with_reducible exact Fr.refl _ | with_reducible apply Fr.drewN | with_reducible apply Fr.drew | with_reducible apply Fr.alloc | (with_reducible refine Fr.set ?_ (by simp; try omega) _) | (with_reducible refine Fr.call ?_ (by assumption)))⟩
  · have g : decide (1 ≤ W) = true := by simp; omega
    have g2 : decide (W ≤ 128) = false := by simp; omega
    go_enter Try.func8, Try.ntmps8
    go_wp2_with fail
    go_quiet (fail)
    go_wp2
    go_ret
    exact ⟨rfl, by repeat (first | with_reducible exact Fr.refl _ | with_reducible apply Fr.drewN | with_reducible apply Fr.drew | with_reducible apply Fr.alloc | (with_reducible refine Fr.set ?_ (by simp; try omega) _) | (with_reducible refine Fr.call ?_ (by assumption)))⟩
theorem normal_any (W v : Int) (v0 : 0 ≤ v) (v1 : v < 340282366920938463463374607431768211456) (w : World) :
    Calls Try.prog 8 #[bv W v] w fun e w' => e = .returned (.bool (normB W v)) ∧ Fr w w' := by
  by_cases h : 1 ≤ W ∧ W ≤ 128
  · exact normal_in W v h.1 h.2 v0 v1 w
  · have e : normB W v = false := by unfold normB; exact decide_eq_false (by omega)
    rw [e]
    exact normal_out W v (by omega) w
end Go.Proofs.Ytglgbhlnfafhjaa
