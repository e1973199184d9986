/- Contracts of the middle functions of package bvec (ones, neg, abs, value, cut, signed and others): no condition but the widths that they are called with. -/
import Derived.Test.YtglgbhlnfafhjaaLeaf
import Derived.Deep.RegionHeld3
import Derived.Deep.RegionWith
namespace Go.Proofs.Ytglgbhlnfafhjaa
open Go.RowKit

set_option maxHeartbeats 4000000 in
theorem wones_any (n : Int) (h0 : 0 ≤ n) (h1 : n ≤ 128) (w : World) :
    Calls Try.prog 38 #[.int .i64 n] w fun e w' => e = .returned (wv (2 ^ n.toNat - 1)) ∧ Fr w w' := by
  have k := shrI_ones n.toNat (by omega)
  have k2 : (128 - n).toNat = 128 - n.toNat := by omega
  rw [← k2] at k
  have K := Lib.hid k; clear k k2
  go_enter Try.func38, Try.ntmps38
  go_wp2_with fail
  refine (wnot_zero _).mono ?_
  rintro e w1 ⟨rfl, hb1⟩
  have hz1 := hb1.size
  (try simp at hz1)
  have z1_0 : w.heap.size < w1.heap.size := (by omega)
  have c1_0_0 := hb1.get (b := w.heap.size) (o := 0) (v := .int .u64 0) (by first | (simp [go_sem]; done) | (simp [go_sem, *]; done))
  have f1_0_0 := hb1.free (b := w.heap.size) (o := 0) (v := .int .u64 0) (by first | (simp [go_sem]; done) | (simp [go_sem, *]; done)) (by first | (simp [go_sem]; done) | (simp [go_sem, *]; done))
  have c1_0_1 := hb1.get (b := w.heap.size) (o := 1) (v := .int .u64 0) (by first | (simp [go_sem]; done) | (simp [go_sem, *]; done))
  have f1_0_1 := hb1.free (b := w.heap.size) (o := 1) (v := .int .u64 0) (by first | (simp [go_sem]; done) | (simp [go_sem, *]; done)) (by first | (simp [go_sem]; done) | (simp [go_sem, *]; done))
  clear hz1
  go_wp2_with fail
  refine (wshr_any _ _ (by omega) (by omega) _).mono ?_
  rintro e w2 ⟨rfl, hb2⟩
  have hz2 := hb2.size
  (try simp at hz2)
  have z2_0 : w.heap.size < w2.heap.size := (by omega)
  have c2_0_0 := hb2.get (b := w.heap.size) (o := 0) (v := .int .u64 0) (by first | (simp [go_sem]; done) | (simp [go_sem, *]; done))
  have f2_0_0 := hb2.free (b := w.heap.size) (o := 0) (v := .int .u64 0) (by first | (simp [go_sem]; done) | (simp [go_sem, *]; done)) (by first | (simp [go_sem]; done) | (simp [go_sem, *]; done))
  have c2_0_1 := hb2.get (b := w.heap.size) (o := 1) (v := .int .u64 0) (by first | (simp [go_sem]; done) | (simp [go_sem, *]; done))
  have f2_0_1 := hb2.free (b := w.heap.size) (o := 1) (v := .int .u64 0) (by first | (simp [go_sem]; done) | (simp [go_sem, *]; done)) (by first | (simp [go_sem]; done) | (simp [go_sem, *]; done))
  clear hz2
  rw [K.out]
  go_wp2
  exact bodyPost_ret (v := wv (2 ^ n.toNat - 1)) (by simp [results, Try.results38, go_sem, *]) rfl ⟨rfl, by repeat (first | with_reducible exact Fr.refl _ | with_reducible apply Fr.drewN | with_reducible apply Fr.drew | with_reducible apply Fr.alloc | (with_reducible refine Fr.set ?_ (by simp; try omega) _) | (with_reducible refine Fr.call ?_ (by assumption)))⟩
def absI (a : Int) : Int := if negB a then -a else a
set_option maxHeartbeats 4000000 in
theorem wabs_any (a : Int) (w : World) :
    Calls Try.prog 46 #[wv a] w fun e w' => e = .returned (wv (absI a)) ∧ Fr w w' := by
  cases h : negB a
  · have H := Lib.hid h
    have H2 : Hid (absI a = a) := by unfold absI; rw [h]; rfl
    clear h
    go_enter Try.func46, Try.ntmps46
    go_wp2_with fail
    refine (below0_any _ _).mono ?_
    rintro e w1 ⟨rfl, hb1⟩
    have hz1 := hb1.size
    (try simp at hz1)
    have z1_0 : w.heap.size < w1.heap.size := (by omega)
    have c1_0_0 := hb1.get (b := w.heap.size) (o := 0) (v := .int .u64 (hi (a))) (by first | (simp [go_sem]; done) | (simp [go_sem, *]; done))
    have c1_0_1 := hb1.get (b := w.heap.size) (o := 1) (v := .int .u64 (lo (a))) (by first | (simp [go_sem]; done) | (simp [go_sem, *]; done))
    have z1_1 : w.heap.size + 1 < w1.heap.size := (by omega)
    have c1_1_0 := hb1.get (b := w.heap.size + 1) (o := 0) (v := .int .u64 0) (by first | (simp [go_sem]; done) | (simp [go_sem, *]; done))
    have f1_1_0 := hb1.free (b := w.heap.size + 1) (o := 0) (v := .int .u64 0) (by first | (simp [go_sem]; done) | (simp [go_sem, *]; done)) (by first | (simp [go_sem]; done) | (simp [go_sem, *]; done))
    have c1_1_1 := hb1.get (b := w.heap.size + 1) (o := 1) (v := .int .u64 0) (by first | (simp [go_sem]; done) | (simp [go_sem, *]; done))
    have f1_1_1 := hb1.free (b := w.heap.size + 1) (o := 1) (v := .int .u64 0) (by first | (simp [go_sem]; done) | (simp [go_sem, *]; done)) (by first | (simp [go_sem]; done) | (simp [go_sem, *]; done))
    clear hz1
    rw [H.out]
    go_wp2
    rw [H2.out]
    exact bodyPost_ret (v := wv a) (by simp [results, Try.results46, go_sem, *]) rfl ⟨rfl, by repeat (first | with_reducible exact Fr.refl _ | with_reducible apply Fr.drewN | with_reducible apply Fr.drew | with_reducible apply Fr.alloc | (with_reducible refine Fr.set ?_ (by simp; try omega) _) | (with_reducible refine Fr.call ?_ (by assumption)))⟩
  · have H := Lib.hid h
    have H2 : Hid (absI a = -a) := by unfold absI; rw [h]; rfl
    clear h
    go_enter Try.func46, Try.ntmps46
    go_wp2_with fail
    refine (below0_any _ _).mono ?_
    rintro e w1 ⟨rfl, hb1⟩
    have hz1 := hb1.size
    (try simp at hz1)
    have z1_0 : w.heap.size < w1.heap.size := (by omega)
    have c1_0_0 := hb1.get (b := w.heap.size) (o := 0) (v := .int .u64 (hi (a))) (by first | (simp [go_sem]; done) | (simp [go_sem, *]; done))
    have c1_0_1 := hb1.get (b := w.heap.size) (o := 1) (v := .int .u64 (lo (a))) (by first | (simp [go_sem]; done) | (simp [go_sem, *]; done))
    have z1_1 : w.heap.size + 1 < w1.heap.size := (by omega)
    have c1_1_0 := hb1.get (b := w.heap.size + 1) (o := 0) (v := .int .u64 0) (by first | (simp [go_sem]; done) | (simp [go_sem, *]; done))
    have f1_1_0 := hb1.free (b := w.heap.size + 1) (o := 0) (v := .int .u64 0) (by first | (simp [go_sem]; done) | (simp [go_sem, *]; done)) (by first | (simp [go_sem]; done) | (simp [go_sem, *]; done))
    have c1_1_1 := hb1.get (b := w.heap.size + 1) (o := 1) (v := .int .u64 0) (by first | (simp [go_sem]; done) | (simp [go_sem, *]; done))
    have f1_1_1 := hb1.free (b := w.heap.size + 1) (o := 1) (v := .int .u64 0) (by first | (simp [go_sem]; done) | (simp [go_sem, *]; done)) (by first | (simp [go_sem]; done) | (simp [go_sem, *]; done))
    clear hz1
    rw [H.out]
    go_wp2_with fail
    refine (wneg_any _ _).mono ?_
    rintro e w2 ⟨rfl, hb2⟩
    have hz2 := hb2.size
    (try simp at hz2)
    have z2_0 : w.heap.size < w2.heap.size := (by omega)
    have c2_0_0 := hb2.get (b := w.heap.size) (o := 0) (v := .int .u64 (hi (a))) (by first | (simp [go_sem]; done) | (simp [go_sem, *]; done))
    have c2_0_1 := hb2.get (b := w.heap.size) (o := 1) (v := .int .u64 (lo (a))) (by first | (simp [go_sem]; done) | (simp [go_sem, *]; done))
    have z2_1 : w.heap.size + 1 < w2.heap.size := (by omega)
    have c2_1_0 := hb2.get (b := w.heap.size + 1) (o := 0) (v := .int .u64 0) (by first | (simp [go_sem]; done) | (simp [go_sem, *]; done))
    have f2_1_0 := hb2.free (b := w.heap.size + 1) (o := 0) (v := .int .u64 0) (by first | (simp [go_sem]; done) | (simp [go_sem, *]; done)) (by first | (simp [go_sem]; done) | (simp [go_sem, *]; done))
    have c2_1_1 := hb2.get (b := w.heap.size + 1) (o := 1) (v := .int .u64 0) (by first | (simp [go_sem]; done) | (simp [go_sem, *]; done))
    have f2_1_1 := hb2.free (b := w.heap.size + 1) (o := 1) (v := .int .u64 0) (by first | (simp [go_sem]; done) | (simp [go_sem, *]; done)) (by first | (simp [go_sem]; done) | (simp [go_sem, *]; done))
    clear hz2
    go_wp2
    rw [H2.out]
    exact bodyPost_ret (v := wv (-a)) (by simp [results, Try.results46, go_sem, *]) rfl ⟨rfl, by repeat (first | with_reducible exact Fr.refl _ | with_reducible apply Fr.drewN | with_reducible apply Fr.drew | with_reducible apply Fr.alloc | (with_reducible refine Fr.set ?_ (by simp; try omega) _) | (with_reducible refine Fr.call ?_ (by assumption)))⟩
set_option maxHeartbeats 4000000 in
theorem value_any (W v : Int) (w : World) :
    Calls Try.prog 13 #[bv W v] w fun e w' => e = .returned (wv v) ∧ Fr w w' := by
  go_enter Try.func13, Try.ntmps13
  go_wp2
  exact bodyPost_ret (v := wv v) (by simp [results, Try.results13, go_sem, *]) rfl ⟨rfl, by repeat (first | with_reducible exact Fr.refl _ | with_reducible apply Fr.drewN | with_reducible apply Fr.drew | with_reducible apply Fr.alloc | (with_reducible refine Fr.set ?_ (by simp; try omega) _) | (with_reducible refine Fr.call ?_ (by assumption)))⟩
set_option maxHeartbeats 4000000 in
theorem cut_any (W v : Int) (h0 : 1 ≤ W) (h1 : W ≤ 128) (w : World) :
    Calls Try.prog 11 #[.int .i64 W, wv v] w fun e w' => e = .returned (bv W (landI v (2 ^ W.toNat - 1))) ∧ Fr w w' := by
  go_enter Try.func11, Try.ntmps11
  go_wp2_with fail
  go_region_with (first
      | (go_at_call 38; refine (wones_any _ (by omega) (by omega) _).mono ?_; rintro e w1 ⟨rfl, hb1⟩; have hz1 := hb1.size; (try simp at hz1); have z1_0 : w.heap.size < w1.heap.size := (by omega); have c1_0_0 := hb1.get (b := w.heap.size) (o := 0) (v := .int .u64 (hi (v))) (by first | (simp [go_sem]; done) | (simp [go_sem, *]; done)); have f1_0_0 := hb1.free (b := w.heap.size) (o := 0) (v := .int .u64 (hi (v))) (by first | (simp [go_sem]; done) | (simp [go_sem, *]; done)) (by first | (simp [go_sem]; done) | (simp [go_sem, *]; done)); have c1_0_1 := hb1.get (b := w.heap.size) (o := 1) (v := .int .u64 (lo (v))) (by first | (simp [go_sem]; done) | (simp [go_sem, *]; done)); have f1_0_1 := hb1.free (b := w.heap.size) (o := 1) (v := .int .u64 (lo (v))) (by first | (simp [go_sem]; done) | (simp [go_sem, *]; done)) (by first | (simp [go_sem]; done) | (simp [go_sem, *]; done)); have z1_1 : w.heap.size + 1 < w1.heap.size := (by omega); have c1_1_0 := hb1.get (b := w.heap.size + 1) (o := 0) (v := .int .i64 0) (by first | (simp [go_sem]; done) | (simp [go_sem, *]; done)); have f1_1_0 := hb1.free (b := w.heap.size + 1) (o := 0) (v := .int .i64 0) (by first | (simp [go_sem]; done) | (simp [go_sem, *]; done)) (by first | (simp [go_sem]; done) | (simp [go_sem, *]; done)); have c1_1_1 := hb1.get (b := w.heap.size + 1) (o := 1) (v := .int .u64 0) (by first | (simp [go_sem]; done) | (simp [go_sem, *]; done)); have f1_1_1 := hb1.free (b := w.heap.size + 1) (o := 1) (v := .int .u64 0) (by first | (simp [go_sem]; done) | (simp [go_sem, *]; done)) (by first | (simp [go_sem]; done) | (simp [go_sem, *]; done)); have c1_1_2 := hb1.get (b := w.heap.size + 1) (o := 2) (v := .int .u64 0) (by first | (simp [go_sem]; done) | (simp [go_sem, *]; done)); have f1_1_2 := hb1.free (b := w.heap.size + 1) (o := 2) (v := .int .u64 0) (by first | (simp [go_sem]; done) | (simp [go_sem, *]; done)) (by first | (simp [go_sem]; done) | (simp [go_sem, *]; done)); clear hz1)
      | (go_at_call 40; refine (wand_any _ _ _).mono ?_; rintro e w2 ⟨rfl, hb2⟩; have hz2 := hb2.size; (try simp at hz2); have z2_0 : w.heap.size < w2.heap.size := (by omega); have c2_0_0 := hb2.get (b := w.heap.size) (o := 0) (v := .int .u64 (hi (v))) (by first | (simp [go_sem]; done) | (simp [go_sem, *]; done)); have f2_0_0 := hb2.free (b := w.heap.size) (o := 0) (v := .int .u64 (hi (v))) (by first | (simp [go_sem]; done) | (simp [go_sem, *]; done)) (by first | (simp [go_sem]; done) | (simp [go_sem, *]; done)); have c2_0_1 := hb2.get (b := w.heap.size) (o := 1) (v := .int .u64 (lo (v))) (by first | (simp [go_sem]; done) | (simp [go_sem, *]; done)); have f2_0_1 := hb2.free (b := w.heap.size) (o := 1) (v := .int .u64 (lo (v))) (by first | (simp [go_sem]; done) | (simp [go_sem, *]; done)) (by first | (simp [go_sem]; done) | (simp [go_sem, *]; done)); have z2_1 : w.heap.size + 1 < w2.heap.size := (by omega); have c2_1_0 := hb2.get (b := w.heap.size + 1) (o := 0) (v := .int .i64 0) (by first | (simp [go_sem]; done) | (simp [go_sem, *]; done)); have f2_1_0 := hb2.free (b := w.heap.size + 1) (o := 0) (v := .int .i64 0) (by first | (simp [go_sem]; done) | (simp [go_sem, *]; done)) (by first | (simp [go_sem]; done) | (simp [go_sem, *]; done)); have c2_1_1 := hb2.get (b := w.heap.size + 1) (o := 1) (v := .int .u64 0) (by first | (simp [go_sem]; done) | (simp [go_sem, *]; done)); have f2_1_1 := hb2.free (b := w.heap.size + 1) (o := 1) (v := .int .u64 0) (by first | (simp [go_sem]; done) | (simp [go_sem, *]; done)) (by first | (simp [go_sem]; done) | (simp [go_sem, *]; done)); have c2_1_2 := hb2.get (b := w.heap.size + 1) (o := 2) (v := .int .u64 0) (by first | (simp [go_sem]; done) | (simp [go_sem, *]; done)); have f2_1_2 := hb2.free (b := w.heap.size + 1) (o := 2) (v := .int .u64 0) (by first | (simp [go_sem]; done) | (simp [go_sem, *]; done)) (by first | (simp [go_sem]; done) | (simp [go_sem, *]; done)); clear hz2))
  all_goals go_wp2
  all_goals exact bodyPost_ret (v := bv W (landI v (2 ^ W.toNat - 1))) (by simp [results, Try.results11, go_sem, *]) rfl ⟨rfl, by repeat (first | with_reducible exact Fr.refl _ | with_reducible apply Fr.drewN | with_reducible apply Fr.drew | with_reducible apply Fr.alloc | (with_reducible refine Fr.set ?_ (by simp; try omega) _) | (with_reducible refine Fr.call ?_ (by assumption)))⟩
end Go.Proofs.Ytglgbhlnfafhjaa
