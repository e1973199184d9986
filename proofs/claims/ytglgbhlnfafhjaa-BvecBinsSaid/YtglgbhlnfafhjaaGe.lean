/- Contracts of package bvec's reckon and lessSigned: every input. -/
import Derived.Test.YtglgbhlnfafhjaaMidb
namespace Go.Proofs.Ytglgbhlnfafhjaa
open Go.RowKit

set_option maxHeartbeats 4000000 in
theorem reckon_1 (a b : Int) (w : World) :
    Calls Try.prog 12 #[.int .i64 1, wv a, wv b] w fun e w' => e = .returned (wv (a + b)) ∧ Fr w w' := by
  go_enter Try.func12, Try.ntmps12
  go_wp2_with fail
  refine (wadd_any _ _ _).mono ?_
  rintro e w1 ⟨rfl, hb1⟩
  have hz1 := hb1.size
  (try simp at hz1)
  have z1_0 : w.heap.size < w1.heap.size := (by omega)
  have c1_0_0 := hb1.get (b := w.heap.size) (o := 0) (v := .int .u64 (hi (a))) (by first | (simp [go_sem]; done) | (simp [go_sem, *]; done))
  have c1_0_1 := hb1.get (b := w.heap.size) (o := 1) (v := .int .u64 (lo (a))) (by first | (simp [go_sem]; done) | (simp [go_sem, *]; done))
  have z1_1 : w.heap.size + 1 < w1.heap.size := (by omega)
  have c1_1_0 := hb1.get (b := w.heap.size + 1) (o := 0) (v := .int .u64 (hi (b))) (by first | (simp [go_sem]; done) | (simp [go_sem, *]; done))
  have c1_1_1 := hb1.get (b := w.heap.size + 1) (o := 1) (v := .int .u64 (lo (b))) (by first | (simp [go_sem]; done) | (simp [go_sem, *]; done))
  have z1_2 : w.heap.size + 1 + 1 < w1.heap.size := (by omega)
  have c1_2_0 := hb1.get (b := w.heap.size + 1 + 1) (o := 0) (v := .int .u64 0) (by first | (simp [go_sem]; done) | (simp [go_sem, *]; done))
  have f1_2_0 := hb1.free (b := w.heap.size + 1 + 1) (o := 0) (v := .int .u64 0) (by first | (simp [go_sem]; done) | (simp [go_sem, *]; done)) (by first | (simp [go_sem]; done) | (simp [go_sem, *]; done))
  have c1_2_1 := hb1.get (b := w.heap.size + 1 + 1) (o := 1) (v := .int .u64 0) (by first | (simp [go_sem]; done) | (simp [go_sem, *]; done))
  have f1_2_1 := hb1.free (b := w.heap.size + 1 + 1) (o := 1) (v := .int .u64 0) (by first | (simp [go_sem]; done) | (simp [go_sem, *]; done)) (by first | (simp [go_sem]; done) | (simp [go_sem, *]; done))
  clear hz1
  go_wp2
  exact bodyPost_ret (v := wv (a + b)) (by simp [results, Try.results12, go_sem, *]) rfl ⟨rfl, by repeat (first | with_reducible exact Fr.refl _ | with_reducible apply Fr.drewN | with_reducible apply Fr.drew | with_reducible apply Fr.alloc | (with_reducible refine Fr.set ?_ (by simp; try omega) _) | (with_reducible refine Fr.call ?_ (by assumption)))⟩
set_option maxHeartbeats 4000000 in
theorem reckon_2 (a b : Int) (w : World) :
    Calls Try.prog 12 #[.int .i64 2, wv a, wv b] w fun e w' => e = .returned (wv (a - b)) ∧ Fr w w' := by
  go_enter Try.func12, Try.ntmps12
  go_wp2_with fail
  refine (wsub_any _ _ _).mono ?_
  rintro e w1 ⟨rfl, hb1⟩
  have hz1 := hb1.size
  (try simp at hz1)
  have z1_0 : w.heap.size < w1.heap.size := (by omega)
  have c1_0_0 := hb1.get (b := w.heap.size) (o := 0) (v := .int .u64 (hi (a))) (by first | (simp [go_sem]; done) | (simp [go_sem, *]; done))
  have c1_0_1 := hb1.get (b := w.heap.size) (o := 1) (v := .int .u64 (lo (a))) (by first | (simp [go_sem]; done) | (simp [go_sem, *]; done))
  have z1_1 : w.heap.size + 1 < w1.heap.size := (by omega)
  have c1_1_0 := hb1.get (b := w.heap.size + 1) (o := 0) (v := .int .u64 (hi (b))) (by first | (simp [go_sem]; done) | (simp [go_sem, *]; done))
  have c1_1_1 := hb1.get (b := w.heap.size + 1) (o := 1) (v := .int .u64 (lo (b))) (by first | (simp [go_sem]; done) | (simp [go_sem, *]; done))
  have z1_2 : w.heap.size + 1 + 1 < w1.heap.size := (by omega)
  have c1_2_0 := hb1.get (b := w.heap.size + 1 + 1) (o := 0) (v := .int .u64 0) (by first | (simp [go_sem]; done) | (simp [go_sem, *]; done))
  have f1_2_0 := hb1.free (b := w.heap.size + 1 + 1) (o := 0) (v := .int .u64 0) (by first | (simp [go_sem]; done) | (simp [go_sem, *]; done)) (by first | (simp [go_sem]; done) | (simp [go_sem, *]; done))
  have c1_2_1 := hb1.get (b := w.heap.size + 1 + 1) (o := 1) (v := .int .u64 0) (by first | (simp [go_sem]; done) | (simp [go_sem, *]; done))
  have f1_2_1 := hb1.free (b := w.heap.size + 1 + 1) (o := 1) (v := .int .u64 0) (by first | (simp [go_sem]; done) | (simp [go_sem, *]; done)) (by first | (simp [go_sem]; done) | (simp [go_sem, *]; done))
  clear hz1
  go_wp2
  exact bodyPost_ret (v := wv (a - b)) (by simp [results, Try.results12, go_sem, *]) rfl ⟨rfl, by repeat (first | with_reducible exact Fr.refl _ | with_reducible apply Fr.drewN | with_reducible apply Fr.drew | with_reducible apply Fr.alloc | (with_reducible refine Fr.set ?_ (by simp; try omega) _) | (with_reducible refine Fr.call ?_ (by assumption)))⟩
set_option maxHeartbeats 4000000 in
theorem reckon_3 (a b : Int) (w : World) :
    Calls Try.prog 12 #[.int .i64 3, wv a, wv b] w fun e w' => e = .returned (wv (a * b)) ∧ Fr w w' := by
  go_enter Try.func12, Try.ntmps12
  go_wp2_with fail
  refine (wmul_any _ _ _).mono ?_
  rintro e w1 ⟨rfl, hb1⟩
  have hz1 := hb1.size
  (try simp at hz1)
  have z1_0 : w.heap.size < w1.heap.size := (by omega)
  have c1_0_0 := hb1.get (b := w.heap.size) (o := 0) (v := .int .u64 (hi (a))) (by first | (simp [go_sem]; done) | (simp [go_sem, *]; done))
  have c1_0_1 := hb1.get (b := w.heap.size) (o := 1) (v := .int .u64 (lo (a))) (by first | (simp [go_sem]; done) | (simp [go_sem, *]; done))
  have z1_1 : w.heap.size + 1 < w1.heap.size := (by omega)
  have c1_1_0 := hb1.get (b := w.heap.size + 1) (o := 0) (v := .int .u64 (hi (b))) (by first | (simp [go_sem]; done) | (simp [go_sem, *]; done))
  have c1_1_1 := hb1.get (b := w.heap.size + 1) (o := 1) (v := .int .u64 (lo (b))) (by first | (simp [go_sem]; done) | (simp [go_sem, *]; done))
  have z1_2 : w.heap.size + 1 + 1 < w1.heap.size := (by omega)
  have c1_2_0 := hb1.get (b := w.heap.size + 1 + 1) (o := 0) (v := .int .u64 0) (by first | (simp [go_sem]; done) | (simp [go_sem, *]; done))
  have f1_2_0 := hb1.free (b := w.heap.size + 1 + 1) (o := 0) (v := .int .u64 0) (by first | (simp [go_sem]; done) | (simp [go_sem, *]; done)) (by first | (simp [go_sem]; done) | (simp [go_sem, *]; done))
  have c1_2_1 := hb1.get (b := w.heap.size + 1 + 1) (o := 1) (v := .int .u64 0) (by first | (simp [go_sem]; done) | (simp [go_sem, *]; done))
  have f1_2_1 := hb1.free (b := w.heap.size + 1 + 1) (o := 1) (v := .int .u64 0) (by first | (simp [go_sem]; done) | (simp [go_sem, *]; done)) (by first | (simp [go_sem]; done) | (simp [go_sem, *]; done))
  clear hz1
  go_wp2
  exact bodyPost_ret (v := wv (a * b)) (by simp [results, Try.results12, go_sem, *]) rfl ⟨rfl, by repeat (first | with_reducible exact Fr.refl _ | with_reducible apply Fr.drewN | with_reducible apply Fr.drew | with_reducible apply Fr.alloc | (with_reducible refine Fr.set ?_ (by simp; try omega) _) | (with_reducible refine Fr.call ?_ (by assumption)))⟩
set_option maxHeartbeats 4000000 in
theorem reckon_4 (a b : Int) (w : World) :
    Calls Try.prog 12 #[.int .i64 4, wv a, wv b] w fun e w' => e = .returned (wv (landI a b)) ∧ Fr w w' := by
  go_enter Try.func12, Try.ntmps12
  go_wp2_with fail
  refine (wand_any _ _ _).mono ?_
  rintro e w1 ⟨rfl, hb1⟩
  have hz1 := hb1.size
  (try simp at hz1)
  have z1_0 : w.heap.size < w1.heap.size := (by omega)
  have c1_0_0 := hb1.get (b := w.heap.size) (o := 0) (v := .int .u64 (hi (a))) (by first | (simp [go_sem]; done) | (simp [go_sem, *]; done))
  have c1_0_1 := hb1.get (b := w.heap.size) (o := 1) (v := .int .u64 (lo (a))) (by first | (simp [go_sem]; done) | (simp [go_sem, *]; done))
  have z1_1 : w.heap.size + 1 < w1.heap.size := (by omega)
  have c1_1_0 := hb1.get (b := w.heap.size + 1) (o := 0) (v := .int .u64 (hi (b))) (by first | (simp [go_sem]; done) | (simp [go_sem, *]; done))
  have c1_1_1 := hb1.get (b := w.heap.size + 1) (o := 1) (v := .int .u64 (lo (b))) (by first | (simp [go_sem]; done) | (simp [go_sem, *]; done))
  have z1_2 : w.heap.size + 1 + 1 < w1.heap.size := (by omega)
  have c1_2_0 := hb1.get (b := w.heap.size + 1 + 1) (o := 0) (v := .int .u64 0) (by first | (simp [go_sem]; done) | (simp [go_sem, *]; done))
  have f1_2_0 := hb1.free (b := w.heap.size + 1 + 1) (o := 0) (v := .int .u64 0) (by first | (simp [go_sem]; done) | (simp [go_sem, *]; done)) (by first | (simp [go_sem]; done) | (simp [go_sem, *]; done))
  have c1_2_1 := hb1.get (b := w.heap.size + 1 + 1) (o := 1) (v := .int .u64 0) (by first | (simp [go_sem]; done) | (simp [go_sem, *]; done))
  have f1_2_1 := hb1.free (b := w.heap.size + 1 + 1) (o := 1) (v := .int .u64 0) (by first | (simp [go_sem]; done) | (simp [go_sem, *]; done)) (by first | (simp [go_sem]; done) | (simp [go_sem, *]; done))
  clear hz1
  go_wp2
  exact bodyPost_ret (v := wv (landI a b)) (by simp [results, Try.results12, go_sem, *]) rfl ⟨rfl, by repeat (first | with_reducible exact Fr.refl _ | with_reducible apply Fr.drewN | with_reducible apply Fr.drew | with_reducible apply Fr.alloc | (with_reducible refine Fr.set ?_ (by simp; try omega) _) | (with_reducible refine Fr.call ?_ (by assumption)))⟩
set_option maxHeartbeats 4000000 in
theorem reckon_5 (a b : Int) (w : World) :
    Calls Try.prog 12 #[.int .i64 5, wv a, wv b] w fun e w' => e = .returned (wv (lorI a b)) ∧ Fr w w' := by
  go_enter Try.func12, Try.ntmps12
  go_wp2_with fail
  refine (wor_any _ _ _).mono ?_
  rintro e w1 ⟨rfl, hb1⟩
  have hz1 := hb1.size
  (try simp at hz1)
  have z1_0 : w.heap.size < w1.heap.size := (by omega)
  have c1_0_0 := hb1.get (b := w.heap.size) (o := 0) (v := .int .u64 (hi (a))) (by first | (simp [go_sem]; done) | (simp [go_sem, *]; done))
  have c1_0_1 := hb1.get (b := w.heap.size) (o := 1) (v := .int .u64 (lo (a))) (by first | (simp [go_sem]; done) | (simp [go_sem, *]; done))
  have z1_1 : w.heap.size + 1 < w1.heap.size := (by omega)
  have c1_1_0 := hb1.get (b := w.heap.size + 1) (o := 0) (v := .int .u64 (hi (b))) (by first | (simp [go_sem]; done) | (simp [go_sem, *]; done))
  have c1_1_1 := hb1.get (b := w.heap.size + 1) (o := 1) (v := .int .u64 (lo (b))) (by first | (simp [go_sem]; done) | (simp [go_sem, *]; done))
  have z1_2 : w.heap.size + 1 + 1 < w1.heap.size := (by omega)
  have c1_2_0 := hb1.get (b := w.heap.size + 1 + 1) (o := 0) (v := .int .u64 0) (by first | (simp [go_sem]; done) | (simp [go_sem, *]; done))
  have f1_2_0 := hb1.free (b := w.heap.size + 1 + 1) (o := 0) (v := .int .u64 0) (by first | (simp [go_sem]; done) | (simp [go_sem, *]; done)) (by first | (simp [go_sem]; done) | (simp [go_sem, *]; done))
  have c1_2_1 := hb1.get (b := w.heap.size + 1 + 1) (o := 1) (v := .int .u64 0) (by first | (simp [go_sem]; done) | (simp [go_sem, *]; done))
  have f1_2_1 := hb1.free (b := w.heap.size + 1 + 1) (o := 1) (v := .int .u64 0) (by first | (simp [go_sem]; done) | (simp [go_sem, *]; done)) (by first | (simp [go_sem]; done) | (simp [go_sem, *]; done))
  clear hz1
  go_wp2
  exact bodyPost_ret (v := wv (lorI a b)) (by simp [results, Try.results12, go_sem, *]) rfl ⟨rfl, by repeat (first | with_reducible exact Fr.refl _ | with_reducible apply Fr.drewN | with_reducible apply Fr.drew | with_reducible apply Fr.alloc | (with_reducible refine Fr.set ?_ (by simp; try omega) _) | (with_reducible refine Fr.call ?_ (by assumption)))⟩
set_option maxHeartbeats 4000000 in
theorem reckon_6 (a b : Int) (w : World) :
    Calls Try.prog 12 #[.int .i64 6, wv a, wv b] w fun e w' => e = .returned (wv (lxorI a b)) ∧ Fr w w' := by
  go_enter Try.func12, Try.ntmps12
  go_wp2_with fail
  refine (wxor_any _ _ _).mono ?_
  rintro e w1 ⟨rfl, hb1⟩
  have hz1 := hb1.size
  (try simp at hz1)
  have z1_0 : w.heap.size < w1.heap.size := (by omega)
  have c1_0_0 := hb1.get (b := w.heap.size) (o := 0) (v := .int .u64 (hi (a))) (by first | (simp [go_sem]; done) | (simp [go_sem, *]; done))
  have c1_0_1 := hb1.get (b := w.heap.size) (o := 1) (v := .int .u64 (lo (a))) (by first | (simp [go_sem]; done) | (simp [go_sem, *]; done))
  have z1_1 : w.heap.size + 1 < w1.heap.size := (by omega)
  have c1_1_0 := hb1.get (b := w.heap.size + 1) (o := 0) (v := .int .u64 (hi (b))) (by first | (simp [go_sem]; done) | (simp [go_sem, *]; done))
  have c1_1_1 := hb1.get (b := w.heap.size + 1) (o := 1) (v := .int .u64 (lo (b))) (by first | (simp [go_sem]; done) | (simp [go_sem, *]; done))
  have z1_2 : w.heap.size + 1 + 1 < w1.heap.size := (by omega)
  have c1_2_0 := hb1.get (b := w.heap.size + 1 + 1) (o := 0) (v := .int .u64 0) (by first | (simp [go_sem]; done) | (simp [go_sem, *]; done))
  have f1_2_0 := hb1.free (b := w.heap.size + 1 + 1) (o := 0) (v := .int .u64 0) (by first | (simp [go_sem]; done) | (simp [go_sem, *]; done)) (by first | (simp [go_sem]; done) | (simp [go_sem, *]; done))
  have c1_2_1 := hb1.get (b := w.heap.size + 1 + 1) (o := 1) (v := .int .u64 0) (by first | (simp [go_sem]; done) | (simp [go_sem, *]; done))
  have f1_2_1 := hb1.free (b := w.heap.size + 1 + 1) (o := 1) (v := .int .u64 0) (by first | (simp [go_sem]; done) | (simp [go_sem, *]; done)) (by first | (simp [go_sem]; done) | (simp [go_sem, *]; done))
  clear hz1
  go_wp2
  exact bodyPost_ret (v := wv (lxorI a b)) (by simp [results, Try.results12, go_sem, *]) rfl ⟨rfl, by repeat (first | with_reducible exact Fr.refl _ | with_reducible apply Fr.drewN | with_reducible apply Fr.drew | with_reducible apply Fr.alloc | (with_reducible refine Fr.set ?_ (by simp; try omega) _) | (with_reducible refine Fr.call ?_ (by assumption)))⟩
set_option maxHeartbeats 4000000 in
theorem lessSigned_any (a b : Int) (w : World) :
    Calls Try.prog 19 #[wv a, wv b] w fun e w' => e = .returned (.bool (if negB a != negB b then negB a else ltB a b)) ∧ Fr w w' := by
  cases h : negB a <;> cases k : negB b
  all_goals
    have H := Lib.hid h; have K := Lib.hid k; clear h k
    go_enter Try.func19, Try.ntmps19
    go_wp2_with fail
    go_region_held3 (fun w' => w'.cell? ⟨w.heap.size, 0, none⟩ = some (.int .u64 (hi (a))) ∧ w'.cell? ⟨w.heap.size, 1, none⟩ = some (.int .u64 (lo (a))) ∧ w'.cell? ⟨w.heap.size + 1, 0, none⟩ = some (.int .u64 (hi (b))) ∧ w'.cell? ⟨w.heap.size + 1, 1, none⟩ = some (.int .u64 (lo (b)))) (simp [go_sem, *])
     (first
      | (go_at_call_of 36 (hi a); refine (below0_any _ _).mono ?_; rintro e w1 ⟨rfl, hb1⟩; have hz1 := hb1.size; (try simp at hz1); have z1_0 : w.heap.size < w1.heap.size := (by omega); have c1_0_0 := hb1.get (b := w.heap.size) (o := 0) (v := .int .u64 (hi (a))) (by first | (simp [go_sem]; done) | (simp [go_sem, *]; done)); have c1_0_1 := hb1.get (b := w.heap.size) (o := 1) (v := .int .u64 (lo (a))) (by first | (simp [go_sem]; done) | (simp [go_sem, *]; done)); have z1_1 : w.heap.size + 1 < w1.heap.size := (by omega); have c1_1_0 := hb1.get (b := w.heap.size + 1) (o := 0) (v := .int .u64 (hi (b))) (by first | (simp [go_sem]; done) | (simp [go_sem, *]; done)); have c1_1_1 := hb1.get (b := w.heap.size + 1) (o := 1) (v := .int .u64 (lo (b))) (by first | (simp [go_sem]; done) | (simp [go_sem, *]; done)); clear hz1; rw [H.out])
      | (go_at_call_of 36 (hi b); refine (below0_any _ _).mono ?_; rintro e w2 ⟨rfl, hb2⟩; have hz2 := hb2.size; (try simp at hz2); have z2_0 : w.heap.size < w2.heap.size := (by omega); have c2_0_0 := hb2.get (b := w.heap.size) (o := 0) (v := .int .u64 (hi (a))) (by first | (simp [go_sem]; done) | (simp [go_sem, *]; done)); have c2_0_1 := hb2.get (b := w.heap.size) (o := 1) (v := .int .u64 (lo (a))) (by first | (simp [go_sem]; done) | (simp [go_sem, *]; done)); have z2_1 : w.heap.size + 1 < w2.heap.size := (by omega); have c2_1_0 := hb2.get (b := w.heap.size + 1) (o := 0) (v := .int .u64 (hi (b))) (by first | (simp [go_sem]; done) | (simp [go_sem, *]; done)); have c2_1_1 := hb2.get (b := w.heap.size + 1) (o := 1) (v := .int .u64 (lo (b))) (by first | (simp [go_sem]; done) | (simp [go_sem, *]; done)); clear hz2; rw [K.out]))
    go_wp2_with (first | (go_at_call 36; refine (below0_any _ _).mono ?_; rintro e w3 ⟨rfl, hb3⟩; rw [H.out]) | (go_at_call 18; refine (wless_any _ _ _).mono ?_; rintro e w4 ⟨rfl, hb4⟩))
    go_ret
    exact ⟨rfl, by repeat (first | with_reducible exact Fr.refl _ | with_reducible apply Fr.drewN | with_reducible apply Fr.drew | with_reducible apply Fr.alloc | (with_reducible refine Fr.set ?_ (by simp; try omega) _) | (with_reducible refine Fr.call ?_ (by assumption)))⟩
end Go.Proofs.Ytglgbhlnfafhjaa
