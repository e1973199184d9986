/- Contracts of package bvec's quoRem by one word, each under the contracts of what it calls. -/
import Derived.Test.YtglgbhlnfafhjaaMidb
import Derived.IntWalk
import Derived.Deep.DeepCutAuto
namespace Go.Proofs.Ytglgbhlnfafhjaa
open Go.RowKit

set_option maxRecDepth 100000 in
set_option maxHeartbeats 4000000 in
theorem quoRem_one (a b q r : Int) (hb : hi b = 0) (hl : lo b ≠ 0) (hd : ∀ w : World, Calls Try.prog 56 #[.int .u64 (hi a % lo b), .int .u64 (lo a), .int .u64 (lo b)] w fun e w' => e = .returned (.tuple #[.int .u64 q, .int .u64 r]) ∧ Fr w w') (w : World) :
    Calls Try.prog 45 #[wv a, wv b] w fun e w' => e = .returned (.tuple #[.agg #[.int .u64 (hi a / lo b), .int .u64 q], .agg #[.int .u64 0, .int .u64 r]]) ∧ Fr w w' := by
  have e1 : (hi b == 0) = true := beq_iff_eq.2 hb
  have e2 : (lo b == 0) = false := beq_eq_false_iff_ne.2 hl
  obtain ⟨a0, a1⟩ := hi_word a
  obtain ⟨b0, b1⟩ := lo_word b
  have hp : 0 < lo b := by omega
  have hn : ¬ lo b = 0 := hl
  clear hb hl
  have ht : (hi a).tmod (lo b) = hi a % lo b := Int.tmod_eq_emod_of_nonneg a0
  have HD : Hid _ := Lib.hid hd
  rw [← ht] at HD
  clear hd ht
  go_enter Try.func45, Try.ntmps45
  go_wp2_with fail
  go_region_held3 (fun w' => w'.cell? ⟨w.heap.size, 0, none⟩ = some (.int .u64 (hi (a))) ∧ w'.cell? ⟨w.heap.size, 1, none⟩ = some (.int .u64 (lo (a))) ∧ w'.cell? ⟨w.heap.size + 1, 0, none⟩ = some (.int .u64 (hi (b))) ∧ w'.cell? ⟨w.heap.size + 1, 1, none⟩ = some (.int .u64 (lo (b)))) (simp [go_sem, *])
    ((go_at_call 56; refine (HD.out _).mono ?_; rintro e w1 ⟨rfl, hb1⟩; have hz1 := hb1.size; (try simp at hz1); have z1_0 : w.heap.size < w1.heap.size := (by omega); have c1_0_0 := hb1.get (b := w.heap.size) (o := 0) (v := .int .u64 (hi (a))) (by first | (simp [go_sem]; done) | (simp [go_sem, *]; done)); have c1_0_1 := hb1.get (b := w.heap.size) (o := 1) (v := .int .u64 (lo (a))) (by first | (simp [go_sem]; done) | (simp [go_sem, *]; done)); have z1_1 : w.heap.size + 1 < w1.heap.size := (by omega); have c1_1_0 := hb1.get (b := w.heap.size + 1) (o := 0) (v := .int .u64 (hi (b))) (by first | (simp [go_sem]; done) | (simp [go_sem, *]; done)); have c1_1_1 := hb1.get (b := w.heap.size + 1) (o := 1) (v := .int .u64 (lo (b))) (by first | (simp [go_sem]; done) | (simp [go_sem, *]; done)); have z1_2 : w.heap.size + 1 + 1 < w1.heap.size := (by omega); have c1_2_0 := hb1.get (b := w.heap.size + 1 + 1) (o := 0) (v := .int .u64 0) (by first | (simp [go_sem]; done) | (simp [go_sem, *]; done)); have f1_2_0 := hb1.free (b := w.heap.size + 1 + 1) (o := 0) (v := .int .u64 0) (by first | (simp [go_sem]; done) | (simp [go_sem, *]; done)) (by first | (simp [go_sem]; done) | (simp [go_sem, *]; done)); have c1_2_1 := hb1.get (b := w.heap.size + 1 + 1) (o := 1) (v := .int .u64 0) (by first | (simp [go_sem]; done) | (simp [go_sem, *]; done)); have f1_2_1 := hb1.free (b := w.heap.size + 1 + 1) (o := 1) (v := .int .u64 0) (by first | (simp [go_sem]; done) | (simp [go_sem, *]; done)) (by first | (simp [go_sem]; done) | (simp [go_sem, *]; done)); have z1_3 : w.heap.size + 1 + 1 + 1 < w1.heap.size := (by omega); have c1_3_0 := hb1.get (b := w.heap.size + 1 + 1 + 1) (o := 0) (v := .int .u64 0) (by first | (simp [go_sem]; done) | (simp [go_sem, *]; done)); have f1_3_0 := hb1.free (b := w.heap.size + 1 + 1 + 1) (o := 0) (v := .int .u64 0) (by first | (simp [go_sem]; done) | (simp [go_sem, *]; done)) (by first | (simp [go_sem]; done) | (simp [go_sem, *]; done)); have c1_3_1 := hb1.get (b := w.heap.size + 1 + 1 + 1) (o := 1) (v := .int .u64 0) (by first | (simp [go_sem]; done) | (simp [go_sem, *]; done)); have f1_3_1 := hb1.free (b := w.heap.size + 1 + 1 + 1) (o := 1) (v := .int .u64 0) (by first | (simp [go_sem]; done) | (simp [go_sem, *]; done)) (by first | (simp [go_sem]; done) | (simp [go_sem, *]; done)); clear hz1))
  go_wp2
  exact bodyPost_ret (v := .tuple #[.agg #[.int .u64 (hi a / lo b), .int .u64 q], .agg #[.int .u64 0, .int .u64 r]]) (by simp [results, Try.results45, go_sem, *]) rfl ⟨rfl, by repeat (first | with_reducible exact Fr.refl _ | with_reducible apply Fr.drewN | with_reducible apply Fr.drew | with_reducible apply Fr.alloc | (with_reducible refine Fr.set ?_ (by simp; try omega) _) | (with_reducible refine Fr.call ?_ (by assumption)))⟩
end Go.Proofs.Ytglgbhlnfafhjaa
