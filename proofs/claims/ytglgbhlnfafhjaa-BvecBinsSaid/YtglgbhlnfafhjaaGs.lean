/- Contracts of package bvec's divideSigned, under the contract of quoRem at the two amounts. -/
import Derived.Test.YtglgbhlnfafhjaaGg
namespace Go.Proofs.Ytglgbhlnfafhjaa
open Go.RowKit

def dsI (fl : Bool) (a b Q R : Int) : Int := if fl then (if negB a != negB b then -Q else Q) else (if negB a then -R else R)
set_option maxHeartbeats 40000000 in
theorem ds_B (fl : Bool) (W a b : Int) (h0 : 1 ≤ W) (h1 : W ≤ 128) (hz : (hi b == 0) = true) (hz2 : (lo b == 0) = false) (Q R : Int) (hd : ∀ w : World, Calls Try.prog 45 #[wv (absI a), wv (absI b)] w fun e w' => e = .returned (.tuple #[wv Q, wv R]) ∧ Fr w w') (w : World) :
    Calls Try.prog 15 #[.bool fl, .int .i64 W, wv a, wv b] w fun e w' => e = .returned (bv W (cutI W.toNat (dsI fl a b Q R))) ∧ Fr w w' := by
  have HD := Lib.hid hd; clear hd
  go_enter Try.func15, Try.ntmps15
  go_upto_region 3 with fail
  go_cut [9, 10] (fun s t wx => Two w wx 2 s t Q R ∧ Res w wx ∧ Par w wx w.heap.size a ∧ Par w wx (w.heap.size + 1) b ∧ Fr w wx)
  case first =>
    go_region_held3 (fun w' => w'.cell? ⟨w.heap.size, 0, none⟩ = some (.int .u64 (hi (a))) ∧ w'.cell? ⟨w.heap.size, 1, none⟩ = some (.int .u64 (lo (a))) ∧ w'.cell? ⟨w.heap.size + 1, 0, none⟩ = some (.int .u64 (hi (b))) ∧ w'.cell? ⟨w.heap.size + 1, 1, none⟩ = some (.int .u64 (lo (b)))) (simp [go_sem, *])
     (first
      | (go_at_call_of 46 (hi a); refine (wabs_any _ _).mono ?_; rintro e w1 ⟨rfl, hb1⟩; have hz1 := hb1.size; (try simp at hz1); have z1_0 : w.heap.size < w1.heap.size := (by omega); have c1_0_0 := hb1.get (b := w.heap.size) (o := 0) (v := .int .u64 (hi (a))) (by first | (simp [go_sem]; done) | (simp [go_sem, *]; done)); have c1_0_1 := hb1.get (b := w.heap.size) (o := 1) (v := .int .u64 (lo (a))) (by first | (simp [go_sem]; done) | (simp [go_sem, *]; done)); have z1_1 : w.heap.size + 1 < w1.heap.size := (by omega); have c1_1_0 := hb1.get (b := w.heap.size + 1) (o := 0) (v := .int .u64 (hi (b))) (by first | (simp [go_sem]; done) | (simp [go_sem, *]; done)); have c1_1_1 := hb1.get (b := w.heap.size + 1) (o := 1) (v := .int .u64 (lo (b))) (by first | (simp [go_sem]; done) | (simp [go_sem, *]; done)); have z1_2 : w.heap.size + 1 + 1 < w1.heap.size := (by omega); have c1_2_0 := hb1.get (b := w.heap.size + 1 + 1) (o := 0) (v := .int .i64 0) (by first | (simp [go_sem]; done) | (simp [go_sem, *]; done)); have f1_2_0 := hb1.free (b := w.heap.size + 1 + 1) (o := 0) (v := .int .i64 0) (by first | (simp [go_sem]; done) | (simp [go_sem, *]; done)) (by first | (simp [go_sem]; done) | (simp [go_sem, *]; done)); have c1_2_1 := hb1.get (b := w.heap.size + 1 + 1) (o := 1) (v := .int .u64 0) (by first | (simp [go_sem]; done) | (simp [go_sem, *]; done)); have f1_2_1 := hb1.free (b := w.heap.size + 1 + 1) (o := 1) (v := .int .u64 0) (by first | (simp [go_sem]; done) | (simp [go_sem, *]; done)) (by first | (simp [go_sem]; done) | (simp [go_sem, *]; done)); have c1_2_2 := hb1.get (b := w.heap.size + 1 + 1) (o := 2) (v := .int .u64 0) (by first | (simp [go_sem]; done) | (simp [go_sem, *]; done)); have f1_2_2 := hb1.free (b := w.heap.size + 1 + 1) (o := 2) (v := .int .u64 0) (by first | (simp [go_sem]; done) | (simp [go_sem, *]; done)) (by first | (simp [go_sem]; done) | (simp [go_sem, *]; done)); have d1_0_0 := fun h => hb1.get (b := w.heap.size + 1 + 1 + 1) (o := 0) (v := .int .u64 0) h; have e1_0_0 := fun h h2 => hb1.free (b := w.heap.size + 1 + 1 + 1) (o := 0) (v := .int .u64 0) h h2; (try simp [go_sem, *] at d1_0_0); (try simp [go_sem, *] at e1_0_0); have d1_0_1 := fun h => hb1.get (b := w.heap.size + 1 + 1 + 1) (o := 1) (v := .int .u64 0) h; have e1_0_1 := fun h h2 => hb1.free (b := w.heap.size + 1 + 1 + 1) (o := 1) (v := .int .u64 0) h h2; (try simp [go_sem, *] at d1_0_1); (try simp [go_sem, *] at e1_0_1); have y1_0 := fun h => lt_of_cell (hb1.get (b := w.heap.size + 1 + 1 + 1) (o := 0) (v := .int .u64 0) h); (try simp [go_sem, *] at y1_0); have d1_1_0 := fun h => hb1.get (b := w.heap.size + 1 + 1 + 1 + 1) (o := 0) (v := .int .u64 0) h; have e1_1_0 := fun h h2 => hb1.free (b := w.heap.size + 1 + 1 + 1 + 1) (o := 0) (v := .int .u64 0) h h2; (try simp [go_sem, *] at d1_1_0); (try simp [go_sem, *] at e1_1_0); have d1_1_1 := fun h => hb1.get (b := w.heap.size + 1 + 1 + 1 + 1) (o := 1) (v := .int .u64 0) h; have e1_1_1 := fun h h2 => hb1.free (b := w.heap.size + 1 + 1 + 1 + 1) (o := 1) (v := .int .u64 0) h h2; (try simp [go_sem, *] at d1_1_1); (try simp [go_sem, *] at e1_1_1); have y1_1 := fun h => lt_of_cell (hb1.get (b := w.heap.size + 1 + 1 + 1 + 1) (o := 0) (v := .int .u64 0) h); (try simp [go_sem, *] at y1_1); clear hz1)
      | (go_at_call_of 46 (hi b); refine (wabs_any _ _).mono ?_; rintro e w2 ⟨rfl, hb2⟩; have hz2 := hb2.size; (try simp at hz2); have z2_0 : w.heap.size < w2.heap.size := (by omega); have c2_0_0 := hb2.get (b := w.heap.size) (o := 0) (v := .int .u64 (hi (a))) (by first | with_reducible exact c1_0_0 | (simp [go_sem]; done) | (simp [go_sem, *]; done)); have c2_0_1 := hb2.get (b := w.heap.size) (o := 1) (v := .int .u64 (lo (a))) (by first | with_reducible exact c1_0_1 | (simp [go_sem]; done) | (simp [go_sem, *]; done)); have z2_1 : w.heap.size + 1 < w2.heap.size := (by omega); have c2_1_0 := hb2.get (b := w.heap.size + 1) (o := 0) (v := .int .u64 (hi (b))) (by first | with_reducible exact c1_1_0 | (simp [go_sem]; done) | (simp [go_sem, *]; done)); have c2_1_1 := hb2.get (b := w.heap.size + 1) (o := 1) (v := .int .u64 (lo (b))) (by first | with_reducible exact c1_1_1 | (simp [go_sem]; done) | (simp [go_sem, *]; done)); have z2_2 : w.heap.size + 1 + 1 < w2.heap.size := (by omega); have c2_2_0 := hb2.get (b := w.heap.size + 1 + 1) (o := 0) (v := .int .i64 0) (by first | with_reducible exact c1_2_0 | (simp [go_sem]; done) | (simp [go_sem, *]; done)); have f2_2_0 := hb2.free (b := w.heap.size + 1 + 1) (o := 0) (v := .int .i64 0) (by first | with_reducible exact c1_2_0 | (simp [go_sem]; done) | (simp [go_sem, *]; done)) (by first | with_reducible exact f1_2_0 | (simp [go_sem]; done) | (simp [go_sem, *]; done)); have c2_2_1 := hb2.get (b := w.heap.size + 1 + 1) (o := 1) (v := .int .u64 0) (by first | with_reducible exact c1_2_1 | (simp [go_sem]; done) | (simp [go_sem, *]; done)); have f2_2_1 := hb2.free (b := w.heap.size + 1 + 1) (o := 1) (v := .int .u64 0) (by first | with_reducible exact c1_2_1 | (simp [go_sem]; done) | (simp [go_sem, *]; done)) (by first | with_reducible exact f1_2_1 | (simp [go_sem]; done) | (simp [go_sem, *]; done)); have c2_2_2 := hb2.get (b := w.heap.size + 1 + 1) (o := 2) (v := .int .u64 0) (by first | with_reducible exact c1_2_2 | (simp [go_sem]; done) | (simp [go_sem, *]; done)); have f2_2_2 := hb2.free (b := w.heap.size + 1 + 1) (o := 2) (v := .int .u64 0) (by first | with_reducible exact c1_2_2 | (simp [go_sem]; done) | (simp [go_sem, *]; done)) (by first | with_reducible exact f1_2_2 | (simp [go_sem]; done) | (simp [go_sem, *]; done)); have d2_0_0 := fun h => hb2.get (b := w.heap.size + 1 + 1 + 1) (o := 0) (v := .int .u64 0) h; have e2_0_0 := fun h h2 => hb2.free (b := w.heap.size + 1 + 1 + 1) (o := 0) (v := .int .u64 0) h h2; (try simp [go_sem, *] at d2_0_0); (try simp [go_sem, *] at e2_0_0); have d2_0_1 := fun h => hb2.get (b := w.heap.size + 1 + 1 + 1) (o := 1) (v := .int .u64 0) h; have e2_0_1 := fun h h2 => hb2.free (b := w.heap.size + 1 + 1 + 1) (o := 1) (v := .int .u64 0) h h2; (try simp [go_sem, *] at d2_0_1); (try simp [go_sem, *] at e2_0_1); have y2_0 := fun h => lt_of_cell (hb2.get (b := w.heap.size + 1 + 1 + 1) (o := 0) (v := .int .u64 0) h); (try simp [go_sem, *] at y2_0); have d2_1_0 := fun h => hb2.get (b := w.heap.size + 1 + 1 + 1 + 1) (o := 0) (v := .int .u64 0) h; have e2_1_0 := fun h h2 => hb2.free (b := w.heap.size + 1 + 1 + 1 + 1) (o := 0) (v := .int .u64 0) h h2; (try simp [go_sem, *] at d2_1_0); (try simp [go_sem, *] at e2_1_0); have d2_1_1 := fun h => hb2.get (b := w.heap.size + 1 + 1 + 1 + 1) (o := 1) (v := .int .u64 0) h; have e2_1_1 := fun h h2 => hb2.free (b := w.heap.size + 1 + 1 + 1 + 1) (o := 1) (v := .int .u64 0) h h2; (try simp [go_sem, *] at d2_1_1); (try simp [go_sem, *] at e2_1_1); have y2_1 := fun h => lt_of_cell (hb2.get (b := w.heap.size + 1 + 1 + 1 + 1) (o := 0) (v := .int .u64 0) h); (try simp [go_sem, *] at y2_1); have d2_2_0 := fun h => hb2.get (b := w1.heap.size) (o := 0) (v := .int .u64 0) h; have e2_2_0 := fun h h2 => hb2.free (b := w1.heap.size) (o := 0) (v := .int .u64 0) h h2; (try simp [go_sem, *] at d2_2_0); (try simp [go_sem, *] at e2_2_0); have d2_2_1 := fun h => hb2.get (b := w1.heap.size) (o := 1) (v := .int .u64 0) h; have e2_2_1 := fun h h2 => hb2.free (b := w1.heap.size) (o := 1) (v := .int .u64 0) h h2; (try simp [go_sem, *] at d2_2_1); (try simp [go_sem, *] at e2_2_1); have y2_2 := fun h => lt_of_cell (hb2.get (b := w1.heap.size) (o := 0) (v := .int .u64 0) h); (try simp [go_sem, *] at y2_2); have d2_3_0 := fun h => hb2.get (b := w1.heap.size + 1) (o := 0) (v := .int .u64 0) h; have e2_3_0 := fun h h2 => hb2.free (b := w1.heap.size + 1) (o := 0) (v := .int .u64 0) h h2; (try simp [go_sem, *] at d2_3_0); (try simp [go_sem, *] at e2_3_0); have d2_3_1 := fun h => hb2.get (b := w1.heap.size + 1) (o := 1) (v := .int .u64 0) h; have e2_3_1 := fun h h2 => hb2.free (b := w1.heap.size + 1) (o := 1) (v := .int .u64 0) h h2; (try simp [go_sem, *] at d2_3_1); (try simp [go_sem, *] at e2_3_1); have y2_3 := fun h => lt_of_cell (hb2.get (b := w1.heap.size + 1) (o := 0) (v := .int .u64 0) h); (try simp [go_sem, *] at y2_3); clear hz2)
      | (go_at_call 45; refine (HD.out _).mono ?_; rintro e w3 ⟨rfl, hb3⟩; have hz3 := hb3.size; (try simp at hz3); have z3_0 : w.heap.size < w3.heap.size := (by omega); have c3_0_0 := hb3.get (b := w.heap.size) (o := 0) (v := .int .u64 (hi (a))) (by first | with_reducible exact c2_0_0 | (simp [go_sem]; done) | (simp [go_sem, *]; done)); have c3_0_1 := hb3.get (b := w.heap.size) (o := 1) (v := .int .u64 (lo (a))) (by first | with_reducible exact c2_0_1 | (simp [go_sem]; done) | (simp [go_sem, *]; done)); have z3_1 : w.heap.size + 1 < w3.heap.size := (by omega); have c3_1_0 := hb3.get (b := w.heap.size + 1) (o := 0) (v := .int .u64 (hi (b))) (by first | with_reducible exact c2_1_0 | (simp [go_sem]; done) | (simp [go_sem, *]; done)); have c3_1_1 := hb3.get (b := w.heap.size + 1) (o := 1) (v := .int .u64 (lo (b))) (by first | with_reducible exact c2_1_1 | (simp [go_sem]; done) | (simp [go_sem, *]; done)); have z3_2 : w.heap.size + 1 + 1 < w3.heap.size := (by omega); have c3_2_0 := hb3.get (b := w.heap.size + 1 + 1) (o := 0) (v := .int .i64 0) (by first | with_reducible exact c2_2_0 | (simp [go_sem]; done) | (simp [go_sem, *]; done)); have f3_2_0 := hb3.free (b := w.heap.size + 1 + 1) (o := 0) (v := .int .i64 0) (by first | with_reducible exact c2_2_0 | (simp [go_sem]; done) | (simp [go_sem, *]; done)) (by first | with_reducible exact f2_2_0 | (simp [go_sem]; done) | (simp [go_sem, *]; done)); have c3_2_1 := hb3.get (b := w.heap.size + 1 + 1) (o := 1) (v := .int .u64 0) (by first | with_reducible exact c2_2_1 | (simp [go_sem]; done) | (simp [go_sem, *]; done)); have f3_2_1 := hb3.free (b := w.heap.size + 1 + 1) (o := 1) (v := .int .u64 0) (by first | with_reducible exact c2_2_1 | (simp [go_sem]; done) | (simp [go_sem, *]; done)) (by first | with_reducible exact f2_2_1 | (simp [go_sem]; done) | (simp [go_sem, *]; done)); have c3_2_2 := hb3.get (b := w.heap.size + 1 + 1) (o := 2) (v := .int .u64 0) (by first | with_reducible exact c2_2_2 | (simp [go_sem]; done) | (simp [go_sem, *]; done)); have f3_2_2 := hb3.free (b := w.heap.size + 1 + 1) (o := 2) (v := .int .u64 0) (by first | with_reducible exact c2_2_2 | (simp [go_sem]; done) | (simp [go_sem, *]; done)) (by first | with_reducible exact f2_2_2 | (simp [go_sem]; done) | (simp [go_sem, *]; done)); have d3_0_0 := fun h => hb3.get (b := w.heap.size + 1 + 1 + 1) (o := 0) (v := .int .u64 0) h; have e3_0_0 := fun h h2 => hb3.free (b := w.heap.size + 1 + 1 + 1) (o := 0) (v := .int .u64 0) h h2; (try simp [go_sem, *] at d3_0_0); (try simp [go_sem, *] at e3_0_0); have d3_0_1 := fun h => hb3.get (b := w.heap.size + 1 + 1 + 1) (o := 1) (v := .int .u64 0) h; have e3_0_1 := fun h h2 => hb3.free (b := w.heap.size + 1 + 1 + 1) (o := 1) (v := .int .u64 0) h h2; (try simp [go_sem, *] at d3_0_1); (try simp [go_sem, *] at e3_0_1); have y3_0 := fun h => lt_of_cell (hb3.get (b := w.heap.size + 1 + 1 + 1) (o := 0) (v := .int .u64 0) h); (try simp [go_sem, *] at y3_0); have d3_1_0 := fun h => hb3.get (b := w.heap.size + 1 + 1 + 1 + 1) (o := 0) (v := .int .u64 0) h; have e3_1_0 := fun h h2 => hb3.free (b := w.heap.size + 1 + 1 + 1 + 1) (o := 0) (v := .int .u64 0) h h2; (try simp [go_sem, *] at d3_1_0); (try simp [go_sem, *] at e3_1_0); have d3_1_1 := fun h => hb3.get (b := w.heap.size + 1 + 1 + 1 + 1) (o := 1) (v := .int .u64 0) h; have e3_1_1 := fun h h2 => hb3.free (b := w.heap.size + 1 + 1 + 1 + 1) (o := 1) (v := .int .u64 0) h h2; (try simp [go_sem, *] at d3_1_1); (try simp [go_sem, *] at e3_1_1); have y3_1 := fun h => lt_of_cell (hb3.get (b := w.heap.size + 1 + 1 + 1 + 1) (o := 0) (v := .int .u64 0) h); (try simp [go_sem, *] at y3_1); have d3_2_0 := fun h => hb3.get (b := w1.heap.size) (o := 0) (v := .int .u64 0) h; have e3_2_0 := fun h h2 => hb3.free (b := w1.heap.size) (o := 0) (v := .int .u64 0) h h2; (try simp [go_sem, *] at d3_2_0); (try simp [go_sem, *] at e3_2_0); have d3_2_1 := fun h => hb3.get (b := w1.heap.size) (o := 1) (v := .int .u64 0) h; have e3_2_1 := fun h h2 => hb3.free (b := w1.heap.size) (o := 1) (v := .int .u64 0) h h2; (try simp [go_sem, *] at d3_2_1); (try simp [go_sem, *] at e3_2_1); have y3_2 := fun h => lt_of_cell (hb3.get (b := w1.heap.size) (o := 0) (v := .int .u64 0) h); (try simp [go_sem, *] at y3_2); have d3_3_0 := fun h => hb3.get (b := w1.heap.size + 1) (o := 0) (v := .int .u64 0) h; have e3_3_0 := fun h h2 => hb3.free (b := w1.heap.size + 1) (o := 0) (v := .int .u64 0) h h2; (try simp [go_sem, *] at d3_3_0); (try simp [go_sem, *] at e3_3_0); have d3_3_1 := fun h => hb3.get (b := w1.heap.size + 1) (o := 1) (v := .int .u64 0) h; have e3_3_1 := fun h h2 => hb3.free (b := w1.heap.size + 1) (o := 1) (v := .int .u64 0) h h2; (try simp [go_sem, *] at d3_3_1); (try simp [go_sem, *] at e3_3_1); have y3_3 := fun h => lt_of_cell (hb3.get (b := w1.heap.size + 1) (o := 0) (v := .int .u64 0) h); (try simp [go_sem, *] at y3_3); have d3_4_0 := fun h => hb3.get (b := w2.heap.size) (o := 0) (v := .int .u64 0) h; have e3_4_0 := fun h h2 => hb3.free (b := w2.heap.size) (o := 0) (v := .int .u64 0) h h2; (try simp [go_sem, *] at d3_4_0); (try simp [go_sem, *] at e3_4_0); have d3_4_1 := fun h => hb3.get (b := w2.heap.size) (o := 1) (v := .int .u64 0) h; have e3_4_1 := fun h h2 => hb3.free (b := w2.heap.size) (o := 1) (v := .int .u64 0) h h2; (try simp [go_sem, *] at d3_4_1); (try simp [go_sem, *] at e3_4_1); have y3_4 := fun h => lt_of_cell (hb3.get (b := w2.heap.size) (o := 0) (v := .int .u64 0) h); (try simp [go_sem, *] at y3_4); have d3_5_0 := fun h => hb3.get (b := w2.heap.size + 1) (o := 0) (v := .int .u64 0) h; have e3_5_0 := fun h h2 => hb3.free (b := w2.heap.size + 1) (o := 0) (v := .int .u64 0) h h2; (try simp [go_sem, *] at d3_5_0); (try simp [go_sem, *] at e3_5_0); have d3_5_1 := fun h => hb3.get (b := w2.heap.size + 1) (o := 1) (v := .int .u64 0) h; have e3_5_1 := fun h h2 => hb3.free (b := w2.heap.size + 1) (o := 1) (v := .int .u64 0) h h2; (try simp [go_sem, *] at d3_5_1); (try simp [go_sem, *] at e3_5_1); have y3_5 := fun h => lt_of_cell (hb3.get (b := w2.heap.size + 1) (o := 0) (v := .int .u64 0) h); (try simp [go_sem, *] at y3_5); clear hz3))
    all_goals
      go_wp2_with fail
      go_meet
      refine ⟨⟨_, _, rfl, rfl, ?_, ?_, ?_, ?_, ?_, ?_, ?_, ?_, ?_, ?_, ?_, ?_, ?_⟩, ⟨?_, ?_, ?_, ?_, ?_, ?_, ?_⟩, ⟨?_, ?_, ?_⟩, ⟨?_, ?_, ?_⟩, ?_⟩
      all_goals first | (simp [go_sem, *]; done) | (simp; omega) | ((repeat (first | with_reducible exact Fr.refl _ | with_reducible apply Fr.drewN | with_reducible apply Fr.drew | with_reducible apply Fr.alloc | (with_reducible refine Fr.set ?_ (by simp; try omega) _) | (with_reducible refine Fr.call ?_ (by assumption)))); done)
  case rest =>
    obtain ⟨⟨p, q, rfl, rfl, l1, l2, l3, l4, l5, p0, p1, q0, q1, fp0, fp1, fq0, fq1⟩, ⟨r0, r1, r2, g0, g1, g2, r3⟩, ⟨a0, a1, a2⟩, ⟨b0, b1, b2⟩, hFr⟩ := hcut
    have n1 : ¬ p = w.heap.size + 1 + 1 := by omega
    have n2 : ¬ q = w.heap.size + 1 + 1 := by omega
    have n3 : ¬ w.heap.size + 1 + 1 = p := by omega
    have n4 : ¬ w.heap.size + 1 + 1 = q := by omega
    have n5 : ¬ q = p := by omega
    have n6 : ¬ p = w.heap.size := by omega
    have n7 : ¬ q = w.heap.size := by omega
    have n8 : ¬ w.heap.size = p := by omega
    have n9 : ¬ w.heap.size = q := by omega
    have n10 : ¬ p = w.heap.size + 1 := by omega
    have n11 : ¬ q = w.heap.size + 1 := by omega
    have n12 : ¬ w.heap.size + 1 = p := by omega
    have n13 : ¬ w.heap.size + 1 = q := by omega
    have gp : w.heap.size ≤ p := by omega
    have gq : w.heap.size ≤ q := by omega
    clear l1 l2 hz hz2 HD
    cases fl <;> cases ha : negB a <;> cases hb : negB b
    all_goals
      have HA := Lib.hid ha; have HB := Lib.hid hb; clear ha hb
      go_wp2_with fail
      go_region_held3 (fun w' => w'.cell? ⟨w.heap.size, 0, none⟩ = some (.int .u64 (hi (a))) ∧ w'.cell? ⟨w.heap.size, 1, none⟩ = some (.int .u64 (lo (a))) ∧ w'.cell? ⟨w.heap.size + 1, 0, none⟩ = some (.int .u64 (hi (b))) ∧ w'.cell? ⟨w.heap.size + 1, 1, none⟩ = some (.int .u64 (lo (b)))) (simp [go_sem, *])
       (first
        | (go_at_call_of 36 (hi a); refine (below0_any _ _).mono ?_; rintro e w4 ⟨rfl, hb4⟩; have hz4 := hb4.size; (try simp at hz4); have z4_0 : w.heap.size < w4.heap.size := (by omega); have c4_0_0 := hb4.get (b := w.heap.size) (o := 0) (v := .int .u64 (hi (a))) (by first | (simp [go_sem]; done) | (simp [go_sem, *]; done)); have c4_0_1 := hb4.get (b := w.heap.size) (o := 1) (v := .int .u64 (lo (a))) (by first | (simp [go_sem]; done) | (simp [go_sem, *]; done)); have z4_1 : w.heap.size + 1 < w4.heap.size := (by omega); have c4_1_0 := hb4.get (b := w.heap.size + 1) (o := 0) (v := .int .u64 (hi (b))) (by first | (simp [go_sem]; done) | (simp [go_sem, *]; done)); have c4_1_1 := hb4.get (b := w.heap.size + 1) (o := 1) (v := .int .u64 (lo (b))) (by first | (simp [go_sem]; done) | (simp [go_sem, *]; done)); have z4_2 : w.heap.size + 1 + 1 < w4.heap.size := (by omega); have c4_2_0 := hb4.get (b := w.heap.size + 1 + 1) (o := 0) (v := .int .i64 0) (by first | (simp [go_sem]; done) | (simp [go_sem, *]; done)); have f4_2_0 := hb4.free (b := w.heap.size + 1 + 1) (o := 0) (v := .int .i64 0) (by first | (simp [go_sem]; done) | (simp [go_sem, *]; done)) (by first | (simp [go_sem]; done) | (simp [go_sem, *]; done)); have c4_2_1 := hb4.get (b := w.heap.size + 1 + 1) (o := 1) (v := .int .u64 0) (by first | (simp [go_sem]; done) | (simp [go_sem, *]; done)); have f4_2_1 := hb4.free (b := w.heap.size + 1 + 1) (o := 1) (v := .int .u64 0) (by first | (simp [go_sem]; done) | (simp [go_sem, *]; done)) (by first | (simp [go_sem]; done) | (simp [go_sem, *]; done)); have c4_2_2 := hb4.get (b := w.heap.size + 1 + 1) (o := 2) (v := .int .u64 0) (by first | (simp [go_sem]; done) | (simp [go_sem, *]; done)); have f4_2_2 := hb4.free (b := w.heap.size + 1 + 1) (o := 2) (v := .int .u64 0) (by first | (simp [go_sem]; done) | (simp [go_sem, *]; done)) (by first | (simp [go_sem]; done) | (simp [go_sem, *]; done)); have z4_3 : p < w4.heap.size := (by omega); have c4_3_0 := hb4.get (b := p) (o := 0) (v := .int .u64 (hi (Q))) (by first | (simp [go_sem]; done) | (simp [go_sem, *]; done)); have f4_3_0 := hb4.free (b := p) (o := 0) (v := .int .u64 (hi (Q))) (by first | (simp [go_sem]; done) | (simp [go_sem, *]; done)) (by first | (simp [go_sem]; done) | (simp [go_sem, *]; done)); have c4_3_1 := hb4.get (b := p) (o := 1) (v := .int .u64 (lo (Q))) (by first | (simp [go_sem]; done) | (simp [go_sem, *]; done)); have f4_3_1 := hb4.free (b := p) (o := 1) (v := .int .u64 (lo (Q))) (by first | (simp [go_sem]; done) | (simp [go_sem, *]; done)) (by first | (simp [go_sem]; done) | (simp [go_sem, *]; done)); have z4_4 : q < w4.heap.size := (by omega); have c4_4_0 := hb4.get (b := q) (o := 0) (v := .int .u64 (hi (R))) (by first | (simp [go_sem]; done) | (simp [go_sem, *]; done)); have f4_4_0 := hb4.free (b := q) (o := 0) (v := .int .u64 (hi (R))) (by first | (simp [go_sem]; done) | (simp [go_sem, *]; done)) (by first | (simp [go_sem]; done) | (simp [go_sem, *]; done)); have c4_4_1 := hb4.get (b := q) (o := 1) (v := .int .u64 (lo (R))) (by first | (simp [go_sem]; done) | (simp [go_sem, *]; done)); have f4_4_1 := hb4.free (b := q) (o := 1) (v := .int .u64 (lo (R))) (by first | (simp [go_sem]; done) | (simp [go_sem, *]; done)) (by first | (simp [go_sem]; done) | (simp [go_sem, *]; done)); clear hz4; rw [HA.out])
        | (go_at_call_of 36 (hi b); refine (below0_any _ _).mono ?_; rintro e w5 ⟨rfl, hb5⟩; have hz5 := hb5.size; (try simp at hz5); have z5_0 : w.heap.size < w5.heap.size := (by omega); have c5_0_0 := hb5.get (b := w.heap.size) (o := 0) (v := .int .u64 (hi (a))) (by first | with_reducible exact c4_0_0 | (simp [go_sem]; done) | (simp [go_sem, *]; done)); have c5_0_1 := hb5.get (b := w.heap.size) (o := 1) (v := .int .u64 (lo (a))) (by first | with_reducible exact c4_0_1 | (simp [go_sem]; done) | (simp [go_sem, *]; done)); have z5_1 : w.heap.size + 1 < w5.heap.size := (by omega); have c5_1_0 := hb5.get (b := w.heap.size + 1) (o := 0) (v := .int .u64 (hi (b))) (by first | with_reducible exact c4_1_0 | (simp [go_sem]; done) | (simp [go_sem, *]; done)); have c5_1_1 := hb5.get (b := w.heap.size + 1) (o := 1) (v := .int .u64 (lo (b))) (by first | with_reducible exact c4_1_1 | (simp [go_sem]; done) | (simp [go_sem, *]; done)); have z5_2 : w.heap.size + 1 + 1 < w5.heap.size := (by omega); have c5_2_0 := hb5.get (b := w.heap.size + 1 + 1) (o := 0) (v := .int .i64 0) (by first | with_reducible exact c4_2_0 | (simp [go_sem]; done) | (simp [go_sem, *]; done)); have f5_2_0 := hb5.free (b := w.heap.size + 1 + 1) (o := 0) (v := .int .i64 0) (by first | with_reducible exact c4_2_0 | (simp [go_sem]; done) | (simp [go_sem, *]; done)) (by first | with_reducible exact f4_2_0 | (simp [go_sem]; done) | (simp [go_sem, *]; done)); have c5_2_1 := hb5.get (b := w.heap.size + 1 + 1) (o := 1) (v := .int .u64 0) (by first | with_reducible exact c4_2_1 | (simp [go_sem]; done) | (simp [go_sem, *]; done)); have f5_2_1 := hb5.free (b := w.heap.size + 1 + 1) (o := 1) (v := .int .u64 0) (by first | with_reducible exact c4_2_1 | (simp [go_sem]; done) | (simp [go_sem, *]; done)) (by first | with_reducible exact f4_2_1 | (simp [go_sem]; done) | (simp [go_sem, *]; done)); have c5_2_2 := hb5.get (b := w.heap.size + 1 + 1) (o := 2) (v := .int .u64 0) (by first | with_reducible exact c4_2_2 | (simp [go_sem]; done) | (simp [go_sem, *]; done)); have f5_2_2 := hb5.free (b := w.heap.size + 1 + 1) (o := 2) (v := .int .u64 0) (by first | with_reducible exact c4_2_2 | (simp [go_sem]; done) | (simp [go_sem, *]; done)) (by first | with_reducible exact f4_2_2 | (simp [go_sem]; done) | (simp [go_sem, *]; done)); have z5_3 : p < w5.heap.size := (by omega); have c5_3_0 := hb5.get (b := p) (o := 0) (v := .int .u64 (hi (Q))) (by first | with_reducible exact c4_3_0 | (simp [go_sem]; done) | (simp [go_sem, *]; done)); have f5_3_0 := hb5.free (b := p) (o := 0) (v := .int .u64 (hi (Q))) (by first | with_reducible exact c4_3_0 | (simp [go_sem]; done) | (simp [go_sem, *]; done)) (by first | with_reducible exact f4_3_0 | (simp [go_sem]; done) | (simp [go_sem, *]; done)); have c5_3_1 := hb5.get (b := p) (o := 1) (v := .int .u64 (lo (Q))) (by first | with_reducible exact c4_3_1 | (simp [go_sem]; done) | (simp [go_sem, *]; done)); have f5_3_1 := hb5.free (b := p) (o := 1) (v := .int .u64 (lo (Q))) (by first | with_reducible exact c4_3_1 | (simp [go_sem]; done) | (simp [go_sem, *]; done)) (by first | with_reducible exact f4_3_1 | (simp [go_sem]; done) | (simp [go_sem, *]; done)); have z5_4 : q < w5.heap.size := (by omega); have c5_4_0 := hb5.get (b := q) (o := 0) (v := .int .u64 (hi (R))) (by first | with_reducible exact c4_4_0 | (simp [go_sem]; done) | (simp [go_sem, *]; done)); have f5_4_0 := hb5.free (b := q) (o := 0) (v := .int .u64 (hi (R))) (by first | with_reducible exact c4_4_0 | (simp [go_sem]; done) | (simp [go_sem, *]; done)) (by first | with_reducible exact f4_4_0 | (simp [go_sem]; done) | (simp [go_sem, *]; done)); have c5_4_1 := hb5.get (b := q) (o := 1) (v := .int .u64 (lo (R))) (by first | with_reducible exact c4_4_1 | (simp [go_sem]; done) | (simp [go_sem, *]; done)); have f5_4_1 := hb5.free (b := q) (o := 1) (v := .int .u64 (lo (R))) (by first | with_reducible exact c4_4_1 | (simp [go_sem]; done) | (simp [go_sem, *]; done)) (by first | with_reducible exact f4_4_1 | (simp [go_sem]; done) | (simp [go_sem, *]; done)); clear hz5; rw [HB.out]))
      go_wp2_with fail
    · refine (below0_any _ _).mono ?_
      rintro e w7 ⟨rfl, hb7⟩
      have hz7 := hb7.size
      (try simp at hz7)
      have z7_0 : w.heap.size < w7.heap.size := (by omega)
      have c7_0_0 := hb7.get (b := w.heap.size) (o := 0) (v := .int .u64 (hi (a))) (by first | with_reducible exact c5_0_0 | (simp [go_sem]; done) | (simp [go_sem, *]; done))
      have c7_0_1 := hb7.get (b := w.heap.size) (o := 1) (v := .int .u64 (lo (a))) (by first | with_reducible exact c5_0_1 | (simp [go_sem]; done) | (simp [go_sem, *]; done))
      have z7_1 : w.heap.size + 1 < w7.heap.size := (by omega)
      have c7_1_0 := hb7.get (b := w.heap.size + 1) (o := 0) (v := .int .u64 (hi (b))) (by first | with_reducible exact c5_1_0 | (simp [go_sem]; done) | (simp [go_sem, *]; done))
      have c7_1_1 := hb7.get (b := w.heap.size + 1) (o := 1) (v := .int .u64 (lo (b))) (by first | with_reducible exact c5_1_1 | (simp [go_sem]; done) | (simp [go_sem, *]; done))
      have z7_2 : w.heap.size + 1 + 1 < w7.heap.size := (by omega)
      have c7_2_0 := hb7.get (b := w.heap.size + 1 + 1) (o := 0) (v := .int .i64 0) (by first | with_reducible exact c5_2_0 | (simp [go_sem]; done) | (simp [go_sem, *]; done))
      have f7_2_0 := hb7.free (b := w.heap.size + 1 + 1) (o := 0) (v := .int .i64 0) (by first | with_reducible exact c5_2_0 | (simp [go_sem]; done) | (simp [go_sem, *]; done)) (by first | with_reducible exact f5_2_0 | (simp [go_sem]; done) | (simp [go_sem, *]; done))
      have c7_2_1 := hb7.get (b := w.heap.size + 1 + 1) (o := 1) (v := .int .u64 0) (by first | with_reducible exact c5_2_1 | (simp [go_sem]; done) | (simp [go_sem, *]; done))
      have f7_2_1 := hb7.free (b := w.heap.size + 1 + 1) (o := 1) (v := .int .u64 0) (by first | with_reducible exact c5_2_1 | (simp [go_sem]; done) | (simp [go_sem, *]; done)) (by first | with_reducible exact f5_2_1 | (simp [go_sem]; done) | (simp [go_sem, *]; done))
      have c7_2_2 := hb7.get (b := w.heap.size + 1 + 1) (o := 2) (v := .int .u64 0) (by first | with_reducible exact c5_2_2 | (simp [go_sem]; done) | (simp [go_sem, *]; done))
      have f7_2_2 := hb7.free (b := w.heap.size + 1 + 1) (o := 2) (v := .int .u64 0) (by first | with_reducible exact c5_2_2 | (simp [go_sem]; done) | (simp [go_sem, *]; done)) (by first | with_reducible exact f5_2_2 | (simp [go_sem]; done) | (simp [go_sem, *]; done))
      have z7_3 : p < w7.heap.size := (by omega)
      have c7_3_0 := hb7.get (b := p) (o := 0) (v := .int .u64 (hi (Q))) (by first | with_reducible exact c5_3_0 | (simp [go_sem]; done) | (simp [go_sem, *]; done))
      have f7_3_0 := hb7.free (b := p) (o := 0) (v := .int .u64 (hi (Q))) (by first | with_reducible exact c5_3_0 | (simp [go_sem]; done) | (simp [go_sem, *]; done)) (by first | with_reducible exact f5_3_0 | (simp [go_sem]; done) | (simp [go_sem, *]; done))
      have c7_3_1 := hb7.get (b := p) (o := 1) (v := .int .u64 (lo (Q))) (by first | with_reducible exact c5_3_1 | (simp [go_sem]; done) | (simp [go_sem, *]; done))
      have f7_3_1 := hb7.free (b := p) (o := 1) (v := .int .u64 (lo (Q))) (by first | with_reducible exact c5_3_1 | (simp [go_sem]; done) | (simp [go_sem, *]; done)) (by first | with_reducible exact f5_3_1 | (simp [go_sem]; done) | (simp [go_sem, *]; done))
      have z7_4 : q < w7.heap.size := (by omega)
      have c7_4_0 := hb7.get (b := q) (o := 0) (v := .int .u64 (hi (R))) (by first | with_reducible exact c5_4_0 | (simp [go_sem]; done) | (simp [go_sem, *]; done))
      have f7_4_0 := hb7.free (b := q) (o := 0) (v := .int .u64 (hi (R))) (by first | with_reducible exact c5_4_0 | (simp [go_sem]; done) | (simp [go_sem, *]; done)) (by first | with_reducible exact f5_4_0 | (simp [go_sem]; done) | (simp [go_sem, *]; done))
      have c7_4_1 := hb7.get (b := q) (o := 1) (v := .int .u64 (lo (R))) (by first | with_reducible exact c5_4_1 | (simp [go_sem]; done) | (simp [go_sem, *]; done))
      have f7_4_1 := hb7.free (b := q) (o := 1) (v := .int .u64 (lo (R))) (by first | with_reducible exact c5_4_1 | (simp [go_sem]; done) | (simp [go_sem, *]; done)) (by first | with_reducible exact f5_4_1 | (simp [go_sem]; done) | (simp [go_sem, *]; done))
      clear hz7
      rw [HA.out]
      go_wp2_with fail
      refine (cut_to _ _ (by omega) (by omega) _).mono ?_
      rintro e w9 ⟨rfl, hb9⟩
      have hz9 := hb9.size
      (try simp at hz9)
      have z9_0 : w.heap.size < w9.heap.size := (by omega)
      have c9_0_0 := hb9.get (b := w.heap.size) (o := 0) (v := .int .u64 (hi (a))) (by first | with_reducible exact c7_0_0 | (simp [go_sem]; done) | (simp [go_sem, *]; done))
      have c9_0_1 := hb9.get (b := w.heap.size) (o := 1) (v := .int .u64 (lo (a))) (by first | with_reducible exact c7_0_1 | (simp [go_sem]; done) | (simp [go_sem, *]; done))
      have z9_1 : w.heap.size + 1 < w9.heap.size := (by omega)
      have c9_1_0 := hb9.get (b := w.heap.size + 1) (o := 0) (v := .int .u64 (hi (b))) (by first | with_reducible exact c7_1_0 | (simp [go_sem]; done) | (simp [go_sem, *]; done))
      have c9_1_1 := hb9.get (b := w.heap.size + 1) (o := 1) (v := .int .u64 (lo (b))) (by first | with_reducible exact c7_1_1 | (simp [go_sem]; done) | (simp [go_sem, *]; done))
      have z9_2 : w.heap.size + 1 + 1 < w9.heap.size := (by omega)
      have c9_2_0 := hb9.get (b := w.heap.size + 1 + 1) (o := 0) (v := .int .i64 0) (by first | with_reducible exact c7_2_0 | (simp [go_sem]; done) | (simp [go_sem, *]; done))
      have f9_2_0 := hb9.free (b := w.heap.size + 1 + 1) (o := 0) (v := .int .i64 0) (by first | with_reducible exact c7_2_0 | (simp [go_sem]; done) | (simp [go_sem, *]; done)) (by first | with_reducible exact f7_2_0 | (simp [go_sem]; done) | (simp [go_sem, *]; done))
      have c9_2_1 := hb9.get (b := w.heap.size + 1 + 1) (o := 1) (v := .int .u64 0) (by first | with_reducible exact c7_2_1 | (simp [go_sem]; done) | (simp [go_sem, *]; done))
      have f9_2_1 := hb9.free (b := w.heap.size + 1 + 1) (o := 1) (v := .int .u64 0) (by first | with_reducible exact c7_2_1 | (simp [go_sem]; done) | (simp [go_sem, *]; done)) (by first | with_reducible exact f7_2_1 | (simp [go_sem]; done) | (simp [go_sem, *]; done))
      have c9_2_2 := hb9.get (b := w.heap.size + 1 + 1) (o := 2) (v := .int .u64 0) (by first | with_reducible exact c7_2_2 | (simp [go_sem]; done) | (simp [go_sem, *]; done))
      have f9_2_2 := hb9.free (b := w.heap.size + 1 + 1) (o := 2) (v := .int .u64 0) (by first | with_reducible exact c7_2_2 | (simp [go_sem]; done) | (simp [go_sem, *]; done)) (by first | with_reducible exact f7_2_2 | (simp [go_sem]; done) | (simp [go_sem, *]; done))
      have z9_3 : p < w9.heap.size := (by omega)
      have c9_3_0 := hb9.get (b := p) (o := 0) (v := .int .u64 (hi (Q))) (by first | with_reducible exact c7_3_0 | (simp [go_sem]; done) | (simp [go_sem, *]; done))
      have f9_3_0 := hb9.free (b := p) (o := 0) (v := .int .u64 (hi (Q))) (by first | with_reducible exact c7_3_0 | (simp [go_sem]; done) | (simp [go_sem, *]; done)) (by first | with_reducible exact f7_3_0 | (simp [go_sem]; done) | (simp [go_sem, *]; done))
      have c9_3_1 := hb9.get (b := p) (o := 1) (v := .int .u64 (lo (Q))) (by first | with_reducible exact c7_3_1 | (simp [go_sem]; done) | (simp [go_sem, *]; done))
      have f9_3_1 := hb9.free (b := p) (o := 1) (v := .int .u64 (lo (Q))) (by first | with_reducible exact c7_3_1 | (simp [go_sem]; done) | (simp [go_sem, *]; done)) (by first | with_reducible exact f7_3_1 | (simp [go_sem]; done) | (simp [go_sem, *]; done))
      have z9_4 : q < w9.heap.size := (by omega)
      have c9_4_0 := hb9.get (b := q) (o := 0) (v := .int .u64 (hi (R))) (by first | with_reducible exact c7_4_0 | (simp [go_sem]; done) | (simp [go_sem, *]; done))
      have f9_4_0 := hb9.free (b := q) (o := 0) (v := .int .u64 (hi (R))) (by first | with_reducible exact c7_4_0 | (simp [go_sem]; done) | (simp [go_sem, *]; done)) (by first | with_reducible exact f7_4_0 | (simp [go_sem]; done) | (simp [go_sem, *]; done))
      have c9_4_1 := hb9.get (b := q) (o := 1) (v := .int .u64 (lo (R))) (by first | with_reducible exact c7_4_1 | (simp [go_sem]; done) | (simp [go_sem, *]; done))
      have f9_4_1 := hb9.free (b := q) (o := 1) (v := .int .u64 (lo (R))) (by first | with_reducible exact c7_4_1 | (simp [go_sem]; done) | (simp [go_sem, *]; done)) (by first | with_reducible exact f7_4_1 | (simp [go_sem]; done) | (simp [go_sem, *]; done))
      clear hz9
      go_wp2
      have HE : Hid (dsI false a b Q R = R) := by unfold dsI; rw [HA.out, HB.out]; rfl
      rw [HE.out]
      exact bodyPost_ret (v := bv W (cutI W.toNat (R))) (by simp [results, Try.results15, go_sem, *]) rfl ⟨rfl, by repeat (first | with_reducible exact Fr.refl _ | with_reducible apply Fr.drewN | with_reducible apply Fr.drew | with_reducible apply Fr.alloc | (with_reducible refine Fr.set ?_ (by simp; try omega) _) | (with_reducible refine Fr.call ?_ (by assumption)))⟩
    · refine (wneg_any _ _).mono ?_
      rintro e w6 ⟨rfl, hb6⟩
      have hz6 := hb6.size
      (try simp at hz6)
      have z6_0 : w.heap.size < w6.heap.size := (by omega)
      have c6_0_0 := hb6.get (b := w.heap.size) (o := 0) (v := .int .u64 (hi (a))) (by first | with_reducible exact c5_0_0 | (simp [go_sem]; done) | (simp [go_sem, *]; done))
      have c6_0_1 := hb6.get (b := w.heap.size) (o := 1) (v := .int .u64 (lo (a))) (by first | with_reducible exact c5_0_1 | (simp [go_sem]; done) | (simp [go_sem, *]; done))
      have z6_1 : w.heap.size + 1 < w6.heap.size := (by omega)
      have c6_1_0 := hb6.get (b := w.heap.size + 1) (o := 0) (v := .int .u64 (hi (b))) (by first | with_reducible exact c5_1_0 | (simp [go_sem]; done) | (simp [go_sem, *]; done))
      have c6_1_1 := hb6.get (b := w.heap.size + 1) (o := 1) (v := .int .u64 (lo (b))) (by first | with_reducible exact c5_1_1 | (simp [go_sem]; done) | (simp [go_sem, *]; done))
      have z6_2 : w.heap.size + 1 + 1 < w6.heap.size := (by omega)
      have c6_2_0 := hb6.get (b := w.heap.size + 1 + 1) (o := 0) (v := .int .i64 0) (by first | with_reducible exact c5_2_0 | (simp [go_sem]; done) | (simp [go_sem, *]; done))
      have f6_2_0 := hb6.free (b := w.heap.size + 1 + 1) (o := 0) (v := .int .i64 0) (by first | with_reducible exact c5_2_0 | (simp [go_sem]; done) | (simp [go_sem, *]; done)) (by first | with_reducible exact f5_2_0 | (simp [go_sem]; done) | (simp [go_sem, *]; done))
      have c6_2_1 := hb6.get (b := w.heap.size + 1 + 1) (o := 1) (v := .int .u64 0) (by first | with_reducible exact c5_2_1 | (simp [go_sem]; done) | (simp [go_sem, *]; done))
      have f6_2_1 := hb6.free (b := w.heap.size + 1 + 1) (o := 1) (v := .int .u64 0) (by first | with_reducible exact c5_2_1 | (simp [go_sem]; done) | (simp [go_sem, *]; done)) (by first | with_reducible exact f5_2_1 | (simp [go_sem]; done) | (simp [go_sem, *]; done))
      have c6_2_2 := hb6.get (b := w.heap.size + 1 + 1) (o := 2) (v := .int .u64 0) (by first | with_reducible exact c5_2_2 | (simp [go_sem]; done) | (simp [go_sem, *]; done))
      have f6_2_2 := hb6.free (b := w.heap.size + 1 + 1) (o := 2) (v := .int .u64 0) (by first | with_reducible exact c5_2_2 | (simp [go_sem]; done) | (simp [go_sem, *]; done)) (by first | with_reducible exact f5_2_2 | (simp [go_sem]; done) | (simp [go_sem, *]; done))
      have z6_3 : p < w6.heap.size := (by omega)
      have c6_3_0 := hb6.get (b := p) (o := 0) (v := .int .u64 (hi (Q))) (by first | with_reducible exact c5_3_0 | (simp [go_sem]; done) | (simp [go_sem, *]; done))
      have f6_3_0 := hb6.free (b := p) (o := 0) (v := .int .u64 (hi (Q))) (by first | with_reducible exact c5_3_0 | (simp [go_sem]; done) | (simp [go_sem, *]; done)) (by first | with_reducible exact f5_3_0 | (simp [go_sem]; done) | (simp [go_sem, *]; done))
      have c6_3_1 := hb6.get (b := p) (o := 1) (v := .int .u64 (lo (Q))) (by first | with_reducible exact c5_3_1 | (simp [go_sem]; done) | (simp [go_sem, *]; done))
      have f6_3_1 := hb6.free (b := p) (o := 1) (v := .int .u64 (lo (Q))) (by first | with_reducible exact c5_3_1 | (simp [go_sem]; done) | (simp [go_sem, *]; done)) (by first | with_reducible exact f5_3_1 | (simp [go_sem]; done) | (simp [go_sem, *]; done))
      have z6_4 : q < w6.heap.size := (by omega)
      have c6_4_0 := hb6.get (b := q) (o := 0) (v := .int .u64 (hi (R))) (by first | with_reducible exact c5_4_0 | (simp [go_sem]; done) | (simp [go_sem, *]; done))
      have f6_4_0 := hb6.free (b := q) (o := 0) (v := .int .u64 (hi (R))) (by first | with_reducible exact c5_4_0 | (simp [go_sem]; done) | (simp [go_sem, *]; done)) (by first | with_reducible exact f5_4_0 | (simp [go_sem]; done) | (simp [go_sem, *]; done))
      have c6_4_1 := hb6.get (b := q) (o := 1) (v := .int .u64 (lo (R))) (by first | with_reducible exact c5_4_1 | (simp [go_sem]; done) | (simp [go_sem, *]; done))
      have f6_4_1 := hb6.free (b := q) (o := 1) (v := .int .u64 (lo (R))) (by first | with_reducible exact c5_4_1 | (simp [go_sem]; done) | (simp [go_sem, *]; done)) (by first | with_reducible exact f5_4_1 | (simp [go_sem]; done) | (simp [go_sem, *]; done))
      clear hz6
      go_wp2_with fail
      refine (below0_any _ _).mono ?_
      rintro e w7 ⟨rfl, hb7⟩
      have hz7 := hb7.size
      (try simp at hz7)
      have z7_0 : w.heap.size < w7.heap.size := (by omega)
      have c7_0_0 := hb7.get (b := w.heap.size) (o := 0) (v := .int .u64 (hi (a))) (by first | with_reducible exact c6_0_0 | (simp [go_sem]; done) | (simp [go_sem, *]; done))
      have c7_0_1 := hb7.get (b := w.heap.size) (o := 1) (v := .int .u64 (lo (a))) (by first | with_reducible exact c6_0_1 | (simp [go_sem]; done) | (simp [go_sem, *]; done))
      have z7_1 : w.heap.size + 1 < w7.heap.size := (by omega)
      have c7_1_0 := hb7.get (b := w.heap.size + 1) (o := 0) (v := .int .u64 (hi (b))) (by first | with_reducible exact c6_1_0 | (simp [go_sem]; done) | (simp [go_sem, *]; done))
      have c7_1_1 := hb7.get (b := w.heap.size + 1) (o := 1) (v := .int .u64 (lo (b))) (by first | with_reducible exact c6_1_1 | (simp [go_sem]; done) | (simp [go_sem, *]; done))
      have z7_2 : w.heap.size + 1 + 1 < w7.heap.size := (by omega)
      have c7_2_0 := hb7.get (b := w.heap.size + 1 + 1) (o := 0) (v := .int .i64 0) (by first | with_reducible exact c6_2_0 | (simp [go_sem]; done) | (simp [go_sem, *]; done))
      have f7_2_0 := hb7.free (b := w.heap.size + 1 + 1) (o := 0) (v := .int .i64 0) (by first | with_reducible exact c6_2_0 | (simp [go_sem]; done) | (simp [go_sem, *]; done)) (by first | with_reducible exact f6_2_0 | (simp [go_sem]; done) | (simp [go_sem, *]; done))
      have c7_2_1 := hb7.get (b := w.heap.size + 1 + 1) (o := 1) (v := .int .u64 0) (by first | with_reducible exact c6_2_1 | (simp [go_sem]; done) | (simp [go_sem, *]; done))
      have f7_2_1 := hb7.free (b := w.heap.size + 1 + 1) (o := 1) (v := .int .u64 0) (by first | with_reducible exact c6_2_1 | (simp [go_sem]; done) | (simp [go_sem, *]; done)) (by first | with_reducible exact f6_2_1 | (simp [go_sem]; done) | (simp [go_sem, *]; done))
      have c7_2_2 := hb7.get (b := w.heap.size + 1 + 1) (o := 2) (v := .int .u64 0) (by first | with_reducible exact c6_2_2 | (simp [go_sem]; done) | (simp [go_sem, *]; done))
      have f7_2_2 := hb7.free (b := w.heap.size + 1 + 1) (o := 2) (v := .int .u64 0) (by first | with_reducible exact c6_2_2 | (simp [go_sem]; done) | (simp [go_sem, *]; done)) (by first | with_reducible exact f6_2_2 | (simp [go_sem]; done) | (simp [go_sem, *]; done))
      have z7_3 : p < w7.heap.size := (by omega)
      have c7_3_0 := hb7.get (b := p) (o := 0) (v := .int .u64 (hi (-Q))) (by first | with_reducible exact c6_3_0 | (simp [go_sem]; done) | (simp [go_sem, *]; done))
      have f7_3_0 := hb7.free (b := p) (o := 0) (v := .int .u64 (hi (-Q))) (by first | with_reducible exact c6_3_0 | (simp [go_sem]; done) | (simp [go_sem, *]; done)) (by first | with_reducible exact f6_3_0 | (simp [go_sem]; done) | (simp [go_sem, *]; done))
      have c7_3_1 := hb7.get (b := p) (o := 1) (v := .int .u64 (lo (-Q))) (by first | with_reducible exact c6_3_1 | (simp [go_sem]; done) | (simp [go_sem, *]; done))
      have f7_3_1 := hb7.free (b := p) (o := 1) (v := .int .u64 (lo (-Q))) (by first | with_reducible exact c6_3_1 | (simp [go_sem]; done) | (simp [go_sem, *]; done)) (by first | with_reducible exact f6_3_1 | (simp [go_sem]; done) | (simp [go_sem, *]; done))
      have z7_4 : q < w7.heap.size := (by omega)
      have c7_4_0 := hb7.get (b := q) (o := 0) (v := .int .u64 (hi (R))) (by first | with_reducible exact c6_4_0 | (simp [go_sem]; done) | (simp [go_sem, *]; done))
      have f7_4_0 := hb7.free (b := q) (o := 0) (v := .int .u64 (hi (R))) (by first | with_reducible exact c6_4_0 | (simp [go_sem]; done) | (simp [go_sem, *]; done)) (by first | with_reducible exact f6_4_0 | (simp [go_sem]; done) | (simp [go_sem, *]; done))
      have c7_4_1 := hb7.get (b := q) (o := 1) (v := .int .u64 (lo (R))) (by first | with_reducible exact c6_4_1 | (simp [go_sem]; done) | (simp [go_sem, *]; done))
      have f7_4_1 := hb7.free (b := q) (o := 1) (v := .int .u64 (lo (R))) (by first | with_reducible exact c6_4_1 | (simp [go_sem]; done) | (simp [go_sem, *]; done)) (by first | with_reducible exact f6_4_1 | (simp [go_sem]; done) | (simp [go_sem, *]; done))
      clear hz7
      rw [HA.out]
      go_wp2_with fail
      refine (cut_to _ _ (by omega) (by omega) _).mono ?_
      rintro e w9 ⟨rfl, hb9⟩
      have hz9 := hb9.size
      (try simp at hz9)
      have z9_0 : w.heap.size < w9.heap.size := (by omega)
      have c9_0_0 := hb9.get (b := w.heap.size) (o := 0) (v := .int .u64 (hi (a))) (by first | with_reducible exact c7_0_0 | (simp [go_sem]; done) | (simp [go_sem, *]; done))
      have c9_0_1 := hb9.get (b := w.heap.size) (o := 1) (v := .int .u64 (lo (a))) (by first | with_reducible exact c7_0_1 | (simp [go_sem]; done) | (simp [go_sem, *]; done))
      have z9_1 : w.heap.size + 1 < w9.heap.size := (by omega)
      have c9_1_0 := hb9.get (b := w.heap.size + 1) (o := 0) (v := .int .u64 (hi (b))) (by first | with_reducible exact c7_1_0 | (simp [go_sem]; done) | (simp [go_sem, *]; done))
      have c9_1_1 := hb9.get (b := w.heap.size + 1) (o := 1) (v := .int .u64 (lo (b))) (by first | with_reducible exact c7_1_1 | (simp [go_sem]; done) | (simp [go_sem, *]; done))
      have z9_2 : w.heap.size + 1 + 1 < w9.heap.size := (by omega)
      have c9_2_0 := hb9.get (b := w.heap.size + 1 + 1) (o := 0) (v := .int .i64 0) (by first | with_reducible exact c7_2_0 | (simp [go_sem]; done) | (simp [go_sem, *]; done))
      have f9_2_0 := hb9.free (b := w.heap.size + 1 + 1) (o := 0) (v := .int .i64 0) (by first | with_reducible exact c7_2_0 | (simp [go_sem]; done) | (simp [go_sem, *]; done)) (by first | with_reducible exact f7_2_0 | (simp [go_sem]; done) | (simp [go_sem, *]; done))
      have c9_2_1 := hb9.get (b := w.heap.size + 1 + 1) (o := 1) (v := .int .u64 0) (by first | with_reducible exact c7_2_1 | (simp [go_sem]; done) | (simp [go_sem, *]; done))
      have f9_2_1 := hb9.free (b := w.heap.size + 1 + 1) (o := 1) (v := .int .u64 0) (by first | with_reducible exact c7_2_1 | (simp [go_sem]; done) | (simp [go_sem, *]; done)) (by first | with_reducible exact f7_2_1 | (simp [go_sem]; done) | (simp [go_sem, *]; done))
      have c9_2_2 := hb9.get (b := w.heap.size + 1 + 1) (o := 2) (v := .int .u64 0) (by first | with_reducible exact c7_2_2 | (simp [go_sem]; done) | (simp [go_sem, *]; done))
      have f9_2_2 := hb9.free (b := w.heap.size + 1 + 1) (o := 2) (v := .int .u64 0) (by first | with_reducible exact c7_2_2 | (simp [go_sem]; done) | (simp [go_sem, *]; done)) (by first | with_reducible exact f7_2_2 | (simp [go_sem]; done) | (simp [go_sem, *]; done))
      have z9_3 : p < w9.heap.size := (by omega)
      have c9_3_0 := hb9.get (b := p) (o := 0) (v := .int .u64 (hi (-Q))) (by first | with_reducible exact c7_3_0 | (simp [go_sem]; done) | (simp [go_sem, *]; done))
      have f9_3_0 := hb9.free (b := p) (o := 0) (v := .int .u64 (hi (-Q))) (by first | with_reducible exact c7_3_0 | (simp [go_sem]; done) | (simp [go_sem, *]; done)) (by first | with_reducible exact f7_3_0 | (simp [go_sem]; done) | (simp [go_sem, *]; done))
      have c9_3_1 := hb9.get (b := p) (o := 1) (v := .int .u64 (lo (-Q))) (by first | with_reducible exact c7_3_1 | (simp [go_sem]; done) | (simp [go_sem, *]; done))
      have f9_3_1 := hb9.free (b := p) (o := 1) (v := .int .u64 (lo (-Q))) (by first | with_reducible exact c7_3_1 | (simp [go_sem]; done) | (simp [go_sem, *]; done)) (by first | with_reducible exact f7_3_1 | (simp [go_sem]; done) | (simp [go_sem, *]; done))
      have z9_4 : q < w9.heap.size := (by omega)
      have c9_4_0 := hb9.get (b := q) (o := 0) (v := .int .u64 (hi (R))) (by first | with_reducible exact c7_4_0 | (simp [go_sem]; done) | (simp [go_sem, *]; done))
      have f9_4_0 := hb9.free (b := q) (o := 0) (v := .int .u64 (hi (R))) (by first | with_reducible exact c7_4_0 | (simp [go_sem]; done) | (simp [go_sem, *]; done)) (by first | with_reducible exact f7_4_0 | (simp [go_sem]; done) | (simp [go_sem, *]; done))
      have c9_4_1 := hb9.get (b := q) (o := 1) (v := .int .u64 (lo (R))) (by first | with_reducible exact c7_4_1 | (simp [go_sem]; done) | (simp [go_sem, *]; done))
      have f9_4_1 := hb9.free (b := q) (o := 1) (v := .int .u64 (lo (R))) (by first | with_reducible exact c7_4_1 | (simp [go_sem]; done) | (simp [go_sem, *]; done)) (by first | with_reducible exact f7_4_1 | (simp [go_sem]; done) | (simp [go_sem, *]; done))
      clear hz9
      go_wp2
      have HE : Hid (dsI false a b Q R = R) := by unfold dsI; rw [HA.out, HB.out]; rfl
      rw [HE.out]
      exact bodyPost_ret (v := bv W (cutI W.toNat (R))) (by simp [results, Try.results15, go_sem, *]) rfl ⟨rfl, by repeat (first | with_reducible exact Fr.refl _ | with_reducible apply Fr.drewN | with_reducible apply Fr.drew | with_reducible apply Fr.alloc | (with_reducible refine Fr.set ?_ (by simp; try omega) _) | (with_reducible refine Fr.call ?_ (by assumption)))⟩
    · refine (wneg_any _ _).mono ?_
      rintro e w6 ⟨rfl, hb6⟩
      have hz6 := hb6.size
      (try simp at hz6)
      have z6_0 : w.heap.size < w6.heap.size := (by omega)
      have c6_0_0 := hb6.get (b := w.heap.size) (o := 0) (v := .int .u64 (hi (a))) (by first | with_reducible exact c5_0_0 | (simp [go_sem]; done) | (simp [go_sem, *]; done))
      have c6_0_1 := hb6.get (b := w.heap.size) (o := 1) (v := .int .u64 (lo (a))) (by first | with_reducible exact c5_0_1 | (simp [go_sem]; done) | (simp [go_sem, *]; done))
      have z6_1 : w.heap.size + 1 < w6.heap.size := (by omega)
      have c6_1_0 := hb6.get (b := w.heap.size + 1) (o := 0) (v := .int .u64 (hi (b))) (by first | with_reducible exact c5_1_0 | (simp [go_sem]; done) | (simp [go_sem, *]; done))
      have c6_1_1 := hb6.get (b := w.heap.size + 1) (o := 1) (v := .int .u64 (lo (b))) (by first | with_reducible exact c5_1_1 | (simp [go_sem]; done) | (simp [go_sem, *]; done))
      have z6_2 : w.heap.size + 1 + 1 < w6.heap.size := (by omega)
      have c6_2_0 := hb6.get (b := w.heap.size + 1 + 1) (o := 0) (v := .int .i64 0) (by first | with_reducible exact c5_2_0 | (simp [go_sem]; done) | (simp [go_sem, *]; done))
      have f6_2_0 := hb6.free (b := w.heap.size + 1 + 1) (o := 0) (v := .int .i64 0) (by first | with_reducible exact c5_2_0 | (simp [go_sem]; done) | (simp [go_sem, *]; done)) (by first | with_reducible exact f5_2_0 | (simp [go_sem]; done) | (simp [go_sem, *]; done))
      have c6_2_1 := hb6.get (b := w.heap.size + 1 + 1) (o := 1) (v := .int .u64 0) (by first | with_reducible exact c5_2_1 | (simp [go_sem]; done) | (simp [go_sem, *]; done))
      have f6_2_1 := hb6.free (b := w.heap.size + 1 + 1) (o := 1) (v := .int .u64 0) (by first | with_reducible exact c5_2_1 | (simp [go_sem]; done) | (simp [go_sem, *]; done)) (by first | with_reducible exact f5_2_1 | (simp [go_sem]; done) | (simp [go_sem, *]; done))
      have c6_2_2 := hb6.get (b := w.heap.size + 1 + 1) (o := 2) (v := .int .u64 0) (by first | with_reducible exact c5_2_2 | (simp [go_sem]; done) | (simp [go_sem, *]; done))
      have f6_2_2 := hb6.free (b := w.heap.size + 1 + 1) (o := 2) (v := .int .u64 0) (by first | with_reducible exact c5_2_2 | (simp [go_sem]; done) | (simp [go_sem, *]; done)) (by first | with_reducible exact f5_2_2 | (simp [go_sem]; done) | (simp [go_sem, *]; done))
      have z6_3 : p < w6.heap.size := (by omega)
      have c6_3_0 := hb6.get (b := p) (o := 0) (v := .int .u64 (hi (Q))) (by first | with_reducible exact c5_3_0 | (simp [go_sem]; done) | (simp [go_sem, *]; done))
      have f6_3_0 := hb6.free (b := p) (o := 0) (v := .int .u64 (hi (Q))) (by first | with_reducible exact c5_3_0 | (simp [go_sem]; done) | (simp [go_sem, *]; done)) (by first | with_reducible exact f5_3_0 | (simp [go_sem]; done) | (simp [go_sem, *]; done))
      have c6_3_1 := hb6.get (b := p) (o := 1) (v := .int .u64 (lo (Q))) (by first | with_reducible exact c5_3_1 | (simp [go_sem]; done) | (simp [go_sem, *]; done))
      have f6_3_1 := hb6.free (b := p) (o := 1) (v := .int .u64 (lo (Q))) (by first | with_reducible exact c5_3_1 | (simp [go_sem]; done) | (simp [go_sem, *]; done)) (by first | with_reducible exact f5_3_1 | (simp [go_sem]; done) | (simp [go_sem, *]; done))
      have z6_4 : q < w6.heap.size := (by omega)
      have c6_4_0 := hb6.get (b := q) (o := 0) (v := .int .u64 (hi (R))) (by first | with_reducible exact c5_4_0 | (simp [go_sem]; done) | (simp [go_sem, *]; done))
      have f6_4_0 := hb6.free (b := q) (o := 0) (v := .int .u64 (hi (R))) (by first | with_reducible exact c5_4_0 | (simp [go_sem]; done) | (simp [go_sem, *]; done)) (by first | with_reducible exact f5_4_0 | (simp [go_sem]; done) | (simp [go_sem, *]; done))
      have c6_4_1 := hb6.get (b := q) (o := 1) (v := .int .u64 (lo (R))) (by first | with_reducible exact c5_4_1 | (simp [go_sem]; done) | (simp [go_sem, *]; done))
      have f6_4_1 := hb6.free (b := q) (o := 1) (v := .int .u64 (lo (R))) (by first | with_reducible exact c5_4_1 | (simp [go_sem]; done) | (simp [go_sem, *]; done)) (by first | with_reducible exact f5_4_1 | (simp [go_sem]; done) | (simp [go_sem, *]; done))
      clear hz6
      go_wp2_with fail
      refine (below0_any _ _).mono ?_
      rintro e w7 ⟨rfl, hb7⟩
      have hz7 := hb7.size
      (try simp at hz7)
      have z7_0 : w.heap.size < w7.heap.size := (by omega)
      have c7_0_0 := hb7.get (b := w.heap.size) (o := 0) (v := .int .u64 (hi (a))) (by first | with_reducible exact c6_0_0 | (simp [go_sem]; done) | (simp [go_sem, *]; done))
      have c7_0_1 := hb7.get (b := w.heap.size) (o := 1) (v := .int .u64 (lo (a))) (by first | with_reducible exact c6_0_1 | (simp [go_sem]; done) | (simp [go_sem, *]; done))
      have z7_1 : w.heap.size + 1 < w7.heap.size := (by omega)
      have c7_1_0 := hb7.get (b := w.heap.size + 1) (o := 0) (v := .int .u64 (hi (b))) (by first | with_reducible exact c6_1_0 | (simp [go_sem]; done) | (simp [go_sem, *]; done))
      have c7_1_1 := hb7.get (b := w.heap.size + 1) (o := 1) (v := .int .u64 (lo (b))) (by first | with_reducible exact c6_1_1 | (simp [go_sem]; done) | (simp [go_sem, *]; done))
      have z7_2 : w.heap.size + 1 + 1 < w7.heap.size := (by omega)
      have c7_2_0 := hb7.get (b := w.heap.size + 1 + 1) (o := 0) (v := .int .i64 0) (by first | with_reducible exact c6_2_0 | (simp [go_sem]; done) | (simp [go_sem, *]; done))
      have f7_2_0 := hb7.free (b := w.heap.size + 1 + 1) (o := 0) (v := .int .i64 0) (by first | with_reducible exact c6_2_0 | (simp [go_sem]; done) | (simp [go_sem, *]; done)) (by first | with_reducible exact f6_2_0 | (simp [go_sem]; done) | (simp [go_sem, *]; done))
      have c7_2_1 := hb7.get (b := w.heap.size + 1 + 1) (o := 1) (v := .int .u64 0) (by first | with_reducible exact c6_2_1 | (simp [go_sem]; done) | (simp [go_sem, *]; done))
      have f7_2_1 := hb7.free (b := w.heap.size + 1 + 1) (o := 1) (v := .int .u64 0) (by first | with_reducible exact c6_2_1 | (simp [go_sem]; done) | (simp [go_sem, *]; done)) (by first | with_reducible exact f6_2_1 | (simp [go_sem]; done) | (simp [go_sem, *]; done))
      have c7_2_2 := hb7.get (b := w.heap.size + 1 + 1) (o := 2) (v := .int .u64 0) (by first | with_reducible exact c6_2_2 | (simp [go_sem]; done) | (simp [go_sem, *]; done))
      have f7_2_2 := hb7.free (b := w.heap.size + 1 + 1) (o := 2) (v := .int .u64 0) (by first | with_reducible exact c6_2_2 | (simp [go_sem]; done) | (simp [go_sem, *]; done)) (by first | with_reducible exact f6_2_2 | (simp [go_sem]; done) | (simp [go_sem, *]; done))
      have z7_3 : p < w7.heap.size := (by omega)
      have c7_3_0 := hb7.get (b := p) (o := 0) (v := .int .u64 (hi (-Q))) (by first | with_reducible exact c6_3_0 | (simp [go_sem]; done) | (simp [go_sem, *]; done))
      have f7_3_0 := hb7.free (b := p) (o := 0) (v := .int .u64 (hi (-Q))) (by first | with_reducible exact c6_3_0 | (simp [go_sem]; done) | (simp [go_sem, *]; done)) (by first | with_reducible exact f6_3_0 | (simp [go_sem]; done) | (simp [go_sem, *]; done))
      have c7_3_1 := hb7.get (b := p) (o := 1) (v := .int .u64 (lo (-Q))) (by first | with_reducible exact c6_3_1 | (simp [go_sem]; done) | (simp [go_sem, *]; done))
      have f7_3_1 := hb7.free (b := p) (o := 1) (v := .int .u64 (lo (-Q))) (by first | with_reducible exact c6_3_1 | (simp [go_sem]; done) | (simp [go_sem, *]; done)) (by first | with_reducible exact f6_3_1 | (simp [go_sem]; done) | (simp [go_sem, *]; done))
      have z7_4 : q < w7.heap.size := (by omega)
      have c7_4_0 := hb7.get (b := q) (o := 0) (v := .int .u64 (hi (R))) (by first | with_reducible exact c6_4_0 | (simp [go_sem]; done) | (simp [go_sem, *]; done))
      have f7_4_0 := hb7.free (b := q) (o := 0) (v := .int .u64 (hi (R))) (by first | with_reducible exact c6_4_0 | (simp [go_sem]; done) | (simp [go_sem, *]; done)) (by first | with_reducible exact f6_4_0 | (simp [go_sem]; done) | (simp [go_sem, *]; done))
      have c7_4_1 := hb7.get (b := q) (o := 1) (v := .int .u64 (lo (R))) (by first | with_reducible exact c6_4_1 | (simp [go_sem]; done) | (simp [go_sem, *]; done))
      have f7_4_1 := hb7.free (b := q) (o := 1) (v := .int .u64 (lo (R))) (by first | with_reducible exact c6_4_1 | (simp [go_sem]; done) | (simp [go_sem, *]; done)) (by first | with_reducible exact f6_4_1 | (simp [go_sem]; done) | (simp [go_sem, *]; done))
      clear hz7
      rw [HA.out]
      go_wp2_with fail
      refine (wneg_any _ _).mono ?_
      rintro e w8 ⟨rfl, hb8⟩
      have hz8 := hb8.size
      (try simp at hz8)
      have z8_0 : w.heap.size < w8.heap.size := (by omega)
      have c8_0_0 := hb8.get (b := w.heap.size) (o := 0) (v := .int .u64 (hi (a))) (by first | with_reducible exact c7_0_0 | (simp [go_sem]; done) | (simp [go_sem, *]; done))
      have c8_0_1 := hb8.get (b := w.heap.size) (o := 1) (v := .int .u64 (lo (a))) (by first | with_reducible exact c7_0_1 | (simp [go_sem]; done) | (simp [go_sem, *]; done))
      have z8_1 : w.heap.size + 1 < w8.heap.size := (by omega)
      have c8_1_0 := hb8.get (b := w.heap.size + 1) (o := 0) (v := .int .u64 (hi (b))) (by first | with_reducible exact c7_1_0 | (simp [go_sem]; done) | (simp [go_sem, *]; done))
      have c8_1_1 := hb8.get (b := w.heap.size + 1) (o := 1) (v := .int .u64 (lo (b))) (by first | with_reducible exact c7_1_1 | (simp [go_sem]; done) | (simp [go_sem, *]; done))
      have z8_2 : w.heap.size + 1 + 1 < w8.heap.size := (by omega)
      have c8_2_0 := hb8.get (b := w.heap.size + 1 + 1) (o := 0) (v := .int .i64 0) (by first | with_reducible exact c7_2_0 | (simp [go_sem]; done) | (simp [go_sem, *]; done))
      have f8_2_0 := hb8.free (b := w.heap.size + 1 + 1) (o := 0) (v := .int .i64 0) (by first | with_reducible exact c7_2_0 | (simp [go_sem]; done) | (simp [go_sem, *]; done)) (by first | with_reducible exact f7_2_0 | (simp [go_sem]; done) | (simp [go_sem, *]; done))
      have c8_2_1 := hb8.get (b := w.heap.size + 1 + 1) (o := 1) (v := .int .u64 0) (by first | with_reducible exact c7_2_1 | (simp [go_sem]; done) | (simp [go_sem, *]; done))
      have f8_2_1 := hb8.free (b := w.heap.size + 1 + 1) (o := 1) (v := .int .u64 0) (by first | with_reducible exact c7_2_1 | (simp [go_sem]; done) | (simp [go_sem, *]; done)) (by first | with_reducible exact f7_2_1 | (simp [go_sem]; done) | (simp [go_sem, *]; done))
      have c8_2_2 := hb8.get (b := w.heap.size + 1 + 1) (o := 2) (v := .int .u64 0) (by first | with_reducible exact c7_2_2 | (simp [go_sem]; done) | (simp [go_sem, *]; done))
      have f8_2_2 := hb8.free (b := w.heap.size + 1 + 1) (o := 2) (v := .int .u64 0) (by first | with_reducible exact c7_2_2 | (simp [go_sem]; done) | (simp [go_sem, *]; done)) (by first | with_reducible exact f7_2_2 | (simp [go_sem]; done) | (simp [go_sem, *]; done))
      have z8_3 : p < w8.heap.size := (by omega)
      have c8_3_0 := hb8.get (b := p) (o := 0) (v := .int .u64 (hi (-Q))) (by first | with_reducible exact c7_3_0 | (simp [go_sem]; done) | (simp [go_sem, *]; done))
      have f8_3_0 := hb8.free (b := p) (o := 0) (v := .int .u64 (hi (-Q))) (by first | with_reducible exact c7_3_0 | (simp [go_sem]; done) | (simp [go_sem, *]; done)) (by first | with_reducible exact f7_3_0 | (simp [go_sem]; done) | (simp [go_sem, *]; done))
      have c8_3_1 := hb8.get (b := p) (o := 1) (v := .int .u64 (lo (-Q))) (by first | with_reducible exact c7_3_1 | (simp [go_sem]; done) | (simp [go_sem, *]; done))
      have f8_3_1 := hb8.free (b := p) (o := 1) (v := .int .u64 (lo (-Q))) (by first | with_reducible exact c7_3_1 | (simp [go_sem]; done) | (simp [go_sem, *]; done)) (by first | with_reducible exact f7_3_1 | (simp [go_sem]; done) | (simp [go_sem, *]; done))
      have z8_4 : q < w8.heap.size := (by omega)
      have c8_4_0 := hb8.get (b := q) (o := 0) (v := .int .u64 (hi (R))) (by first | with_reducible exact c7_4_0 | (simp [go_sem]; done) | (simp [go_sem, *]; done))
      have f8_4_0 := hb8.free (b := q) (o := 0) (v := .int .u64 (hi (R))) (by first | with_reducible exact c7_4_0 | (simp [go_sem]; done) | (simp [go_sem, *]; done)) (by first | with_reducible exact f7_4_0 | (simp [go_sem]; done) | (simp [go_sem, *]; done))
      have c8_4_1 := hb8.get (b := q) (o := 1) (v := .int .u64 (lo (R))) (by first | with_reducible exact c7_4_1 | (simp [go_sem]; done) | (simp [go_sem, *]; done))
      have f8_4_1 := hb8.free (b := q) (o := 1) (v := .int .u64 (lo (R))) (by first | with_reducible exact c7_4_1 | (simp [go_sem]; done) | (simp [go_sem, *]; done)) (by first | with_reducible exact f7_4_1 | (simp [go_sem]; done) | (simp [go_sem, *]; done))
      clear hz8
      go_wp2_with fail
      refine (cut_to _ _ (by omega) (by omega) _).mono ?_
      rintro e w9 ⟨rfl, hb9⟩
      have hz9 := hb9.size
      (try simp at hz9)
      have z9_0 : w.heap.size < w9.heap.size := (by omega)
      have c9_0_0 := hb9.get (b := w.heap.size) (o := 0) (v := .int .u64 (hi (a))) (by first | with_reducible exact c8_0_0 | (simp [go_sem]; done) | (simp [go_sem, *]; done))
      have c9_0_1 := hb9.get (b := w.heap.size) (o := 1) (v := .int .u64 (lo (a))) (by first | with_reducible exact c8_0_1 | (simp [go_sem]; done) | (simp [go_sem, *]; done))
      have z9_1 : w.heap.size + 1 < w9.heap.size := (by omega)
      have c9_1_0 := hb9.get (b := w.heap.size + 1) (o := 0) (v := .int .u64 (hi (b))) (by first | with_reducible exact c8_1_0 | (simp [go_sem]; done) | (simp [go_sem, *]; done))
      have c9_1_1 := hb9.get (b := w.heap.size + 1) (o := 1) (v := .int .u64 (lo (b))) (by first | with_reducible exact c8_1_1 | (simp [go_sem]; done) | (simp [go_sem, *]; done))
      have z9_2 : w.heap.size + 1 + 1 < w9.heap.size := (by omega)
      have c9_2_0 := hb9.get (b := w.heap.size + 1 + 1) (o := 0) (v := .int .i64 0) (by first | with_reducible exact c8_2_0 | (simp [go_sem]; done) | (simp [go_sem, *]; done))
      have f9_2_0 := hb9.free (b := w.heap.size + 1 + 1) (o := 0) (v := .int .i64 0) (by first | with_reducible exact c8_2_0 | (simp [go_sem]; done) | (simp [go_sem, *]; done)) (by first | with_reducible exact f8_2_0 | (simp [go_sem]; done) | (simp [go_sem, *]; done))
      have c9_2_1 := hb9.get (b := w.heap.size + 1 + 1) (o := 1) (v := .int .u64 0) (by first | with_reducible exact c8_2_1 | (simp [go_sem]; done) | (simp [go_sem, *]; done))
      have f9_2_1 := hb9.free (b := w.heap.size + 1 + 1) (o := 1) (v := .int .u64 0) (by first | with_reducible exact c8_2_1 | (simp [go_sem]; done) | (simp [go_sem, *]; done)) (by first | with_reducible exact f8_2_1 | (simp [go_sem]; done) | (simp [go_sem, *]; done))
      have c9_2_2 := hb9.get (b := w.heap.size + 1 + 1) (o := 2) (v := .int .u64 0) (by first | with_reducible exact c8_2_2 | (simp [go_sem]; done) | (simp [go_sem, *]; done))
      have f9_2_2 := hb9.free (b := w.heap.size + 1 + 1) (o := 2) (v := .int .u64 0) (by first | with_reducible exact c8_2_2 | (simp [go_sem]; done) | (simp [go_sem, *]; done)) (by first | with_reducible exact f8_2_2 | (simp [go_sem]; done) | (simp [go_sem, *]; done))
      have z9_3 : p < w9.heap.size := (by omega)
      have c9_3_0 := hb9.get (b := p) (o := 0) (v := .int .u64 (hi (-Q))) (by first | with_reducible exact c8_3_0 | (simp [go_sem]; done) | (simp [go_sem, *]; done))
      have f9_3_0 := hb9.free (b := p) (o := 0) (v := .int .u64 (hi (-Q))) (by first | with_reducible exact c8_3_0 | (simp [go_sem]; done) | (simp [go_sem, *]; done)) (by first | with_reducible exact f8_3_0 | (simp [go_sem]; done) | (simp [go_sem, *]; done))
      have c9_3_1 := hb9.get (b := p) (o := 1) (v := .int .u64 (lo (-Q))) (by first | with_reducible exact c8_3_1 | (simp [go_sem]; done) | (simp [go_sem, *]; done))
      have f9_3_1 := hb9.free (b := p) (o := 1) (v := .int .u64 (lo (-Q))) (by first | with_reducible exact c8_3_1 | (simp [go_sem]; done) | (simp [go_sem, *]; done)) (by first | with_reducible exact f8_3_1 | (simp [go_sem]; done) | (simp [go_sem, *]; done))
      have z9_4 : q < w9.heap.size := (by omega)
      have c9_4_0 := hb9.get (b := q) (o := 0) (v := .int .u64 (hi (-R))) (by first | with_reducible exact c8_4_0 | (simp [go_sem]; done) | (simp [go_sem, *]; done))
      have f9_4_0 := hb9.free (b := q) (o := 0) (v := .int .u64 (hi (-R))) (by first | with_reducible exact c8_4_0 | (simp [go_sem]; done) | (simp [go_sem, *]; done)) (by first | with_reducible exact f8_4_0 | (simp [go_sem]; done) | (simp [go_sem, *]; done))
      have c9_4_1 := hb9.get (b := q) (o := 1) (v := .int .u64 (lo (-R))) (by first | with_reducible exact c8_4_1 | (simp [go_sem]; done) | (simp [go_sem, *]; done))
      have f9_4_1 := hb9.free (b := q) (o := 1) (v := .int .u64 (lo (-R))) (by first | with_reducible exact c8_4_1 | (simp [go_sem]; done) | (simp [go_sem, *]; done)) (by first | with_reducible exact f8_4_1 | (simp [go_sem]; done) | (simp [go_sem, *]; done))
      clear hz9
      go_wp2
      have HE : Hid (dsI false a b Q R = -R) := by unfold dsI; rw [HA.out, HB.out]; rfl
      rw [HE.out]
      exact bodyPost_ret (v := bv W (cutI W.toNat (-R))) (by simp [results, Try.results15, go_sem, *]) rfl ⟨rfl, by repeat (first | with_reducible exact Fr.refl _ | with_reducible apply Fr.drewN | with_reducible apply Fr.drew | with_reducible apply Fr.alloc | (with_reducible refine Fr.set ?_ (by simp; try omega) _) | (with_reducible refine Fr.call ?_ (by assumption)))⟩
    · refine (below0_any _ _).mono ?_
      rintro e w7 ⟨rfl, hb7⟩
      have hz7 := hb7.size
      (try simp at hz7)
      have z7_0 : w.heap.size < w7.heap.size := (by omega)
      have c7_0_0 := hb7.get (b := w.heap.size) (o := 0) (v := .int .u64 (hi (a))) (by first | with_reducible exact c5_0_0 | (simp [go_sem]; done) | (simp [go_sem, *]; done))
      have c7_0_1 := hb7.get (b := w.heap.size) (o := 1) (v := .int .u64 (lo (a))) (by first | with_reducible exact c5_0_1 | (simp [go_sem]; done) | (simp [go_sem, *]; done))
      have z7_1 : w.heap.size + 1 < w7.heap.size := (by omega)
      have c7_1_0 := hb7.get (b := w.heap.size + 1) (o := 0) (v := .int .u64 (hi (b))) (by first | with_reducible exact c5_1_0 | (simp [go_sem]; done) | (simp [go_sem, *]; done))
      have c7_1_1 := hb7.get (b := w.heap.size + 1) (o := 1) (v := .int .u64 (lo (b))) (by first | with_reducible exact c5_1_1 | (simp [go_sem]; done) | (simp [go_sem, *]; done))
      have z7_2 : w.heap.size + 1 + 1 < w7.heap.size := (by omega)
      have c7_2_0 := hb7.get (b := w.heap.size + 1 + 1) (o := 0) (v := .int .i64 0) (by first | with_reducible exact c5_2_0 | (simp [go_sem]; done) | (simp [go_sem, *]; done))
      have f7_2_0 := hb7.free (b := w.heap.size + 1 + 1) (o := 0) (v := .int .i64 0) (by first | with_reducible exact c5_2_0 | (simp [go_sem]; done) | (simp [go_sem, *]; done)) (by first | with_reducible exact f5_2_0 | (simp [go_sem]; done) | (simp [go_sem, *]; done))
      have c7_2_1 := hb7.get (b := w.heap.size + 1 + 1) (o := 1) (v := .int .u64 0) (by first | with_reducible exact c5_2_1 | (simp [go_sem]; done) | (simp [go_sem, *]; done))
      have f7_2_1 := hb7.free (b := w.heap.size + 1 + 1) (o := 1) (v := .int .u64 0) (by first | with_reducible exact c5_2_1 | (simp [go_sem]; done) | (simp [go_sem, *]; done)) (by first | with_reducible exact f5_2_1 | (simp [go_sem]; done) | (simp [go_sem, *]; done))
      have c7_2_2 := hb7.get (b := w.heap.size + 1 + 1) (o := 2) (v := .int .u64 0) (by first | with_reducible exact c5_2_2 | (simp [go_sem]; done) | (simp [go_sem, *]; done))
      have f7_2_2 := hb7.free (b := w.heap.size + 1 + 1) (o := 2) (v := .int .u64 0) (by first | with_reducible exact c5_2_2 | (simp [go_sem]; done) | (simp [go_sem, *]; done)) (by first | with_reducible exact f5_2_2 | (simp [go_sem]; done) | (simp [go_sem, *]; done))
      have z7_3 : p < w7.heap.size := (by omega)
      have c7_3_0 := hb7.get (b := p) (o := 0) (v := .int .u64 (hi (Q))) (by first | with_reducible exact c5_3_0 | (simp [go_sem]; done) | (simp [go_sem, *]; done))
      have f7_3_0 := hb7.free (b := p) (o := 0) (v := .int .u64 (hi (Q))) (by first | with_reducible exact c5_3_0 | (simp [go_sem]; done) | (simp [go_sem, *]; done)) (by first | with_reducible exact f5_3_0 | (simp [go_sem]; done) | (simp [go_sem, *]; done))
      have c7_3_1 := hb7.get (b := p) (o := 1) (v := .int .u64 (lo (Q))) (by first | with_reducible exact c5_3_1 | (simp [go_sem]; done) | (simp [go_sem, *]; done))
      have f7_3_1 := hb7.free (b := p) (o := 1) (v := .int .u64 (lo (Q))) (by first | with_reducible exact c5_3_1 | (simp [go_sem]; done) | (simp [go_sem, *]; done)) (by first | with_reducible exact f5_3_1 | (simp [go_sem]; done) | (simp [go_sem, *]; done))
      have z7_4 : q < w7.heap.size := (by omega)
      have c7_4_0 := hb7.get (b := q) (o := 0) (v := .int .u64 (hi (R))) (by first | with_reducible exact c5_4_0 | (simp [go_sem]; done) | (simp [go_sem, *]; done))
      have f7_4_0 := hb7.free (b := q) (o := 0) (v := .int .u64 (hi (R))) (by first | with_reducible exact c5_4_0 | (simp [go_sem]; done) | (simp [go_sem, *]; done)) (by first | with_reducible exact f5_4_0 | (simp [go_sem]; done) | (simp [go_sem, *]; done))
      have c7_4_1 := hb7.get (b := q) (o := 1) (v := .int .u64 (lo (R))) (by first | with_reducible exact c5_4_1 | (simp [go_sem]; done) | (simp [go_sem, *]; done))
      have f7_4_1 := hb7.free (b := q) (o := 1) (v := .int .u64 (lo (R))) (by first | with_reducible exact c5_4_1 | (simp [go_sem]; done) | (simp [go_sem, *]; done)) (by first | with_reducible exact f5_4_1 | (simp [go_sem]; done) | (simp [go_sem, *]; done))
      clear hz7
      rw [HA.out]
      go_wp2_with fail
      refine (wneg_any _ _).mono ?_
      rintro e w8 ⟨rfl, hb8⟩
      have hz8 := hb8.size
      (try simp at hz8)
      have z8_0 : w.heap.size < w8.heap.size := (by omega)
      have c8_0_0 := hb8.get (b := w.heap.size) (o := 0) (v := .int .u64 (hi (a))) (by first | with_reducible exact c7_0_0 | (simp [go_sem]; done) | (simp [go_sem, *]; done))
      have c8_0_1 := hb8.get (b := w.heap.size) (o := 1) (v := .int .u64 (lo (a))) (by first | with_reducible exact c7_0_1 | (simp [go_sem]; done) | (simp [go_sem, *]; done))
      have z8_1 : w.heap.size + 1 < w8.heap.size := (by omega)
      have c8_1_0 := hb8.get (b := w.heap.size + 1) (o := 0) (v := .int .u64 (hi (b))) (by first | with_reducible exact c7_1_0 | (simp [go_sem]; done) | (simp [go_sem, *]; done))
      have c8_1_1 := hb8.get (b := w.heap.size + 1) (o := 1) (v := .int .u64 (lo (b))) (by first | with_reducible exact c7_1_1 | (simp [go_sem]; done) | (simp [go_sem, *]; done))
      have z8_2 : w.heap.size + 1 + 1 < w8.heap.size := (by omega)
      have c8_2_0 := hb8.get (b := w.heap.size + 1 + 1) (o := 0) (v := .int .i64 0) (by first | with_reducible exact c7_2_0 | (simp [go_sem]; done) | (simp [go_sem, *]; done))
      have f8_2_0 := hb8.free (b := w.heap.size + 1 + 1) (o := 0) (v := .int .i64 0) (by first | with_reducible exact c7_2_0 | (simp [go_sem]; done) | (simp [go_sem, *]; done)) (by first | with_reducible exact f7_2_0 | (simp [go_sem]; done) | (simp [go_sem, *]; done))
      have c8_2_1 := hb8.get (b := w.heap.size + 1 + 1) (o := 1) (v := .int .u64 0) (by first | with_reducible exact c7_2_1 | (simp [go_sem]; done) | (simp [go_sem, *]; done))
      have f8_2_1 := hb8.free (b := w.heap.size + 1 + 1) (o := 1) (v := .int .u64 0) (by first | with_reducible exact c7_2_1 | (simp [go_sem]; done) | (simp [go_sem, *]; done)) (by first | with_reducible exact f7_2_1 | (simp [go_sem]; done) | (simp [go_sem, *]; done))
      have c8_2_2 := hb8.get (b := w.heap.size + 1 + 1) (o := 2) (v := .int .u64 0) (by first | with_reducible exact c7_2_2 | (simp [go_sem]; done) | (simp [go_sem, *]; done))
      have f8_2_2 := hb8.free (b := w.heap.size + 1 + 1) (o := 2) (v := .int .u64 0) (by first | with_reducible exact c7_2_2 | (simp [go_sem]; done) | (simp [go_sem, *]; done)) (by first | with_reducible exact f7_2_2 | (simp [go_sem]; done) | (simp [go_sem, *]; done))
      have z8_3 : p < w8.heap.size := (by omega)
      have c8_3_0 := hb8.get (b := p) (o := 0) (v := .int .u64 (hi (Q))) (by first | with_reducible exact c7_3_0 | (simp [go_sem]; done) | (simp [go_sem, *]; done))
      have f8_3_0 := hb8.free (b := p) (o := 0) (v := .int .u64 (hi (Q))) (by first | with_reducible exact c7_3_0 | (simp [go_sem]; done) | (simp [go_sem, *]; done)) (by first | with_reducible exact f7_3_0 | (simp [go_sem]; done) | (simp [go_sem, *]; done))
      have c8_3_1 := hb8.get (b := p) (o := 1) (v := .int .u64 (lo (Q))) (by first | with_reducible exact c7_3_1 | (simp [go_sem]; done) | (simp [go_sem, *]; done))
      have f8_3_1 := hb8.free (b := p) (o := 1) (v := .int .u64 (lo (Q))) (by first | with_reducible exact c7_3_1 | (simp [go_sem]; done) | (simp [go_sem, *]; done)) (by first | with_reducible exact f7_3_1 | (simp [go_sem]; done) | (simp [go_sem, *]; done))
      have z8_4 : q < w8.heap.size := (by omega)
      have c8_4_0 := hb8.get (b := q) (o := 0) (v := .int .u64 (hi (R))) (by first | with_reducible exact c7_4_0 | (simp [go_sem]; done) | (simp [go_sem, *]; done))
      have f8_4_0 := hb8.free (b := q) (o := 0) (v := .int .u64 (hi (R))) (by first | with_reducible exact c7_4_0 | (simp [go_sem]; done) | (simp [go_sem, *]; done)) (by first | with_reducible exact f7_4_0 | (simp [go_sem]; done) | (simp [go_sem, *]; done))
      have c8_4_1 := hb8.get (b := q) (o := 1) (v := .int .u64 (lo (R))) (by first | with_reducible exact c7_4_1 | (simp [go_sem]; done) | (simp [go_sem, *]; done))
      have f8_4_1 := hb8.free (b := q) (o := 1) (v := .int .u64 (lo (R))) (by first | with_reducible exact c7_4_1 | (simp [go_sem]; done) | (simp [go_sem, *]; done)) (by first | with_reducible exact f7_4_1 | (simp [go_sem]; done) | (simp [go_sem, *]; done))
      clear hz8
      go_wp2_with fail
      refine (cut_to _ _ (by omega) (by omega) _).mono ?_
      rintro e w9 ⟨rfl, hb9⟩
      have hz9 := hb9.size
      (try simp at hz9)
      have z9_0 : w.heap.size < w9.heap.size := (by omega)
      have c9_0_0 := hb9.get (b := w.heap.size) (o := 0) (v := .int .u64 (hi (a))) (by first | with_reducible exact c8_0_0 | (simp [go_sem]; done) | (simp [go_sem, *]; done))
      have c9_0_1 := hb9.get (b := w.heap.size) (o := 1) (v := .int .u64 (lo (a))) (by first | with_reducible exact c8_0_1 | (simp [go_sem]; done) | (simp [go_sem, *]; done))
      have z9_1 : w.heap.size + 1 < w9.heap.size := (by omega)
      have c9_1_0 := hb9.get (b := w.heap.size + 1) (o := 0) (v := .int .u64 (hi (b))) (by first | with_reducible exact c8_1_0 | (simp [go_sem]; done) | (simp [go_sem, *]; done))
      have c9_1_1 := hb9.get (b := w.heap.size + 1) (o := 1) (v := .int .u64 (lo (b))) (by first | with_reducible exact c8_1_1 | (simp [go_sem]; done) | (simp [go_sem, *]; done))
      have z9_2 : w.heap.size + 1 + 1 < w9.heap.size := (by omega)
      have c9_2_0 := hb9.get (b := w.heap.size + 1 + 1) (o := 0) (v := .int .i64 0) (by first | with_reducible exact c8_2_0 | (simp [go_sem]; done) | (simp [go_sem, *]; done))
      have f9_2_0 := hb9.free (b := w.heap.size + 1 + 1) (o := 0) (v := .int .i64 0) (by first | with_reducible exact c8_2_0 | (simp [go_sem]; done) | (simp [go_sem, *]; done)) (by first | with_reducible exact f8_2_0 | (simp [go_sem]; done) | (simp [go_sem, *]; done))
      have c9_2_1 := hb9.get (b := w.heap.size + 1 + 1) (o := 1) (v := .int .u64 0) (by first | with_reducible exact c8_2_1 | (simp [go_sem]; done) | (simp [go_sem, *]; done))
      have f9_2_1 := hb9.free (b := w.heap.size + 1 + 1) (o := 1) (v := .int .u64 0) (by first | with_reducible exact c8_2_1 | (simp [go_sem]; done) | (simp [go_sem, *]; done)) (by first | with_reducible exact f8_2_1 | (simp [go_sem]; done) | (simp [go_sem, *]; done))
      have c9_2_2 := hb9.get (b := w.heap.size + 1 + 1) (o := 2) (v := .int .u64 0) (by first | with_reducible exact c8_2_2 | (simp [go_sem]; done) | (simp [go_sem, *]; done))
      have f9_2_2 := hb9.free (b := w.heap.size + 1 + 1) (o := 2) (v := .int .u64 0) (by first | with_reducible exact c8_2_2 | (simp [go_sem]; done) | (simp [go_sem, *]; done)) (by first | with_reducible exact f8_2_2 | (simp [go_sem]; done) | (simp [go_sem, *]; done))
      have z9_3 : p < w9.heap.size := (by omega)
      have c9_3_0 := hb9.get (b := p) (o := 0) (v := .int .u64 (hi (Q))) (by first | with_reducible exact c8_3_0 | (simp [go_sem]; done) | (simp [go_sem, *]; done))
      have f9_3_0 := hb9.free (b := p) (o := 0) (v := .int .u64 (hi (Q))) (by first | with_reducible exact c8_3_0 | (simp [go_sem]; done) | (simp [go_sem, *]; done)) (by first | with_reducible exact f8_3_0 | (simp [go_sem]; done) | (simp [go_sem, *]; done))
      have c9_3_1 := hb9.get (b := p) (o := 1) (v := .int .u64 (lo (Q))) (by first | with_reducible exact c8_3_1 | (simp [go_sem]; done) | (simp [go_sem, *]; done))
      have f9_3_1 := hb9.free (b := p) (o := 1) (v := .int .u64 (lo (Q))) (by first | with_reducible exact c8_3_1 | (simp [go_sem]; done) | (simp [go_sem, *]; done)) (by first | with_reducible exact f8_3_1 | (simp [go_sem]; done) | (simp [go_sem, *]; done))
      have z9_4 : q < w9.heap.size := (by omega)
      have c9_4_0 := hb9.get (b := q) (o := 0) (v := .int .u64 (hi (-R))) (by first | with_reducible exact c8_4_0 | (simp [go_sem]; done) | (simp [go_sem, *]; done))
      have f9_4_0 := hb9.free (b := q) (o := 0) (v := .int .u64 (hi (-R))) (by first | with_reducible exact c8_4_0 | (simp [go_sem]; done) | (simp [go_sem, *]; done)) (by first | with_reducible exact f8_4_0 | (simp [go_sem]; done) | (simp [go_sem, *]; done))
      have c9_4_1 := hb9.get (b := q) (o := 1) (v := .int .u64 (lo (-R))) (by first | with_reducible exact c8_4_1 | (simp [go_sem]; done) | (simp [go_sem, *]; done))
      have f9_4_1 := hb9.free (b := q) (o := 1) (v := .int .u64 (lo (-R))) (by first | with_reducible exact c8_4_1 | (simp [go_sem]; done) | (simp [go_sem, *]; done)) (by first | with_reducible exact f8_4_1 | (simp [go_sem]; done) | (simp [go_sem, *]; done))
      clear hz9
      go_wp2
      have HE : Hid (dsI false a b Q R = -R) := by unfold dsI; rw [HA.out, HB.out]; rfl
      rw [HE.out]
      exact bodyPost_ret (v := bv W (cutI W.toNat (-R))) (by simp [results, Try.results15, go_sem, *]) rfl ⟨rfl, by repeat (first | with_reducible exact Fr.refl _ | with_reducible apply Fr.drewN | with_reducible apply Fr.drew | with_reducible apply Fr.alloc | (with_reducible refine Fr.set ?_ (by simp; try omega) _) | (with_reducible refine Fr.call ?_ (by assumption)))⟩
    · refine (below0_any _ _).mono ?_
      rintro e w7 ⟨rfl, hb7⟩
      have hz7 := hb7.size
      (try simp at hz7)
      have z7_0 : w.heap.size < w7.heap.size := (by omega)
      have c7_0_0 := hb7.get (b := w.heap.size) (o := 0) (v := .int .u64 (hi (a))) (by first | with_reducible exact c5_0_0 | (simp [go_sem]; done) | (simp [go_sem, *]; done))
      have c7_0_1 := hb7.get (b := w.heap.size) (o := 1) (v := .int .u64 (lo (a))) (by first | with_reducible exact c5_0_1 | (simp [go_sem]; done) | (simp [go_sem, *]; done))
      have z7_1 : w.heap.size + 1 < w7.heap.size := (by omega)
      have c7_1_0 := hb7.get (b := w.heap.size + 1) (o := 0) (v := .int .u64 (hi (b))) (by first | with_reducible exact c5_1_0 | (simp [go_sem]; done) | (simp [go_sem, *]; done))
      have c7_1_1 := hb7.get (b := w.heap.size + 1) (o := 1) (v := .int .u64 (lo (b))) (by first | with_reducible exact c5_1_1 | (simp [go_sem]; done) | (simp [go_sem, *]; done))
      have z7_2 : w.heap.size + 1 + 1 < w7.heap.size := (by omega)
      have c7_2_0 := hb7.get (b := w.heap.size + 1 + 1) (o := 0) (v := .int .i64 0) (by first | with_reducible exact c5_2_0 | (simp [go_sem]; done) | (simp [go_sem, *]; done))
      have f7_2_0 := hb7.free (b := w.heap.size + 1 + 1) (o := 0) (v := .int .i64 0) (by first | with_reducible exact c5_2_0 | (simp [go_sem]; done) | (simp [go_sem, *]; done)) (by first | with_reducible exact f5_2_0 | (simp [go_sem]; done) | (simp [go_sem, *]; done))
      have c7_2_1 := hb7.get (b := w.heap.size + 1 + 1) (o := 1) (v := .int .u64 0) (by first | with_reducible exact c5_2_1 | (simp [go_sem]; done) | (simp [go_sem, *]; done))
      have f7_2_1 := hb7.free (b := w.heap.size + 1 + 1) (o := 1) (v := .int .u64 0) (by first | with_reducible exact c5_2_1 | (simp [go_sem]; done) | (simp [go_sem, *]; done)) (by first | with_reducible exact f5_2_1 | (simp [go_sem]; done) | (simp [go_sem, *]; done))
      have c7_2_2 := hb7.get (b := w.heap.size + 1 + 1) (o := 2) (v := .int .u64 0) (by first | with_reducible exact c5_2_2 | (simp [go_sem]; done) | (simp [go_sem, *]; done))
      have f7_2_2 := hb7.free (b := w.heap.size + 1 + 1) (o := 2) (v := .int .u64 0) (by first | with_reducible exact c5_2_2 | (simp [go_sem]; done) | (simp [go_sem, *]; done)) (by first | with_reducible exact f5_2_2 | (simp [go_sem]; done) | (simp [go_sem, *]; done))
      have z7_3 : p < w7.heap.size := (by omega)
      have c7_3_0 := hb7.get (b := p) (o := 0) (v := .int .u64 (hi (Q))) (by first | with_reducible exact c5_3_0 | (simp [go_sem]; done) | (simp [go_sem, *]; done))
      have f7_3_0 := hb7.free (b := p) (o := 0) (v := .int .u64 (hi (Q))) (by first | with_reducible exact c5_3_0 | (simp [go_sem]; done) | (simp [go_sem, *]; done)) (by first | with_reducible exact f5_3_0 | (simp [go_sem]; done) | (simp [go_sem, *]; done))
      have c7_3_1 := hb7.get (b := p) (o := 1) (v := .int .u64 (lo (Q))) (by first | with_reducible exact c5_3_1 | (simp [go_sem]; done) | (simp [go_sem, *]; done))
      have f7_3_1 := hb7.free (b := p) (o := 1) (v := .int .u64 (lo (Q))) (by first | with_reducible exact c5_3_1 | (simp [go_sem]; done) | (simp [go_sem, *]; done)) (by first | with_reducible exact f5_3_1 | (simp [go_sem]; done) | (simp [go_sem, *]; done))
      have z7_4 : q < w7.heap.size := (by omega)
      have c7_4_0 := hb7.get (b := q) (o := 0) (v := .int .u64 (hi (R))) (by first | with_reducible exact c5_4_0 | (simp [go_sem]; done) | (simp [go_sem, *]; done))
      have f7_4_0 := hb7.free (b := q) (o := 0) (v := .int .u64 (hi (R))) (by first | with_reducible exact c5_4_0 | (simp [go_sem]; done) | (simp [go_sem, *]; done)) (by first | with_reducible exact f5_4_0 | (simp [go_sem]; done) | (simp [go_sem, *]; done))
      have c7_4_1 := hb7.get (b := q) (o := 1) (v := .int .u64 (lo (R))) (by first | with_reducible exact c5_4_1 | (simp [go_sem]; done) | (simp [go_sem, *]; done))
      have f7_4_1 := hb7.free (b := q) (o := 1) (v := .int .u64 (lo (R))) (by first | with_reducible exact c5_4_1 | (simp [go_sem]; done) | (simp [go_sem, *]; done)) (by first | with_reducible exact f5_4_1 | (simp [go_sem]; done) | (simp [go_sem, *]; done))
      clear hz7
      rw [HA.out]
      go_wp2_with fail
      refine (cut_to _ _ (by omega) (by omega) _).mono ?_
      rintro e w9 ⟨rfl, hb9⟩
      have hz9 := hb9.size
      (try simp at hz9)
      have z9_0 : w.heap.size < w9.heap.size := (by omega)
      have c9_0_0 := hb9.get (b := w.heap.size) (o := 0) (v := .int .u64 (hi (a))) (by first | with_reducible exact c7_0_0 | (simp [go_sem]; done) | (simp [go_sem, *]; done))
      have c9_0_1 := hb9.get (b := w.heap.size) (o := 1) (v := .int .u64 (lo (a))) (by first | with_reducible exact c7_0_1 | (simp [go_sem]; done) | (simp [go_sem, *]; done))
      have z9_1 : w.heap.size + 1 < w9.heap.size := (by omega)
      have c9_1_0 := hb9.get (b := w.heap.size + 1) (o := 0) (v := .int .u64 (hi (b))) (by first | with_reducible exact c7_1_0 | (simp [go_sem]; done) | (simp [go_sem, *]; done))
      have c9_1_1 := hb9.get (b := w.heap.size + 1) (o := 1) (v := .int .u64 (lo (b))) (by first | with_reducible exact c7_1_1 | (simp [go_sem]; done) | (simp [go_sem, *]; done))
      have z9_2 : w.heap.size + 1 + 1 < w9.heap.size := (by omega)
      have c9_2_0 := hb9.get (b := w.heap.size + 1 + 1) (o := 0) (v := .int .i64 0) (by first | with_reducible exact c7_2_0 | (simp [go_sem]; done) | (simp [go_sem, *]; done))
      have f9_2_0 := hb9.free (b := w.heap.size + 1 + 1) (o := 0) (v := .int .i64 0) (by first | with_reducible exact c7_2_0 | (simp [go_sem]; done) | (simp [go_sem, *]; done)) (by first | with_reducible exact f7_2_0 | (simp [go_sem]; done) | (simp [go_sem, *]; done))
      have c9_2_1 := hb9.get (b := w.heap.size + 1 + 1) (o := 1) (v := .int .u64 0) (by first | with_reducible exact c7_2_1 | (simp [go_sem]; done) | (simp [go_sem, *]; done))
      have f9_2_1 := hb9.free (b := w.heap.size + 1 + 1) (o := 1) (v := .int .u64 0) (by first | with_reducible exact c7_2_1 | (simp [go_sem]; done) | (simp [go_sem, *]; done)) (by first | with_reducible exact f7_2_1 | (simp [go_sem]; done) | (simp [go_sem, *]; done))
      have c9_2_2 := hb9.get (b := w.heap.size + 1 + 1) (o := 2) (v := .int .u64 0) (by first | with_reducible exact c7_2_2 | (simp [go_sem]; done) | (simp [go_sem, *]; done))
      have f9_2_2 := hb9.free (b := w.heap.size + 1 + 1) (o := 2) (v := .int .u64 0) (by first | with_reducible exact c7_2_2 | (simp [go_sem]; done) | (simp [go_sem, *]; done)) (by first | with_reducible exact f7_2_2 | (simp [go_sem]; done) | (simp [go_sem, *]; done))
      have z9_3 : p < w9.heap.size := (by omega)
      have c9_3_0 := hb9.get (b := p) (o := 0) (v := .int .u64 (hi (Q))) (by first | with_reducible exact c7_3_0 | (simp [go_sem]; done) | (simp [go_sem, *]; done))
      have f9_3_0 := hb9.free (b := p) (o := 0) (v := .int .u64 (hi (Q))) (by first | with_reducible exact c7_3_0 | (simp [go_sem]; done) | (simp [go_sem, *]; done)) (by first | with_reducible exact f7_3_0 | (simp [go_sem]; done) | (simp [go_sem, *]; done))
      have c9_3_1 := hb9.get (b := p) (o := 1) (v := .int .u64 (lo (Q))) (by first | with_reducible exact c7_3_1 | (simp [go_sem]; done) | (simp [go_sem, *]; done))
      have f9_3_1 := hb9.free (b := p) (o := 1) (v := .int .u64 (lo (Q))) (by first | with_reducible exact c7_3_1 | (simp [go_sem]; done) | (simp [go_sem, *]; done)) (by first | with_reducible exact f7_3_1 | (simp [go_sem]; done) | (simp [go_sem, *]; done))
      have z9_4 : q < w9.heap.size := (by omega)
      have c9_4_0 := hb9.get (b := q) (o := 0) (v := .int .u64 (hi (R))) (by first | with_reducible exact c7_4_0 | (simp [go_sem]; done) | (simp [go_sem, *]; done))
      have f9_4_0 := hb9.free (b := q) (o := 0) (v := .int .u64 (hi (R))) (by first | with_reducible exact c7_4_0 | (simp [go_sem]; done) | (simp [go_sem, *]; done)) (by first | with_reducible exact f7_4_0 | (simp [go_sem]; done) | (simp [go_sem, *]; done))
      have c9_4_1 := hb9.get (b := q) (o := 1) (v := .int .u64 (lo (R))) (by first | with_reducible exact c7_4_1 | (simp [go_sem]; done) | (simp [go_sem, *]; done))
      have f9_4_1 := hb9.free (b := q) (o := 1) (v := .int .u64 (lo (R))) (by first | with_reducible exact c7_4_1 | (simp [go_sem]; done) | (simp [go_sem, *]; done)) (by first | with_reducible exact f7_4_1 | (simp [go_sem]; done) | (simp [go_sem, *]; done))
      clear hz9
      go_wp2
      have HE : Hid (dsI true a b Q R = Q) := by unfold dsI; rw [HA.out, HB.out]; rfl
      rw [HE.out]
      exact bodyPost_ret (v := bv W (cutI W.toNat (Q))) (by simp [results, Try.results15, go_sem, *]) rfl ⟨rfl, by repeat (first | with_reducible exact Fr.refl _ | with_reducible apply Fr.drewN | with_reducible apply Fr.drew | with_reducible apply Fr.alloc | (with_reducible refine Fr.set ?_ (by simp; try omega) _) | (with_reducible refine Fr.call ?_ (by assumption)))⟩
    · refine (wneg_any _ _).mono ?_
      rintro e w6 ⟨rfl, hb6⟩
      have hz6 := hb6.size
      (try simp at hz6)
      have z6_0 : w.heap.size < w6.heap.size := (by omega)
      have c6_0_0 := hb6.get (b := w.heap.size) (o := 0) (v := .int .u64 (hi (a))) (by first | with_reducible exact c5_0_0 | (simp [go_sem]; done) | (simp [go_sem, *]; done))
      have c6_0_1 := hb6.get (b := w.heap.size) (o := 1) (v := .int .u64 (lo (a))) (by first | with_reducible exact c5_0_1 | (simp [go_sem]; done) | (simp [go_sem, *]; done))
      have z6_1 : w.heap.size + 1 < w6.heap.size := (by omega)
      have c6_1_0 := hb6.get (b := w.heap.size + 1) (o := 0) (v := .int .u64 (hi (b))) (by first | with_reducible exact c5_1_0 | (simp [go_sem]; done) | (simp [go_sem, *]; done))
      have c6_1_1 := hb6.get (b := w.heap.size + 1) (o := 1) (v := .int .u64 (lo (b))) (by first | with_reducible exact c5_1_1 | (simp [go_sem]; done) | (simp [go_sem, *]; done))
      have z6_2 : w.heap.size + 1 + 1 < w6.heap.size := (by omega)
      have c6_2_0 := hb6.get (b := w.heap.size + 1 + 1) (o := 0) (v := .int .i64 0) (by first | with_reducible exact c5_2_0 | (simp [go_sem]; done) | (simp [go_sem, *]; done))
      have f6_2_0 := hb6.free (b := w.heap.size + 1 + 1) (o := 0) (v := .int .i64 0) (by first | with_reducible exact c5_2_0 | (simp [go_sem]; done) | (simp [go_sem, *]; done)) (by first | with_reducible exact f5_2_0 | (simp [go_sem]; done) | (simp [go_sem, *]; done))
      have c6_2_1 := hb6.get (b := w.heap.size + 1 + 1) (o := 1) (v := .int .u64 0) (by first | with_reducible exact c5_2_1 | (simp [go_sem]; done) | (simp [go_sem, *]; done))
      have f6_2_1 := hb6.free (b := w.heap.size + 1 + 1) (o := 1) (v := .int .u64 0) (by first | with_reducible exact c5_2_1 | (simp [go_sem]; done) | (simp [go_sem, *]; done)) (by first | with_reducible exact f5_2_1 | (simp [go_sem]; done) | (simp [go_sem, *]; done))
      have c6_2_2 := hb6.get (b := w.heap.size + 1 + 1) (o := 2) (v := .int .u64 0) (by first | with_reducible exact c5_2_2 | (simp [go_sem]; done) | (simp [go_sem, *]; done))
      have f6_2_2 := hb6.free (b := w.heap.size + 1 + 1) (o := 2) (v := .int .u64 0) (by first | with_reducible exact c5_2_2 | (simp [go_sem]; done) | (simp [go_sem, *]; done)) (by first | with_reducible exact f5_2_2 | (simp [go_sem]; done) | (simp [go_sem, *]; done))
      have z6_3 : p < w6.heap.size := (by omega)
      have c6_3_0 := hb6.get (b := p) (o := 0) (v := .int .u64 (hi (Q))) (by first | with_reducible exact c5_3_0 | (simp [go_sem]; done) | (simp [go_sem, *]; done))
      have f6_3_0 := hb6.free (b := p) (o := 0) (v := .int .u64 (hi (Q))) (by first | with_reducible exact c5_3_0 | (simp [go_sem]; done) | (simp [go_sem, *]; done)) (by first | with_reducible exact f5_3_0 | (simp [go_sem]; done) | (simp [go_sem, *]; done))
      have c6_3_1 := hb6.get (b := p) (o := 1) (v := .int .u64 (lo (Q))) (by first | with_reducible exact c5_3_1 | (simp [go_sem]; done) | (simp [go_sem, *]; done))
      have f6_3_1 := hb6.free (b := p) (o := 1) (v := .int .u64 (lo (Q))) (by first | with_reducible exact c5_3_1 | (simp [go_sem]; done) | (simp [go_sem, *]; done)) (by first | with_reducible exact f5_3_1 | (simp [go_sem]; done) | (simp [go_sem, *]; done))
      have z6_4 : q < w6.heap.size := (by omega)
      have c6_4_0 := hb6.get (b := q) (o := 0) (v := .int .u64 (hi (R))) (by first | with_reducible exact c5_4_0 | (simp [go_sem]; done) | (simp [go_sem, *]; done))
      have f6_4_0 := hb6.free (b := q) (o := 0) (v := .int .u64 (hi (R))) (by first | with_reducible exact c5_4_0 | (simp [go_sem]; done) | (simp [go_sem, *]; done)) (by first | with_reducible exact f5_4_0 | (simp [go_sem]; done) | (simp [go_sem, *]; done))
      have c6_4_1 := hb6.get (b := q) (o := 1) (v := .int .u64 (lo (R))) (by first | with_reducible exact c5_4_1 | (simp [go_sem]; done) | (simp [go_sem, *]; done))
      have f6_4_1 := hb6.free (b := q) (o := 1) (v := .int .u64 (lo (R))) (by first | with_reducible exact c5_4_1 | (simp [go_sem]; done) | (simp [go_sem, *]; done)) (by first | with_reducible exact f5_4_1 | (simp [go_sem]; done) | (simp [go_sem, *]; done))
      clear hz6
      go_wp2_with fail
      refine (below0_any _ _).mono ?_
      rintro e w7 ⟨rfl, hb7⟩
      have hz7 := hb7.size
      (try simp at hz7)
      have z7_0 : w.heap.size < w7.heap.size := (by omega)
      have c7_0_0 := hb7.get (b := w.heap.size) (o := 0) (v := .int .u64 (hi (a))) (by first | with_reducible exact c6_0_0 | (simp [go_sem]; done) | (simp [go_sem, *]; done))
      have c7_0_1 := hb7.get (b := w.heap.size) (o := 1) (v := .int .u64 (lo (a))) (by first | with_reducible exact c6_0_1 | (simp [go_sem]; done) | (simp [go_sem, *]; done))
      have z7_1 : w.heap.size + 1 < w7.heap.size := (by omega)
      have c7_1_0 := hb7.get (b := w.heap.size + 1) (o := 0) (v := .int .u64 (hi (b))) (by first | with_reducible exact c6_1_0 | (simp [go_sem]; done) | (simp [go_sem, *]; done))
      have c7_1_1 := hb7.get (b := w.heap.size + 1) (o := 1) (v := .int .u64 (lo (b))) (by first | with_reducible exact c6_1_1 | (simp [go_sem]; done) | (simp [go_sem, *]; done))
      have z7_2 : w.heap.size + 1 + 1 < w7.heap.size := (by omega)
      have c7_2_0 := hb7.get (b := w.heap.size + 1 + 1) (o := 0) (v := .int .i64 0) (by first | with_reducible exact c6_2_0 | (simp [go_sem]; done) | (simp [go_sem, *]; done))
      have f7_2_0 := hb7.free (b := w.heap.size + 1 + 1) (o := 0) (v := .int .i64 0) (by first | with_reducible exact c6_2_0 | (simp [go_sem]; done) | (simp [go_sem, *]; done)) (by first | with_reducible exact f6_2_0 | (simp [go_sem]; done) | (simp [go_sem, *]; done))
      have c7_2_1 := hb7.get (b := w.heap.size + 1 + 1) (o := 1) (v := .int .u64 0) (by first | with_reducible exact c6_2_1 | (simp [go_sem]; done) | (simp [go_sem, *]; done))
      have f7_2_1 := hb7.free (b := w.heap.size + 1 + 1) (o := 1) (v := .int .u64 0) (by first | with_reducible exact c6_2_1 | (simp [go_sem]; done) | (simp [go_sem, *]; done)) (by first | with_reducible exact f6_2_1 | (simp [go_sem]; done) | (simp [go_sem, *]; done))
      have c7_2_2 := hb7.get (b := w.heap.size + 1 + 1) (o := 2) (v := .int .u64 0) (by first | with_reducible exact c6_2_2 | (simp [go_sem]; done) | (simp [go_sem, *]; done))
      have f7_2_2 := hb7.free (b := w.heap.size + 1 + 1) (o := 2) (v := .int .u64 0) (by first | with_reducible exact c6_2_2 | (simp [go_sem]; done) | (simp [go_sem, *]; done)) (by first | with_reducible exact f6_2_2 | (simp [go_sem]; done) | (simp [go_sem, *]; done))
      have z7_3 : p < w7.heap.size := (by omega)
      have c7_3_0 := hb7.get (b := p) (o := 0) (v := .int .u64 (hi (-Q))) (by first | with_reducible exact c6_3_0 | (simp [go_sem]; done) | (simp [go_sem, *]; done))
      have f7_3_0 := hb7.free (b := p) (o := 0) (v := .int .u64 (hi (-Q))) (by first | with_reducible exact c6_3_0 | (simp [go_sem]; done) | (simp [go_sem, *]; done)) (by first | with_reducible exact f6_3_0 | (simp [go_sem]; done) | (simp [go_sem, *]; done))
      have c7_3_1 := hb7.get (b := p) (o := 1) (v := .int .u64 (lo (-Q))) (by first | with_reducible exact c6_3_1 | (simp [go_sem]; done) | (simp [go_sem, *]; done))
      have f7_3_1 := hb7.free (b := p) (o := 1) (v := .int .u64 (lo (-Q))) (by first | with_reducible exact c6_3_1 | (simp [go_sem]; done) | (simp [go_sem, *]; done)) (by first | with_reducible exact f6_3_1 | (simp [go_sem]; done) | (simp [go_sem, *]; done))
      have z7_4 : q < w7.heap.size := (by omega)
      have c7_4_0 := hb7.get (b := q) (o := 0) (v := .int .u64 (hi (R))) (by first | with_reducible exact c6_4_0 | (simp [go_sem]; done) | (simp [go_sem, *]; done))
      have f7_4_0 := hb7.free (b := q) (o := 0) (v := .int .u64 (hi (R))) (by first | with_reducible exact c6_4_0 | (simp [go_sem]; done) | (simp [go_sem, *]; done)) (by first | with_reducible exact f6_4_0 | (simp [go_sem]; done) | (simp [go_sem, *]; done))
      have c7_4_1 := hb7.get (b := q) (o := 1) (v := .int .u64 (lo (R))) (by first | with_reducible exact c6_4_1 | (simp [go_sem]; done) | (simp [go_sem, *]; done))
      have f7_4_1 := hb7.free (b := q) (o := 1) (v := .int .u64 (lo (R))) (by first | with_reducible exact c6_4_1 | (simp [go_sem]; done) | (simp [go_sem, *]; done)) (by first | with_reducible exact f6_4_1 | (simp [go_sem]; done) | (simp [go_sem, *]; done))
      clear hz7
      rw [HA.out]
      go_wp2_with fail
      refine (cut_to _ _ (by omega) (by omega) _).mono ?_
      rintro e w9 ⟨rfl, hb9⟩
      have hz9 := hb9.size
      (try simp at hz9)
      have z9_0 : w.heap.size < w9.heap.size := (by omega)
      have c9_0_0 := hb9.get (b := w.heap.size) (o := 0) (v := .int .u64 (hi (a))) (by first | with_reducible exact c7_0_0 | (simp [go_sem]; done) | (simp [go_sem, *]; done))
      have c9_0_1 := hb9.get (b := w.heap.size) (o := 1) (v := .int .u64 (lo (a))) (by first | with_reducible exact c7_0_1 | (simp [go_sem]; done) | (simp [go_sem, *]; done))
      have z9_1 : w.heap.size + 1 < w9.heap.size := (by omega)
      have c9_1_0 := hb9.get (b := w.heap.size + 1) (o := 0) (v := .int .u64 (hi (b))) (by first | with_reducible exact c7_1_0 | (simp [go_sem]; done) | (simp [go_sem, *]; done))
      have c9_1_1 := hb9.get (b := w.heap.size + 1) (o := 1) (v := .int .u64 (lo (b))) (by first | with_reducible exact c7_1_1 | (simp [go_sem]; done) | (simp [go_sem, *]; done))
      have z9_2 : w.heap.size + 1 + 1 < w9.heap.size := (by omega)
      have c9_2_0 := hb9.get (b := w.heap.size + 1 + 1) (o := 0) (v := .int .i64 0) (by first | with_reducible exact c7_2_0 | (simp [go_sem]; done) | (simp [go_sem, *]; done))
      have f9_2_0 := hb9.free (b := w.heap.size + 1 + 1) (o := 0) (v := .int .i64 0) (by first | with_reducible exact c7_2_0 | (simp [go_sem]; done) | (simp [go_sem, *]; done)) (by first | with_reducible exact f7_2_0 | (simp [go_sem]; done) | (simp [go_sem, *]; done))
      have c9_2_1 := hb9.get (b := w.heap.size + 1 + 1) (o := 1) (v := .int .u64 0) (by first | with_reducible exact c7_2_1 | (simp [go_sem]; done) | (simp [go_sem, *]; done))
      have f9_2_1 := hb9.free (b := w.heap.size + 1 + 1) (o := 1) (v := .int .u64 0) (by first | with_reducible exact c7_2_1 | (simp [go_sem]; done) | (simp [go_sem, *]; done)) (by first | with_reducible exact f7_2_1 | (simp [go_sem]; done) | (simp [go_sem, *]; done))
      have c9_2_2 := hb9.get (b := w.heap.size + 1 + 1) (o := 2) (v := .int .u64 0) (by first | with_reducible exact c7_2_2 | (simp [go_sem]; done) | (simp [go_sem, *]; done))
      have f9_2_2 := hb9.free (b := w.heap.size + 1 + 1) (o := 2) (v := .int .u64 0) (by first | with_reducible exact c7_2_2 | (simp [go_sem]; done) | (simp [go_sem, *]; done)) (by first | with_reducible exact f7_2_2 | (simp [go_sem]; done) | (simp [go_sem, *]; done))
      have z9_3 : p < w9.heap.size := (by omega)
      have c9_3_0 := hb9.get (b := p) (o := 0) (v := .int .u64 (hi (-Q))) (by first | with_reducible exact c7_3_0 | (simp [go_sem]; done) | (simp [go_sem, *]; done))
      have f9_3_0 := hb9.free (b := p) (o := 0) (v := .int .u64 (hi (-Q))) (by first | with_reducible exact c7_3_0 | (simp [go_sem]; done) | (simp [go_sem, *]; done)) (by first | with_reducible exact f7_3_0 | (simp [go_sem]; done) | (simp [go_sem, *]; done))
      have c9_3_1 := hb9.get (b := p) (o := 1) (v := .int .u64 (lo (-Q))) (by first | with_reducible exact c7_3_1 | (simp [go_sem]; done) | (simp [go_sem, *]; done))
      have f9_3_1 := hb9.free (b := p) (o := 1) (v := .int .u64 (lo (-Q))) (by first | with_reducible exact c7_3_1 | (simp [go_sem]; done) | (simp [go_sem, *]; done)) (by first | with_reducible exact f7_3_1 | (simp [go_sem]; done) | (simp [go_sem, *]; done))
      have z9_4 : q < w9.heap.size := (by omega)
      have c9_4_0 := hb9.get (b := q) (o := 0) (v := .int .u64 (hi (R))) (by first | with_reducible exact c7_4_0 | (simp [go_sem]; done) | (simp [go_sem, *]; done))
      have f9_4_0 := hb9.free (b := q) (o := 0) (v := .int .u64 (hi (R))) (by first | with_reducible exact c7_4_0 | (simp [go_sem]; done) | (simp [go_sem, *]; done)) (by first | with_reducible exact f7_4_0 | (simp [go_sem]; done) | (simp [go_sem, *]; done))
      have c9_4_1 := hb9.get (b := q) (o := 1) (v := .int .u64 (lo (R))) (by first | with_reducible exact c7_4_1 | (simp [go_sem]; done) | (simp [go_sem, *]; done))
      have f9_4_1 := hb9.free (b := q) (o := 1) (v := .int .u64 (lo (R))) (by first | with_reducible exact c7_4_1 | (simp [go_sem]; done) | (simp [go_sem, *]; done)) (by first | with_reducible exact f7_4_1 | (simp [go_sem]; done) | (simp [go_sem, *]; done))
      clear hz9
      go_wp2
      have HE : Hid (dsI true a b Q R = -Q) := by unfold dsI; rw [HA.out, HB.out]; rfl
      rw [HE.out]
      exact bodyPost_ret (v := bv W (cutI W.toNat (-Q))) (by simp [results, Try.results15, go_sem, *]) rfl ⟨rfl, by repeat (first | with_reducible exact Fr.refl _ | with_reducible apply Fr.drewN | with_reducible apply Fr.drew | with_reducible apply Fr.alloc | (with_reducible refine Fr.set ?_ (by simp; try omega) _) | (with_reducible refine Fr.call ?_ (by assumption)))⟩
    · refine (wneg_any _ _).mono ?_
      rintro e w6 ⟨rfl, hb6⟩
      have hz6 := hb6.size
      (try simp at hz6)
      have z6_0 : w.heap.size < w6.heap.size := (by omega)
      have c6_0_0 := hb6.get (b := w.heap.size) (o := 0) (v := .int .u64 (hi (a))) (by first | with_reducible exact c5_0_0 | (simp [go_sem]; done) | (simp [go_sem, *]; done))
      have c6_0_1 := hb6.get (b := w.heap.size) (o := 1) (v := .int .u64 (lo (a))) (by first | with_reducible exact c5_0_1 | (simp [go_sem]; done) | (simp [go_sem, *]; done))
      have z6_1 : w.heap.size + 1 < w6.heap.size := (by omega)
      have c6_1_0 := hb6.get (b := w.heap.size + 1) (o := 0) (v := .int .u64 (hi (b))) (by first | with_reducible exact c5_1_0 | (simp [go_sem]; done) | (simp [go_sem, *]; done))
      have c6_1_1 := hb6.get (b := w.heap.size + 1) (o := 1) (v := .int .u64 (lo (b))) (by first | with_reducible exact c5_1_1 | (simp [go_sem]; done) | (simp [go_sem, *]; done))
      have z6_2 : w.heap.size + 1 + 1 < w6.heap.size := (by omega)
      have c6_2_0 := hb6.get (b := w.heap.size + 1 + 1) (o := 0) (v := .int .i64 0) (by first | with_reducible exact c5_2_0 | (simp [go_sem]; done) | (simp [go_sem, *]; done))
      have f6_2_0 := hb6.free (b := w.heap.size + 1 + 1) (o := 0) (v := .int .i64 0) (by first | with_reducible exact c5_2_0 | (simp [go_sem]; done) | (simp [go_sem, *]; done)) (by first | with_reducible exact f5_2_0 | (simp [go_sem]; done) | (simp [go_sem, *]; done))
      have c6_2_1 := hb6.get (b := w.heap.size + 1 + 1) (o := 1) (v := .int .u64 0) (by first | with_reducible exact c5_2_1 | (simp [go_sem]; done) | (simp [go_sem, *]; done))
      have f6_2_1 := hb6.free (b := w.heap.size + 1 + 1) (o := 1) (v := .int .u64 0) (by first | with_reducible exact c5_2_1 | (simp [go_sem]; done) | (simp [go_sem, *]; done)) (by first | with_reducible exact f5_2_1 | (simp [go_sem]; done) | (simp [go_sem, *]; done))
      have c6_2_2 := hb6.get (b := w.heap.size + 1 + 1) (o := 2) (v := .int .u64 0) (by first | with_reducible exact c5_2_2 | (simp [go_sem]; done) | (simp [go_sem, *]; done))
      have f6_2_2 := hb6.free (b := w.heap.size + 1 + 1) (o := 2) (v := .int .u64 0) (by first | with_reducible exact c5_2_2 | (simp [go_sem]; done) | (simp [go_sem, *]; done)) (by first | with_reducible exact f5_2_2 | (simp [go_sem]; done) | (simp [go_sem, *]; done))
      have z6_3 : p < w6.heap.size := (by omega)
      have c6_3_0 := hb6.get (b := p) (o := 0) (v := .int .u64 (hi (Q))) (by first | with_reducible exact c5_3_0 | (simp [go_sem]; done) | (simp [go_sem, *]; done))
      have f6_3_0 := hb6.free (b := p) (o := 0) (v := .int .u64 (hi (Q))) (by first | with_reducible exact c5_3_0 | (simp [go_sem]; done) | (simp [go_sem, *]; done)) (by first | with_reducible exact f5_3_0 | (simp [go_sem]; done) | (simp [go_sem, *]; done))
      have c6_3_1 := hb6.get (b := p) (o := 1) (v := .int .u64 (lo (Q))) (by first | with_reducible exact c5_3_1 | (simp [go_sem]; done) | (simp [go_sem, *]; done))
      have f6_3_1 := hb6.free (b := p) (o := 1) (v := .int .u64 (lo (Q))) (by first | with_reducible exact c5_3_1 | (simp [go_sem]; done) | (simp [go_sem, *]; done)) (by first | with_reducible exact f5_3_1 | (simp [go_sem]; done) | (simp [go_sem, *]; done))
      have z6_4 : q < w6.heap.size := (by omega)
      have c6_4_0 := hb6.get (b := q) (o := 0) (v := .int .u64 (hi (R))) (by first | with_reducible exact c5_4_0 | (simp [go_sem]; done) | (simp [go_sem, *]; done))
      have f6_4_0 := hb6.free (b := q) (o := 0) (v := .int .u64 (hi (R))) (by first | with_reducible exact c5_4_0 | (simp [go_sem]; done) | (simp [go_sem, *]; done)) (by first | with_reducible exact f5_4_0 | (simp [go_sem]; done) | (simp [go_sem, *]; done))
      have c6_4_1 := hb6.get (b := q) (o := 1) (v := .int .u64 (lo (R))) (by first | with_reducible exact c5_4_1 | (simp [go_sem]; done) | (simp [go_sem, *]; done))
      have f6_4_1 := hb6.free (b := q) (o := 1) (v := .int .u64 (lo (R))) (by first | with_reducible exact c5_4_1 | (simp [go_sem]; done) | (simp [go_sem, *]; done)) (by first | with_reducible exact f5_4_1 | (simp [go_sem]; done) | (simp [go_sem, *]; done))
      clear hz6
      go_wp2_with fail
      refine (below0_any _ _).mono ?_
      rintro e w7 ⟨rfl, hb7⟩
      have hz7 := hb7.size
      (try simp at hz7)
      have z7_0 : w.heap.size < w7.heap.size := (by omega)
      have c7_0_0 := hb7.get (b := w.heap.size) (o := 0) (v := .int .u64 (hi (a))) (by first | with_reducible exact c6_0_0 | (simp [go_sem]; done) | (simp [go_sem, *]; done))
      have c7_0_1 := hb7.get (b := w.heap.size) (o := 1) (v := .int .u64 (lo (a))) (by first | with_reducible exact c6_0_1 | (simp [go_sem]; done) | (simp [go_sem, *]; done))
      have z7_1 : w.heap.size + 1 < w7.heap.size := (by omega)
      have c7_1_0 := hb7.get (b := w.heap.size + 1) (o := 0) (v := .int .u64 (hi (b))) (by first | with_reducible exact c6_1_0 | (simp [go_sem]; done) | (simp [go_sem, *]; done))
      have c7_1_1 := hb7.get (b := w.heap.size + 1) (o := 1) (v := .int .u64 (lo (b))) (by first | with_reducible exact c6_1_1 | (simp [go_sem]; done) | (simp [go_sem, *]; done))
      have z7_2 : w.heap.size + 1 + 1 < w7.heap.size := (by omega)
      have c7_2_0 := hb7.get (b := w.heap.size + 1 + 1) (o := 0) (v := .int .i64 0) (by first | with_reducible exact c6_2_0 | (simp [go_sem]; done) | (simp [go_sem, *]; done))
      have f7_2_0 := hb7.free (b := w.heap.size + 1 + 1) (o := 0) (v := .int .i64 0) (by first | with_reducible exact c6_2_0 | (simp [go_sem]; done) | (simp [go_sem, *]; done)) (by first | with_reducible exact f6_2_0 | (simp [go_sem]; done) | (simp [go_sem, *]; done))
      have c7_2_1 := hb7.get (b := w.heap.size + 1 + 1) (o := 1) (v := .int .u64 0) (by first | with_reducible exact c6_2_1 | (simp [go_sem]; done) | (simp [go_sem, *]; done))
      have f7_2_1 := hb7.free (b := w.heap.size + 1 + 1) (o := 1) (v := .int .u64 0) (by first | with_reducible exact c6_2_1 | (simp [go_sem]; done) | (simp [go_sem, *]; done)) (by first | with_reducible exact f6_2_1 | (simp [go_sem]; done) | (simp [go_sem, *]; done))
      have c7_2_2 := hb7.get (b := w.heap.size + 1 + 1) (o := 2) (v := .int .u64 0) (by first | with_reducible exact c6_2_2 | (simp [go_sem]; done) | (simp [go_sem, *]; done))
      have f7_2_2 := hb7.free (b := w.heap.size + 1 + 1) (o := 2) (v := .int .u64 0) (by first | with_reducible exact c6_2_2 | (simp [go_sem]; done) | (simp [go_sem, *]; done)) (by first | with_reducible exact f6_2_2 | (simp [go_sem]; done) | (simp [go_sem, *]; done))
      have z7_3 : p < w7.heap.size := (by omega)
      have c7_3_0 := hb7.get (b := p) (o := 0) (v := .int .u64 (hi (-Q))) (by first | with_reducible exact c6_3_0 | (simp [go_sem]; done) | (simp [go_sem, *]; done))
      have f7_3_0 := hb7.free (b := p) (o := 0) (v := .int .u64 (hi (-Q))) (by first | with_reducible exact c6_3_0 | (simp [go_sem]; done) | (simp [go_sem, *]; done)) (by first | with_reducible exact f6_3_0 | (simp [go_sem]; done) | (simp [go_sem, *]; done))
      have c7_3_1 := hb7.get (b := p) (o := 1) (v := .int .u64 (lo (-Q))) (by first | with_reducible exact c6_3_1 | (simp [go_sem]; done) | (simp [go_sem, *]; done))
      have f7_3_1 := hb7.free (b := p) (o := 1) (v := .int .u64 (lo (-Q))) (by first | with_reducible exact c6_3_1 | (simp [go_sem]; done) | (simp [go_sem, *]; done)) (by first | with_reducible exact f6_3_1 | (simp [go_sem]; done) | (simp [go_sem, *]; done))
      have z7_4 : q < w7.heap.size := (by omega)
      have c7_4_0 := hb7.get (b := q) (o := 0) (v := .int .u64 (hi (R))) (by first | with_reducible exact c6_4_0 | (simp [go_sem]; done) | (simp [go_sem, *]; done))
      have f7_4_0 := hb7.free (b := q) (o := 0) (v := .int .u64 (hi (R))) (by first | with_reducible exact c6_4_0 | (simp [go_sem]; done) | (simp [go_sem, *]; done)) (by first | with_reducible exact f6_4_0 | (simp [go_sem]; done) | (simp [go_sem, *]; done))
      have c7_4_1 := hb7.get (b := q) (o := 1) (v := .int .u64 (lo (R))) (by first | with_reducible exact c6_4_1 | (simp [go_sem]; done) | (simp [go_sem, *]; done))
      have f7_4_1 := hb7.free (b := q) (o := 1) (v := .int .u64 (lo (R))) (by first | with_reducible exact c6_4_1 | (simp [go_sem]; done) | (simp [go_sem, *]; done)) (by first | with_reducible exact f6_4_1 | (simp [go_sem]; done) | (simp [go_sem, *]; done))
      clear hz7
      rw [HA.out]
      go_wp2_with fail
      refine (wneg_any _ _).mono ?_
      rintro e w8 ⟨rfl, hb8⟩
      have hz8 := hb8.size
      (try simp at hz8)
      have z8_0 : w.heap.size < w8.heap.size := (by omega)
      have c8_0_0 := hb8.get (b := w.heap.size) (o := 0) (v := .int .u64 (hi (a))) (by first | with_reducible exact c7_0_0 | (simp [go_sem]; done) | (simp [go_sem, *]; done))
      have c8_0_1 := hb8.get (b := w.heap.size) (o := 1) (v := .int .u64 (lo (a))) (by first | with_reducible exact c7_0_1 | (simp [go_sem]; done) | (simp [go_sem, *]; done))
      have z8_1 : w.heap.size + 1 < w8.heap.size := (by omega)
      have c8_1_0 := hb8.get (b := w.heap.size + 1) (o := 0) (v := .int .u64 (hi (b))) (by first | with_reducible exact c7_1_0 | (simp [go_sem]; done) | (simp [go_sem, *]; done))
      have c8_1_1 := hb8.get (b := w.heap.size + 1) (o := 1) (v := .int .u64 (lo (b))) (by first | with_reducible exact c7_1_1 | (simp [go_sem]; done) | (simp [go_sem, *]; done))
      have z8_2 : w.heap.size + 1 + 1 < w8.heap.size := (by omega)
      have c8_2_0 := hb8.get (b := w.heap.size + 1 + 1) (o := 0) (v := .int .i64 0) (by first | with_reducible exact c7_2_0 | (simp [go_sem]; done) | (simp [go_sem, *]; done))
      have f8_2_0 := hb8.free (b := w.heap.size + 1 + 1) (o := 0) (v := .int .i64 0) (by first | with_reducible exact c7_2_0 | (simp [go_sem]; done) | (simp [go_sem, *]; done)) (by first | with_reducible exact f7_2_0 | (simp [go_sem]; done) | (simp [go_sem, *]; done))
      have c8_2_1 := hb8.get (b := w.heap.size + 1 + 1) (o := 1) (v := .int .u64 0) (by first | with_reducible exact c7_2_1 | (simp [go_sem]; done) | (simp [go_sem, *]; done))
      have f8_2_1 := hb8.free (b := w.heap.size + 1 + 1) (o := 1) (v := .int .u64 0) (by first | with_reducible exact c7_2_1 | (simp [go_sem]; done) | (simp [go_sem, *]; done)) (by first | with_reducible exact f7_2_1 | (simp [go_sem]; done) | (simp [go_sem, *]; done))
      have c8_2_2 := hb8.get (b := w.heap.size + 1 + 1) (o := 2) (v := .int .u64 0) (by first | with_reducible exact c7_2_2 | (simp [go_sem]; done) | (simp [go_sem, *]; done))
      have f8_2_2 := hb8.free (b := w.heap.size + 1 + 1) (o := 2) (v := .int .u64 0) (by first | with_reducible exact c7_2_2 | (simp [go_sem]; done) | (simp [go_sem, *]; done)) (by first | with_reducible exact f7_2_2 | (simp [go_sem]; done) | (simp [go_sem, *]; done))
      have z8_3 : p < w8.heap.size := (by omega)
      have c8_3_0 := hb8.get (b := p) (o := 0) (v := .int .u64 (hi (-Q))) (by first | with_reducible exact c7_3_0 | (simp [go_sem]; done) | (simp [go_sem, *]; done))
      have f8_3_0 := hb8.free (b := p) (o := 0) (v := .int .u64 (hi (-Q))) (by first | with_reducible exact c7_3_0 | (simp [go_sem]; done) | (simp [go_sem, *]; done)) (by first | with_reducible exact f7_3_0 | (simp [go_sem]; done) | (simp [go_sem, *]; done))
      have c8_3_1 := hb8.get (b := p) (o := 1) (v := .int .u64 (lo (-Q))) (by first | with_reducible exact c7_3_1 | (simp [go_sem]; done) | (simp [go_sem, *]; done))
      have f8_3_1 := hb8.free (b := p) (o := 1) (v := .int .u64 (lo (-Q))) (by first | with_reducible exact c7_3_1 | (simp [go_sem]; done) | (simp [go_sem, *]; done)) (by first | with_reducible exact f7_3_1 | (simp [go_sem]; done) | (simp [go_sem, *]; done))
      have z8_4 : q < w8.heap.size := (by omega)
      have c8_4_0 := hb8.get (b := q) (o := 0) (v := .int .u64 (hi (R))) (by first | with_reducible exact c7_4_0 | (simp [go_sem]; done) | (simp [go_sem, *]; done))
      have f8_4_0 := hb8.free (b := q) (o := 0) (v := .int .u64 (hi (R))) (by first | with_reducible exact c7_4_0 | (simp [go_sem]; done) | (simp [go_sem, *]; done)) (by first | with_reducible exact f7_4_0 | (simp [go_sem]; done) | (simp [go_sem, *]; done))
      have c8_4_1 := hb8.get (b := q) (o := 1) (v := .int .u64 (lo (R))) (by first | with_reducible exact c7_4_1 | (simp [go_sem]; done) | (simp [go_sem, *]; done))
      have f8_4_1 := hb8.free (b := q) (o := 1) (v := .int .u64 (lo (R))) (by first | with_reducible exact c7_4_1 | (simp [go_sem]; done) | (simp [go_sem, *]; done)) (by first | with_reducible exact f7_4_1 | (simp [go_sem]; done) | (simp [go_sem, *]; done))
      clear hz8
      go_wp2_with fail
      refine (cut_to _ _ (by omega) (by omega) _).mono ?_
      rintro e w9 ⟨rfl, hb9⟩
      have hz9 := hb9.size
      (try simp at hz9)
      have z9_0 : w.heap.size < w9.heap.size := (by omega)
      have c9_0_0 := hb9.get (b := w.heap.size) (o := 0) (v := .int .u64 (hi (a))) (by first | with_reducible exact c8_0_0 | (simp [go_sem]; done) | (simp [go_sem, *]; done))
      have c9_0_1 := hb9.get (b := w.heap.size) (o := 1) (v := .int .u64 (lo (a))) (by first | with_reducible exact c8_0_1 | (simp [go_sem]; done) | (simp [go_sem, *]; done))
      have z9_1 : w.heap.size + 1 < w9.heap.size := (by omega)
      have c9_1_0 := hb9.get (b := w.heap.size + 1) (o := 0) (v := .int .u64 (hi (b))) (by first | with_reducible exact c8_1_0 | (simp [go_sem]; done) | (simp [go_sem, *]; done))
      have c9_1_1 := hb9.get (b := w.heap.size + 1) (o := 1) (v := .int .u64 (lo (b))) (by first | with_reducible exact c8_1_1 | (simp [go_sem]; done) | (simp [go_sem, *]; done))
      have z9_2 : w.heap.size + 1 + 1 < w9.heap.size := (by omega)
      have c9_2_0 := hb9.get (b := w.heap.size + 1 + 1) (o := 0) (v := .int .i64 0) (by first | with_reducible exact c8_2_0 | (simp [go_sem]; done) | (simp [go_sem, *]; done))
      have f9_2_0 := hb9.free (b := w.heap.size + 1 + 1) (o := 0) (v := .int .i64 0) (by first | with_reducible exact c8_2_0 | (simp [go_sem]; done) | (simp [go_sem, *]; done)) (by first | with_reducible exact f8_2_0 | (simp [go_sem]; done) | (simp [go_sem, *]; done))
      have c9_2_1 := hb9.get (b := w.heap.size + 1 + 1) (o := 1) (v := .int .u64 0) (by first | with_reducible exact c8_2_1 | (simp [go_sem]; done) | (simp [go_sem, *]; done))
      have f9_2_1 := hb9.free (b := w.heap.size + 1 + 1) (o := 1) (v := .int .u64 0) (by first | with_reducible exact c8_2_1 | (simp [go_sem]; done) | (simp [go_sem, *]; done)) (by first | with_reducible exact f8_2_1 | (simp [go_sem]; done) | (simp [go_sem, *]; done))
      have c9_2_2 := hb9.get (b := w.heap.size + 1 + 1) (o := 2) (v := .int .u64 0) (by first | with_reducible exact c8_2_2 | (simp [go_sem]; done) | (simp [go_sem, *]; done))
      have f9_2_2 := hb9.free (b := w.heap.size + 1 + 1) (o := 2) (v := .int .u64 0) (by first | with_reducible exact c8_2_2 | (simp [go_sem]; done) | (simp [go_sem, *]; done)) (by first | with_reducible exact f8_2_2 | (simp [go_sem]; done) | (simp [go_sem, *]; done))
      have z9_3 : p < w9.heap.size := (by omega)
      have c9_3_0 := hb9.get (b := p) (o := 0) (v := .int .u64 (hi (-Q))) (by first | with_reducible exact c8_3_0 | (simp [go_sem]; done) | (simp [go_sem, *]; done))
      have f9_3_0 := hb9.free (b := p) (o := 0) (v := .int .u64 (hi (-Q))) (by first | with_reducible exact c8_3_0 | (simp [go_sem]; done) | (simp [go_sem, *]; done)) (by first | with_reducible exact f8_3_0 | (simp [go_sem]; done) | (simp [go_sem, *]; done))
      have c9_3_1 := hb9.get (b := p) (o := 1) (v := .int .u64 (lo (-Q))) (by first | with_reducible exact c8_3_1 | (simp [go_sem]; done) | (simp [go_sem, *]; done))
      have f9_3_1 := hb9.free (b := p) (o := 1) (v := .int .u64 (lo (-Q))) (by first | with_reducible exact c8_3_1 | (simp [go_sem]; done) | (simp [go_sem, *]; done)) (by first | with_reducible exact f8_3_1 | (simp [go_sem]; done) | (simp [go_sem, *]; done))
      have z9_4 : q < w9.heap.size := (by omega)
      have c9_4_0 := hb9.get (b := q) (o := 0) (v := .int .u64 (hi (-R))) (by first | with_reducible exact c8_4_0 | (simp [go_sem]; done) | (simp [go_sem, *]; done))
      have f9_4_0 := hb9.free (b := q) (o := 0) (v := .int .u64 (hi (-R))) (by first | with_reducible exact c8_4_0 | (simp [go_sem]; done) | (simp [go_sem, *]; done)) (by first | with_reducible exact f8_4_0 | (simp [go_sem]; done) | (simp [go_sem, *]; done))
      have c9_4_1 := hb9.get (b := q) (o := 1) (v := .int .u64 (lo (-R))) (by first | with_reducible exact c8_4_1 | (simp [go_sem]; done) | (simp [go_sem, *]; done))
      have f9_4_1 := hb9.free (b := q) (o := 1) (v := .int .u64 (lo (-R))) (by first | with_reducible exact c8_4_1 | (simp [go_sem]; done) | (simp [go_sem, *]; done)) (by first | with_reducible exact f8_4_1 | (simp [go_sem]; done) | (simp [go_sem, *]; done))
      clear hz9
      go_wp2
      have HE : Hid (dsI true a b Q R = -Q) := by unfold dsI; rw [HA.out, HB.out]; rfl
      rw [HE.out]
      exact bodyPost_ret (v := bv W (cutI W.toNat (-Q))) (by simp [results, Try.results15, go_sem, *]) rfl ⟨rfl, by repeat (first | with_reducible exact Fr.refl _ | with_reducible apply Fr.drewN | with_reducible apply Fr.drew | with_reducible apply Fr.alloc | (with_reducible refine Fr.set ?_ (by simp; try omega) _) | (with_reducible refine Fr.call ?_ (by assumption)))⟩
    · refine (below0_any _ _).mono ?_
      rintro e w7 ⟨rfl, hb7⟩
      have hz7 := hb7.size
      (try simp at hz7)
      have z7_0 : w.heap.size < w7.heap.size := (by omega)
      have c7_0_0 := hb7.get (b := w.heap.size) (o := 0) (v := .int .u64 (hi (a))) (by first | with_reducible exact c5_0_0 | (simp [go_sem]; done) | (simp [go_sem, *]; done))
      have c7_0_1 := hb7.get (b := w.heap.size) (o := 1) (v := .int .u64 (lo (a))) (by first | with_reducible exact c5_0_1 | (simp [go_sem]; done) | (simp [go_sem, *]; done))
      have z7_1 : w.heap.size + 1 < w7.heap.size := (by omega)
      have c7_1_0 := hb7.get (b := w.heap.size + 1) (o := 0) (v := .int .u64 (hi (b))) (by first | with_reducible exact c5_1_0 | (simp [go_sem]; done) | (simp [go_sem, *]; done))
      have c7_1_1 := hb7.get (b := w.heap.size + 1) (o := 1) (v := .int .u64 (lo (b))) (by first | with_reducible exact c5_1_1 | (simp [go_sem]; done) | (simp [go_sem, *]; done))
      have z7_2 : w.heap.size + 1 + 1 < w7.heap.size := (by omega)
      have c7_2_0 := hb7.get (b := w.heap.size + 1 + 1) (o := 0) (v := .int .i64 0) (by first | with_reducible exact c5_2_0 | (simp [go_sem]; done) | (simp [go_sem, *]; done))
      have f7_2_0 := hb7.free (b := w.heap.size + 1 + 1) (o := 0) (v := .int .i64 0) (by first | with_reducible exact c5_2_0 | (simp [go_sem]; done) | (simp [go_sem, *]; done)) (by first | with_reducible exact f5_2_0 | (simp [go_sem]; done) | (simp [go_sem, *]; done))
      have c7_2_1 := hb7.get (b := w.heap.size + 1 + 1) (o := 1) (v := .int .u64 0) (by first | with_reducible exact c5_2_1 | (simp [go_sem]; done) | (simp [go_sem, *]; done))
      have f7_2_1 := hb7.free (b := w.heap.size + 1 + 1) (o := 1) (v := .int .u64 0) (by first | with_reducible exact c5_2_1 | (simp [go_sem]; done) | (simp [go_sem, *]; done)) (by first | with_reducible exact f5_2_1 | (simp [go_sem]; done) | (simp [go_sem, *]; done))
      have c7_2_2 := hb7.get (b := w.heap.size + 1 + 1) (o := 2) (v := .int .u64 0) (by first | with_reducible exact c5_2_2 | (simp [go_sem]; done) | (simp [go_sem, *]; done))
      have f7_2_2 := hb7.free (b := w.heap.size + 1 + 1) (o := 2) (v := .int .u64 0) (by first | with_reducible exact c5_2_2 | (simp [go_sem]; done) | (simp [go_sem, *]; done)) (by first | with_reducible exact f5_2_2 | (simp [go_sem]; done) | (simp [go_sem, *]; done))
      have z7_3 : p < w7.heap.size := (by omega)
      have c7_3_0 := hb7.get (b := p) (o := 0) (v := .int .u64 (hi (Q))) (by first | with_reducible exact c5_3_0 | (simp [go_sem]; done) | (simp [go_sem, *]; done))
      have f7_3_0 := hb7.free (b := p) (o := 0) (v := .int .u64 (hi (Q))) (by first | with_reducible exact c5_3_0 | (simp [go_sem]; done) | (simp [go_sem, *]; done)) (by first | with_reducible exact f5_3_0 | (simp [go_sem]; done) | (simp [go_sem, *]; done))
      have c7_3_1 := hb7.get (b := p) (o := 1) (v := .int .u64 (lo (Q))) (by first | with_reducible exact c5_3_1 | (simp [go_sem]; done) | (simp [go_sem, *]; done))
      have f7_3_1 := hb7.free (b := p) (o := 1) (v := .int .u64 (lo (Q))) (by first | with_reducible exact c5_3_1 | (simp [go_sem]; done) | (simp [go_sem, *]; done)) (by first | with_reducible exact f5_3_1 | (simp [go_sem]; done) | (simp [go_sem, *]; done))
      have z7_4 : q < w7.heap.size := (by omega)
      have c7_4_0 := hb7.get (b := q) (o := 0) (v := .int .u64 (hi (R))) (by first | with_reducible exact c5_4_0 | (simp [go_sem]; done) | (simp [go_sem, *]; done))
      have f7_4_0 := hb7.free (b := q) (o := 0) (v := .int .u64 (hi (R))) (by first | with_reducible exact c5_4_0 | (simp [go_sem]; done) | (simp [go_sem, *]; done)) (by first | with_reducible exact f5_4_0 | (simp [go_sem]; done) | (simp [go_sem, *]; done))
      have c7_4_1 := hb7.get (b := q) (o := 1) (v := .int .u64 (lo (R))) (by first | with_reducible exact c5_4_1 | (simp [go_sem]; done) | (simp [go_sem, *]; done))
      have f7_4_1 := hb7.free (b := q) (o := 1) (v := .int .u64 (lo (R))) (by first | with_reducible exact c5_4_1 | (simp [go_sem]; done) | (simp [go_sem, *]; done)) (by first | with_reducible exact f5_4_1 | (simp [go_sem]; done) | (simp [go_sem, *]; done))
      clear hz7
      rw [HA.out]
      go_wp2_with fail
      refine (wneg_any _ _).mono ?_
      rintro e w8 ⟨rfl, hb8⟩
      have hz8 := hb8.size
      (try simp at hz8)
      have z8_0 : w.heap.size < w8.heap.size := (by omega)
      have c8_0_0 := hb8.get (b := w.heap.size) (o := 0) (v := .int .u64 (hi (a))) (by first | with_reducible exact c7_0_0 | (simp [go_sem]; done) | (simp [go_sem, *]; done))
      have c8_0_1 := hb8.get (b := w.heap.size) (o := 1) (v := .int .u64 (lo (a))) (by first | with_reducible exact c7_0_1 | (simp [go_sem]; done) | (simp [go_sem, *]; done))
      have z8_1 : w.heap.size + 1 < w8.heap.size := (by omega)
      have c8_1_0 := hb8.get (b := w.heap.size + 1) (o := 0) (v := .int .u64 (hi (b))) (by first | with_reducible exact c7_1_0 | (simp [go_sem]; done) | (simp [go_sem, *]; done))
      have c8_1_1 := hb8.get (b := w.heap.size + 1) (o := 1) (v := .int .u64 (lo (b))) (by first | with_reducible exact c7_1_1 | (simp [go_sem]; done) | (simp [go_sem, *]; done))
      have z8_2 : w.heap.size + 1 + 1 < w8.heap.size := (by omega)
      have c8_2_0 := hb8.get (b := w.heap.size + 1 + 1) (o := 0) (v := .int .i64 0) (by first | with_reducible exact c7_2_0 | (simp [go_sem]; done) | (simp [go_sem, *]; done))
      have f8_2_0 := hb8.free (b := w.heap.size + 1 + 1) (o := 0) (v := .int .i64 0) (by first | with_reducible exact c7_2_0 | (simp [go_sem]; done) | (simp [go_sem, *]; done)) (by first | with_reducible exact f7_2_0 | (simp [go_sem]; done) | (simp [go_sem, *]; done))
      have c8_2_1 := hb8.get (b := w.heap.size + 1 + 1) (o := 1) (v := .int .u64 0) (by first | with_reducible exact c7_2_1 | (simp [go_sem]; done) | (simp [go_sem, *]; done))
      have f8_2_1 := hb8.free (b := w.heap.size + 1 + 1) (o := 1) (v := .int .u64 0) (by first | with_reducible exact c7_2_1 | (simp [go_sem]; done) | (simp [go_sem, *]; done)) (by first | with_reducible exact f7_2_1 | (simp [go_sem]; done) | (simp [go_sem, *]; done))
      have c8_2_2 := hb8.get (b := w.heap.size + 1 + 1) (o := 2) (v := .int .u64 0) (by first | with_reducible exact c7_2_2 | (simp [go_sem]; done) | (simp [go_sem, *]; done))
      have f8_2_2 := hb8.free (b := w.heap.size + 1 + 1) (o := 2) (v := .int .u64 0) (by first | with_reducible exact c7_2_2 | (simp [go_sem]; done) | (simp [go_sem, *]; done)) (by first | with_reducible exact f7_2_2 | (simp [go_sem]; done) | (simp [go_sem, *]; done))
      have z8_3 : p < w8.heap.size := (by omega)
      have c8_3_0 := hb8.get (b := p) (o := 0) (v := .int .u64 (hi (Q))) (by first | with_reducible exact c7_3_0 | (simp [go_sem]; done) | (simp [go_sem, *]; done))
      have f8_3_0 := hb8.free (b := p) (o := 0) (v := .int .u64 (hi (Q))) (by first | with_reducible exact c7_3_0 | (simp [go_sem]; done) | (simp [go_sem, *]; done)) (by first | with_reducible exact f7_3_0 | (simp [go_sem]; done) | (simp [go_sem, *]; done))
      have c8_3_1 := hb8.get (b := p) (o := 1) (v := .int .u64 (lo (Q))) (by first | with_reducible exact c7_3_1 | (simp [go_sem]; done) | (simp [go_sem, *]; done))
      have f8_3_1 := hb8.free (b := p) (o := 1) (v := .int .u64 (lo (Q))) (by first | with_reducible exact c7_3_1 | (simp [go_sem]; done) | (simp [go_sem, *]; done)) (by first | with_reducible exact f7_3_1 | (simp [go_sem]; done) | (simp [go_sem, *]; done))
      have z8_4 : q < w8.heap.size := (by omega)
      have c8_4_0 := hb8.get (b := q) (o := 0) (v := .int .u64 (hi (R))) (by first | with_reducible exact c7_4_0 | (simp [go_sem]; done) | (simp [go_sem, *]; done))
      have f8_4_0 := hb8.free (b := q) (o := 0) (v := .int .u64 (hi (R))) (by first | with_reducible exact c7_4_0 | (simp [go_sem]; done) | (simp [go_sem, *]; done)) (by first | with_reducible exact f7_4_0 | (simp [go_sem]; done) | (simp [go_sem, *]; done))
      have c8_4_1 := hb8.get (b := q) (o := 1) (v := .int .u64 (lo (R))) (by first | with_reducible exact c7_4_1 | (simp [go_sem]; done) | (simp [go_sem, *]; done))
      have f8_4_1 := hb8.free (b := q) (o := 1) (v := .int .u64 (lo (R))) (by first | with_reducible exact c7_4_1 | (simp [go_sem]; done) | (simp [go_sem, *]; done)) (by first | with_reducible exact f7_4_1 | (simp [go_sem]; done) | (simp [go_sem, *]; done))
      clear hz8
      go_wp2_with fail
      refine (cut_to _ _ (by omega) (by omega) _).mono ?_
      rintro e w9 ⟨rfl, hb9⟩
      have hz9 := hb9.size
      (try simp at hz9)
      have z9_0 : w.heap.size < w9.heap.size := (by omega)
      have c9_0_0 := hb9.get (b := w.heap.size) (o := 0) (v := .int .u64 (hi (a))) (by first | with_reducible exact c8_0_0 | (simp [go_sem]; done) | (simp [go_sem, *]; done))
      have c9_0_1 := hb9.get (b := w.heap.size) (o := 1) (v := .int .u64 (lo (a))) (by first | with_reducible exact c8_0_1 | (simp [go_sem]; done) | (simp [go_sem, *]; done))
      have z9_1 : w.heap.size + 1 < w9.heap.size := (by omega)
      have c9_1_0 := hb9.get (b := w.heap.size + 1) (o := 0) (v := .int .u64 (hi (b))) (by first | with_reducible exact c8_1_0 | (simp [go_sem]; done) | (simp [go_sem, *]; done))
      have c9_1_1 := hb9.get (b := w.heap.size + 1) (o := 1) (v := .int .u64 (lo (b))) (by first | with_reducible exact c8_1_1 | (simp [go_sem]; done) | (simp [go_sem, *]; done))
      have z9_2 : w.heap.size + 1 + 1 < w9.heap.size := (by omega)
      have c9_2_0 := hb9.get (b := w.heap.size + 1 + 1) (o := 0) (v := .int .i64 0) (by first | with_reducible exact c8_2_0 | (simp [go_sem]; done) | (simp [go_sem, *]; done))
      have f9_2_0 := hb9.free (b := w.heap.size + 1 + 1) (o := 0) (v := .int .i64 0) (by first | with_reducible exact c8_2_0 | (simp [go_sem]; done) | (simp [go_sem, *]; done)) (by first | with_reducible exact f8_2_0 | (simp [go_sem]; done) | (simp [go_sem, *]; done))
      have c9_2_1 := hb9.get (b := w.heap.size + 1 + 1) (o := 1) (v := .int .u64 0) (by first | with_reducible exact c8_2_1 | (simp [go_sem]; done) | (simp [go_sem, *]; done))
      have f9_2_1 := hb9.free (b := w.heap.size + 1 + 1) (o := 1) (v := .int .u64 0) (by first | with_reducible exact c8_2_1 | (simp [go_sem]; done) | (simp [go_sem, *]; done)) (by first | with_reducible exact f8_2_1 | (simp [go_sem]; done) | (simp [go_sem, *]; done))
      have c9_2_2 := hb9.get (b := w.heap.size + 1 + 1) (o := 2) (v := .int .u64 0) (by first | with_reducible exact c8_2_2 | (simp [go_sem]; done) | (simp [go_sem, *]; done))
      have f9_2_2 := hb9.free (b := w.heap.size + 1 + 1) (o := 2) (v := .int .u64 0) (by first | with_reducible exact c8_2_2 | (simp [go_sem]; done) | (simp [go_sem, *]; done)) (by first | with_reducible exact f8_2_2 | (simp [go_sem]; done) | (simp [go_sem, *]; done))
      have z9_3 : p < w9.heap.size := (by omega)
      have c9_3_0 := hb9.get (b := p) (o := 0) (v := .int .u64 (hi (Q))) (by first | with_reducible exact c8_3_0 | (simp [go_sem]; done) | (simp [go_sem, *]; done))
      have f9_3_0 := hb9.free (b := p) (o := 0) (v := .int .u64 (hi (Q))) (by first | with_reducible exact c8_3_0 | (simp [go_sem]; done) | (simp [go_sem, *]; done)) (by first | with_reducible exact f8_3_0 | (simp [go_sem]; done) | (simp [go_sem, *]; done))
      have c9_3_1 := hb9.get (b := p) (o := 1) (v := .int .u64 (lo (Q))) (by first | with_reducible exact c8_3_1 | (simp [go_sem]; done) | (simp [go_sem, *]; done))
      have f9_3_1 := hb9.free (b := p) (o := 1) (v := .int .u64 (lo (Q))) (by first | with_reducible exact c8_3_1 | (simp [go_sem]; done) | (simp [go_sem, *]; done)) (by first | with_reducible exact f8_3_1 | (simp [go_sem]; done) | (simp [go_sem, *]; done))
      have z9_4 : q < w9.heap.size := (by omega)
      have c9_4_0 := hb9.get (b := q) (o := 0) (v := .int .u64 (hi (-R))) (by first | with_reducible exact c8_4_0 | (simp [go_sem]; done) | (simp [go_sem, *]; done))
      have f9_4_0 := hb9.free (b := q) (o := 0) (v := .int .u64 (hi (-R))) (by first | with_reducible exact c8_4_0 | (simp [go_sem]; done) | (simp [go_sem, *]; done)) (by first | with_reducible exact f8_4_0 | (simp [go_sem]; done) | (simp [go_sem, *]; done))
      have c9_4_1 := hb9.get (b := q) (o := 1) (v := .int .u64 (lo (-R))) (by first | with_reducible exact c8_4_1 | (simp [go_sem]; done) | (simp [go_sem, *]; done))
      have f9_4_1 := hb9.free (b := q) (o := 1) (v := .int .u64 (lo (-R))) (by first | with_reducible exact c8_4_1 | (simp [go_sem]; done) | (simp [go_sem, *]; done)) (by first | with_reducible exact f8_4_1 | (simp [go_sem]; done) | (simp [go_sem, *]; done))
      clear hz9
      go_wp2
      have HE : Hid (dsI true a b Q R = Q) := by unfold dsI; rw [HA.out, HB.out]; rfl
      rw [HE.out]
      exact bodyPost_ret (v := bv W (cutI W.toNat (Q))) (by simp [results, Try.results15, go_sem, *]) rfl ⟨rfl, by repeat (first | with_reducible exact Fr.refl _ | with_reducible apply Fr.drewN | with_reducible apply Fr.drew | with_reducible apply Fr.alloc | (with_reducible refine Fr.set ?_ (by simp; try omega) _) | (with_reducible refine Fr.call ?_ (by assumption)))⟩
end Go.Proofs.Ytglgbhlnfafhjaa
