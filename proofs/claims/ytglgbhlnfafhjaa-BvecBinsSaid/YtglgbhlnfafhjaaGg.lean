/- Contracts of package bvec's divide, divideSigned and of quoRem by one word, each under the contracts of what it calls. -/
import Derived.Test.YtglgbhlnfafhjaaMidb
import Derived.IntWalk
import Derived.Deep.DeepCutAuto
namespace Go.Proofs.Ytglgbhlnfafhjaa
open Go.RowKit

/-- Two blocks that a call has made hold two numbers. -/
def Two (w wx : World) (k : Nat) (s t : Value) (x y : Int) : Prop := ∃ p q : Nat, s = .pointer (some ⟨p, 0, none⟩) ∧ t = .pointer (some ⟨q, 0, none⟩) ∧ w.heap.size + k < p ∧ w.heap.size + k < q ∧ p ≠ q ∧
  p < wx.heap.size ∧ q < wx.heap.size ∧ wx.cell? ⟨p, 0, none⟩ = some (.int .u64 (hi x)) ∧ wx.cell? ⟨p, 1, none⟩ = some (.int .u64 (lo x)) ∧ wx.cell? ⟨q, 0, none⟩ = some (.int .u64 (hi y)) ∧ wx.cell? ⟨q, 1, none⟩ = some (.int .u64 (lo y)) ∧
  wx.frozen? ⟨p, 0, none⟩ = false ∧ wx.frozen? ⟨p, 1, none⟩ = false ∧ wx.frozen? ⟨q, 0, none⟩ = false ∧ wx.frozen? ⟨q, 1, none⟩ = false
def Res (w wx : World) : Prop := wx.cell? ⟨w.heap.size + 1 + 1, 0, none⟩ = some (.int .i64 0) ∧ wx.cell? ⟨w.heap.size + 1 + 1, 1, none⟩ = some (.int .u64 0) ∧ wx.cell? ⟨w.heap.size + 1 + 1, 2, none⟩ = some (.int .u64 0) ∧ wx.frozen? ⟨w.heap.size + 1 + 1, 0, none⟩ = false ∧ wx.frozen? ⟨w.heap.size + 1 + 1, 1, none⟩ = false ∧ wx.frozen? ⟨w.heap.size + 1 + 1, 2, none⟩ = false ∧ w.heap.size + 1 + 1 < wx.heap.size
def Par (_w wx : World) (i : Nat) (v : Int) : Prop := wx.cell? ⟨i, 0, none⟩ = some (.int .u64 (hi v)) ∧ wx.cell? ⟨i, 1, none⟩ = some (.int .u64 (lo v)) ∧ i < wx.heap.size
set_option maxHeartbeats 4000000 in
theorem divide_q0 (W a b : Int) (h0 : 1 ≤ W) (h1 : W ≤ 128) (hz : (hi b == 0) = true) (hz2 : (lo b == 0) = true) (w : World) :
    Calls Try.prog 14 #[.bool true, .int .i64 W, wv a, wv b] w fun e w' => e = .returned (bv W (cutI W.toNat (2 ^ W.toNat - 1))) ∧ Fr w w' := by
  go_enter Try.func14, Try.ntmps14
  go_upto_region 1 with fail
  go_cut [9, 10] (fun s t wx => Two w wx 2 s t (2 ^ W.toNat - 1) a ∧ Res w wx ∧ Par w wx w.heap.size a ∧ Par w wx (w.heap.size + 1) b ∧ Fr w wx)
  case first =>
    go_region_held3 (fun w' => w'.cell? ⟨w.heap.size, 0, none⟩ = some (.int .u64 (hi (a))) ∧ w'.cell? ⟨w.heap.size, 1, none⟩ = some (.int .u64 (lo (a))) ∧ w'.cell? ⟨w.heap.size + 1, 0, none⟩ = some (.int .u64 (hi (b))) ∧ w'.cell? ⟨w.heap.size + 1, 1, none⟩ = some (.int .u64 (lo (b)))) (simp [go_sem, *])
     ((go_at_call 38; refine (wones_any _ (by omega) (by omega) _).mono ?_; rintro e w1 ⟨rfl, hb1⟩; have hz1 := hb1.size; (try simp at hz1); have z1_0 : w.heap.size < w1.heap.size := (by omega); have c1_0_0 := hb1.get (b := w.heap.size) (o := 0) (v := .int .u64 (hi (a))) (by first | (simp [go_sem]; done) | (simp [go_sem, *]; done)); have c1_0_1 := hb1.get (b := w.heap.size) (o := 1) (v := .int .u64 (lo (a))) (by first | (simp [go_sem]; done) | (simp [go_sem, *]; done)); have z1_1 : w.heap.size + 1 < w1.heap.size := (by omega); have c1_1_0 := hb1.get (b := w.heap.size + 1) (o := 0) (v := .int .u64 (hi (b))) (by first | (simp [go_sem]; done) | (simp [go_sem, *]; done)); have c1_1_1 := hb1.get (b := w.heap.size + 1) (o := 1) (v := .int .u64 (lo (b))) (by first | (simp [go_sem]; done) | (simp [go_sem, *]; done)); have z1_2 : w.heap.size + 1 + 1 < w1.heap.size := (by omega); have c1_2_0 := hb1.get (b := w.heap.size + 1 + 1) (o := 0) (v := .int .i64 0) (by first | (simp [go_sem]; done) | (simp [go_sem, *]; done)); have f1_2_0 := hb1.free (b := w.heap.size + 1 + 1) (o := 0) (v := .int .i64 0) (by first | (simp [go_sem]; done) | (simp [go_sem, *]; done)) (by first | (simp [go_sem]; done) | (simp [go_sem, *]; done)); have c1_2_1 := hb1.get (b := w.heap.size + 1 + 1) (o := 1) (v := .int .u64 0) (by first | (simp [go_sem]; done) | (simp [go_sem, *]; done)); have f1_2_1 := hb1.free (b := w.heap.size + 1 + 1) (o := 1) (v := .int .u64 0) (by first | (simp [go_sem]; done) | (simp [go_sem, *]; done)) (by first | (simp [go_sem]; done) | (simp [go_sem, *]; done)); have c1_2_2 := hb1.get (b := w.heap.size + 1 + 1) (o := 2) (v := .int .u64 0) (by first | (simp [go_sem]; done) | (simp [go_sem, *]; done)); have f1_2_2 := hb1.free (b := w.heap.size + 1 + 1) (o := 2) (v := .int .u64 0) (by first | (simp [go_sem]; done) | (simp [go_sem, *]; done)) (by first | (simp [go_sem]; done) | (simp [go_sem, *]; done)); have d1_0_0 := fun h => hb1.get (b := w.heap.size + 1 + 1 + 1) (o := 0) (v := .int .u64 0) h; have e1_0_0 := fun h h2 => hb1.free (b := w.heap.size + 1 + 1 + 1) (o := 0) (v := .int .u64 0) h h2; (try simp [go_sem, *] at d1_0_0); (try simp [go_sem, *] at e1_0_0); have d1_0_1 := fun h => hb1.get (b := w.heap.size + 1 + 1 + 1) (o := 1) (v := .int .u64 0) h; have e1_0_1 := fun h h2 => hb1.free (b := w.heap.size + 1 + 1 + 1) (o := 1) (v := .int .u64 0) h h2; (try simp [go_sem, *] at d1_0_1); (try simp [go_sem, *] at e1_0_1); have y1_0 := fun h => lt_of_cell (hb1.get (b := w.heap.size + 1 + 1 + 1) (o := 0) (v := .int .u64 0) h); (try simp [go_sem, *] at y1_0); have d1_1_0 := fun h => hb1.get (b := w.heap.size + 1 + 1 + 1 + 1) (o := 0) (v := .int .u64 0) h; have e1_1_0 := fun h h2 => hb1.free (b := w.heap.size + 1 + 1 + 1 + 1) (o := 0) (v := .int .u64 0) h h2; (try simp [go_sem, *] at d1_1_0); (try simp [go_sem, *] at e1_1_0); have d1_1_1 := fun h => hb1.get (b := w.heap.size + 1 + 1 + 1 + 1) (o := 1) (v := .int .u64 0) h; have e1_1_1 := fun h h2 => hb1.free (b := w.heap.size + 1 + 1 + 1 + 1) (o := 1) (v := .int .u64 0) h h2; (try simp [go_sem, *] at d1_1_1); (try simp [go_sem, *] at e1_1_1); have y1_1 := fun h => lt_of_cell (hb1.get (b := w.heap.size + 1 + 1 + 1 + 1) (o := 0) (v := .int .u64 0) h); (try simp [go_sem, *] at y1_1); clear hz1))
    all_goals
      go_wp2_with fail
      go_meet
      refine ⟨⟨_, _, rfl, rfl, ?_, ?_, ?_, ?_, ?_, ?_, ?_, ?_, ?_, ?_, ?_, ?_, ?_⟩, ⟨?_, ?_, ?_, ?_, ?_, ?_, ?_⟩, ⟨?_, ?_, ?_⟩, ⟨?_, ?_, ?_⟩, ?_⟩
      all_goals first | (simp [go_sem, *]; done) | (simp; omega) | ((repeat (first | with_reducible exact Fr.refl _ | with_reducible apply Fr.drewN | with_reducible apply Fr.drew | with_reducible apply Fr.alloc | (with_reducible refine Fr.set ?_ (by simp; try omega) _) | (with_reducible refine Fr.call ?_ (by assumption)))); done) | skip
  case rest =>
    obtain ⟨⟨p, q, rfl, rfl, l1, l2, l3, l4, l5, p0, p1, q0, q1, fp0, fp1, fq0, fq1⟩, ⟨r0, r1, r2, g0, g1, g2, r3⟩, ⟨a0, a1, a2⟩, ⟨b0, b1, b2⟩, hFr⟩ := hcut
    have n1 : ¬ p = w.heap.size + 1 + 1 := by omega
    have n2 : ¬ q = w.heap.size + 1 + 1 := by omega
    have n3 : ¬ w.heap.size + 1 + 1 = p := by omega
    have n4 : ¬ w.heap.size + 1 + 1 = q := by omega
    have n5 : ¬ q = p := by omega
    have gp : w.heap.size ≤ p := by omega
    have gq : w.heap.size ≤ q := by omega
    clear l1 l2
    go_wp2_with fail
    refine (cut_to _ _ (by omega) (by omega) _).mono ?_
    rintro e w1 ⟨rfl, hb1⟩
    have hz1 := hb1.size
    (try simp at hz1)
    have z1_0 : w.heap.size + 1 + 1 < w1.heap.size := (by omega)
    have c1_0_0 := hb1.get (b := w.heap.size + 1 + 1) (o := 0) (v := .int .i64 0) (by first | (simp [go_sem]; done) | (simp [go_sem, *]; done))
    have f1_0_0 := hb1.free (b := w.heap.size + 1 + 1) (o := 0) (v := .int .i64 0) (by first | (simp [go_sem]; done) | (simp [go_sem, *]; done)) (by first | (simp [go_sem]; done) | (simp [go_sem, *]; done))
    have c1_0_1 := hb1.get (b := w.heap.size + 1 + 1) (o := 1) (v := .int .u64 0) (by first | (simp [go_sem]; done) | (simp [go_sem, *]; done))
    have f1_0_1 := hb1.free (b := w.heap.size + 1 + 1) (o := 1) (v := .int .u64 0) (by first | (simp [go_sem]; done) | (simp [go_sem, *]; done)) (by first | (simp [go_sem]; done) | (simp [go_sem, *]; done))
    have c1_0_2 := hb1.get (b := w.heap.size + 1 + 1) (o := 2) (v := .int .u64 0) (by first | (simp [go_sem]; done) | (simp [go_sem, *]; done))
    have f1_0_2 := hb1.free (b := w.heap.size + 1 + 1) (o := 2) (v := .int .u64 0) (by first | (simp [go_sem]; done) | (simp [go_sem, *]; done)) (by first | (simp [go_sem]; done) | (simp [go_sem, *]; done))
    clear hz1
    go_wp2
    exact bodyPost_ret (v := bv W (cutI W.toNat (2 ^ W.toNat - 1))) (by simp [results, Try.results14, go_sem, *]) rfl ⟨rfl, by repeat (first | with_reducible exact Fr.refl _ | with_reducible apply Fr.drewN | with_reducible apply Fr.drew | with_reducible apply Fr.alloc | (with_reducible refine Fr.set ?_ (by simp; try omega) _) | (with_reducible refine Fr.call ?_ (by assumption)))⟩
set_option maxHeartbeats 4000000 in
theorem divide_qA (W a b : Int) (h0 : 1 ≤ W) (h1 : W ≤ 128) (hz : (hi b == 0) = false) (Q R : Int) (hd : ∀ w : World, Calls Try.prog 45 #[wv a, wv b] w fun e w' => e = .returned (.tuple #[wv Q, wv R]) ∧ Fr w w') (w : World) :
    Calls Try.prog 14 #[.bool true, .int .i64 W, wv a, wv b] w fun e w' => e = .returned (bv W (cutI W.toNat (Q))) ∧ Fr w w' := by
  have HD := Lib.hid hd; clear hd
  go_enter Try.func14, Try.ntmps14
  go_upto_region 1 with fail
  go_cut [9, 10] (fun s t wx => Two w wx 2 s t (2 ^ W.toNat - 1) a ∧ Res w wx ∧ Par w wx w.heap.size a ∧ Par w wx (w.heap.size + 1) b ∧ Fr w wx)
  case first =>
    go_region_held3 (fun w' => w'.cell? ⟨w.heap.size, 0, none⟩ = some (.int .u64 (hi (a))) ∧ w'.cell? ⟨w.heap.size, 1, none⟩ = some (.int .u64 (lo (a))) ∧ w'.cell? ⟨w.heap.size + 1, 0, none⟩ = some (.int .u64 (hi (b))) ∧ w'.cell? ⟨w.heap.size + 1, 1, none⟩ = some (.int .u64 (lo (b)))) (simp [go_sem, *])
     ((go_at_call 38; refine (wones_any _ (by omega) (by omega) _).mono ?_; rintro e w1 ⟨rfl, hb1⟩; have hz1 := hb1.size; (try simp at hz1); have z1_0 : w.heap.size < w1.heap.size := (by omega); have c1_0_0 := hb1.get (b := w.heap.size) (o := 0) (v := .int .u64 (hi (a))) (by first | (simp [go_sem]; done) | (simp [go_sem, *]; done)); have c1_0_1 := hb1.get (b := w.heap.size) (o := 1) (v := .int .u64 (lo (a))) (by first | (simp [go_sem]; done) | (simp [go_sem, *]; done)); have z1_1 : w.heap.size + 1 < w1.heap.size := (by omega); have c1_1_0 := hb1.get (b := w.heap.size + 1) (o := 0) (v := .int .u64 (hi (b))) (by first | (simp [go_sem]; done) | (simp [go_sem, *]; done)); have c1_1_1 := hb1.get (b := w.heap.size + 1) (o := 1) (v := .int .u64 (lo (b))) (by first | (simp [go_sem]; done) | (simp [go_sem, *]; done)); have z1_2 : w.heap.size + 1 + 1 < w1.heap.size := (by omega); have c1_2_0 := hb1.get (b := w.heap.size + 1 + 1) (o := 0) (v := .int .i64 0) (by first | (simp [go_sem]; done) | (simp [go_sem, *]; done)); have f1_2_0 := hb1.free (b := w.heap.size + 1 + 1) (o := 0) (v := .int .i64 0) (by first | (simp [go_sem]; done) | (simp [go_sem, *]; done)) (by first | (simp [go_sem]; done) | (simp [go_sem, *]; done)); have c1_2_1 := hb1.get (b := w.heap.size + 1 + 1) (o := 1) (v := .int .u64 0) (by first | (simp [go_sem]; done) | (simp [go_sem, *]; done)); have f1_2_1 := hb1.free (b := w.heap.size + 1 + 1) (o := 1) (v := .int .u64 0) (by first | (simp [go_sem]; done) | (simp [go_sem, *]; done)) (by first | (simp [go_sem]; done) | (simp [go_sem, *]; done)); have c1_2_2 := hb1.get (b := w.heap.size + 1 + 1) (o := 2) (v := .int .u64 0) (by first | (simp [go_sem]; done) | (simp [go_sem, *]; done)); have f1_2_2 := hb1.free (b := w.heap.size + 1 + 1) (o := 2) (v := .int .u64 0) (by first | (simp [go_sem]; done) | (simp [go_sem, *]; done)) (by first | (simp [go_sem]; done) | (simp [go_sem, *]; done)); have d1_0_0 := fun h => hb1.get (b := w.heap.size + 1 + 1 + 1) (o := 0) (v := .int .u64 0) h; have e1_0_0 := fun h h2 => hb1.free (b := w.heap.size + 1 + 1 + 1) (o := 0) (v := .int .u64 0) h h2; (try simp [go_sem, *] at d1_0_0); (try simp [go_sem, *] at e1_0_0); have d1_0_1 := fun h => hb1.get (b := w.heap.size + 1 + 1 + 1) (o := 1) (v := .int .u64 0) h; have e1_0_1 := fun h h2 => hb1.free (b := w.heap.size + 1 + 1 + 1) (o := 1) (v := .int .u64 0) h h2; (try simp [go_sem, *] at d1_0_1); (try simp [go_sem, *] at e1_0_1); have y1_0 := fun h => lt_of_cell (hb1.get (b := w.heap.size + 1 + 1 + 1) (o := 0) (v := .int .u64 0) h); (try simp [go_sem, *] at y1_0); have d1_1_0 := fun h => hb1.get (b := w.heap.size + 1 + 1 + 1 + 1) (o := 0) (v := .int .u64 0) h; have e1_1_0 := fun h h2 => hb1.free (b := w.heap.size + 1 + 1 + 1 + 1) (o := 0) (v := .int .u64 0) h h2; (try simp [go_sem, *] at d1_1_0); (try simp [go_sem, *] at e1_1_0); have d1_1_1 := fun h => hb1.get (b := w.heap.size + 1 + 1 + 1 + 1) (o := 1) (v := .int .u64 0) h; have e1_1_1 := fun h h2 => hb1.free (b := w.heap.size + 1 + 1 + 1 + 1) (o := 1) (v := .int .u64 0) h h2; (try simp [go_sem, *] at d1_1_1); (try simp [go_sem, *] at e1_1_1); have y1_1 := fun h => lt_of_cell (hb1.get (b := w.heap.size + 1 + 1 + 1 + 1) (o := 0) (v := .int .u64 0) h); (try simp [go_sem, *] at y1_1); clear hz1))
    all_goals
      go_wp2_with fail
      go_meet
      refine ⟨⟨_, _, rfl, rfl, ?_, ?_, ?_, ?_, ?_, ?_, ?_, ?_, ?_, ?_, ?_, ?_, ?_⟩, ⟨?_, ?_, ?_, ?_, ?_, ?_, ?_⟩, ⟨?_, ?_, ?_⟩, ⟨?_, ?_, ?_⟩, ?_⟩
      all_goals first | (simp [go_sem, *]; done) | (simp; omega) | ((repeat (first | with_reducible exact Fr.refl _ | with_reducible apply Fr.drewN | with_reducible apply Fr.drew | with_reducible apply Fr.alloc | (with_reducible refine Fr.set ?_ (by simp; try omega) _) | (with_reducible refine Fr.call ?_ (by assumption)))); done) | skip
  case rest =>
    obtain ⟨⟨p, q, rfl, rfl, l1, l2, l3, l4, l5, p0, p1, q0, q1, fp0, fp1, fq0, fq1⟩, ⟨r0, r1, r2, g0, g1, g2, r3⟩, ⟨a0, a1, a2⟩, ⟨b0, b1, b2⟩, hFr⟩ := hcut
    have n1 : ¬ p = w.heap.size + 1 + 1 := by omega
    have n2 : ¬ q = w.heap.size + 1 + 1 := by omega
    have n3 : ¬ w.heap.size + 1 + 1 = p := by omega
    have n4 : ¬ w.heap.size + 1 + 1 = q := by omega
    have n5 : ¬ q = p := by omega
    have gp : w.heap.size ≤ p := by omega
    have gq : w.heap.size ≤ q := by omega
    clear l1 l2
    go_wp2_with fail
    refine (HD.out _).mono ?_
    rintro e w1 ⟨rfl, hb1⟩
    have hz1 := hb1.size
    (try simp at hz1)
    have z1_0 : w.heap.size + 1 + 1 < w1.heap.size := (by omega)
    have c1_0_0 := hb1.get (b := w.heap.size + 1 + 1) (o := 0) (v := .int .i64 0) (by first | (simp [go_sem]; done) | (simp [go_sem, *]; done))
    have f1_0_0 := hb1.free (b := w.heap.size + 1 + 1) (o := 0) (v := .int .i64 0) (by first | (simp [go_sem]; done) | (simp [go_sem, *]; done)) (by first | (simp [go_sem]; done) | (simp [go_sem, *]; done))
    have c1_0_1 := hb1.get (b := w.heap.size + 1 + 1) (o := 1) (v := .int .u64 0) (by first | (simp [go_sem]; done) | (simp [go_sem, *]; done))
    have f1_0_1 := hb1.free (b := w.heap.size + 1 + 1) (o := 1) (v := .int .u64 0) (by first | (simp [go_sem]; done) | (simp [go_sem, *]; done)) (by first | (simp [go_sem]; done) | (simp [go_sem, *]; done))
    have c1_0_2 := hb1.get (b := w.heap.size + 1 + 1) (o := 2) (v := .int .u64 0) (by first | (simp [go_sem]; done) | (simp [go_sem, *]; done))
    have f1_0_2 := hb1.free (b := w.heap.size + 1 + 1) (o := 2) (v := .int .u64 0) (by first | (simp [go_sem]; done) | (simp [go_sem, *]; done)) (by first | (simp [go_sem]; done) | (simp [go_sem, *]; done))
    have z1_1 : p < w1.heap.size := (by omega)
    have c1_1_0 := hb1.get (b := p) (o := 0) (v := .int .u64 (hi (2 ^ W.toNat - 1))) (by first | (simp [go_sem]; done) | (simp [go_sem, *]; done))
    have f1_1_0 := hb1.free (b := p) (o := 0) (v := .int .u64 (hi (2 ^ W.toNat - 1))) (by first | (simp [go_sem]; done) | (simp [go_sem, *]; done)) (by first | (simp [go_sem]; done) | (simp [go_sem, *]; done))
    have c1_1_1 := hb1.get (b := p) (o := 1) (v := .int .u64 (lo (2 ^ W.toNat - 1))) (by first | (simp [go_sem]; done) | (simp [go_sem, *]; done))
    have f1_1_1 := hb1.free (b := p) (o := 1) (v := .int .u64 (lo (2 ^ W.toNat - 1))) (by first | (simp [go_sem]; done) | (simp [go_sem, *]; done)) (by first | (simp [go_sem]; done) | (simp [go_sem, *]; done))
    have z1_2 : q < w1.heap.size := (by omega)
    have c1_2_0 := hb1.get (b := q) (o := 0) (v := .int .u64 (hi (a))) (by first | (simp [go_sem]; done) | (simp [go_sem, *]; done))
    have f1_2_0 := hb1.free (b := q) (o := 0) (v := .int .u64 (hi (a))) (by first | (simp [go_sem]; done) | (simp [go_sem, *]; done)) (by first | (simp [go_sem]; done) | (simp [go_sem, *]; done))
    have c1_2_1 := hb1.get (b := q) (o := 1) (v := .int .u64 (lo (a))) (by first | (simp [go_sem]; done) | (simp [go_sem, *]; done))
    have f1_2_1 := hb1.free (b := q) (o := 1) (v := .int .u64 (lo (a))) (by first | (simp [go_sem]; done) | (simp [go_sem, *]; done)) (by first | (simp [go_sem]; done) | (simp [go_sem, *]; done))
    clear hz1
    go_wp2_with fail
    refine (cut_to _ _ (by omega) (by omega) _).mono ?_
    rintro e w2 ⟨rfl, hb2⟩
    have hz2 := hb2.size
    (try simp at hz2)
    have z2_0 : w.heap.size + 1 + 1 < w2.heap.size := (by omega)
    have c2_0_0 := hb2.get (b := w.heap.size + 1 + 1) (o := 0) (v := .int .i64 0) (by first | (simp [go_sem]; done) | (simp [go_sem, *]; done))
    have f2_0_0 := hb2.free (b := w.heap.size + 1 + 1) (o := 0) (v := .int .i64 0) (by first | (simp [go_sem]; done) | (simp [go_sem, *]; done)) (by first | (simp [go_sem]; done) | (simp [go_sem, *]; done))
    have c2_0_1 := hb2.get (b := w.heap.size + 1 + 1) (o := 1) (v := .int .u64 0) (by first | (simp [go_sem]; done) | (simp [go_sem, *]; done))
    have f2_0_1 := hb2.free (b := w.heap.size + 1 + 1) (o := 1) (v := .int .u64 0) (by first | (simp [go_sem]; done) | (simp [go_sem, *]; done)) (by first | (simp [go_sem]; done) | (simp [go_sem, *]; done))
    have c2_0_2 := hb2.get (b := w.heap.size + 1 + 1) (o := 2) (v := .int .u64 0) (by first | (simp [go_sem]; done) | (simp [go_sem, *]; done))
    have f2_0_2 := hb2.free (b := w.heap.size + 1 + 1) (o := 2) (v := .int .u64 0) (by first | (simp [go_sem]; done) | (simp [go_sem, *]; done)) (by first | (simp [go_sem]; done) | (simp [go_sem, *]; done))
    clear hz2
    go_wp2
    exact bodyPost_ret (v := bv W (cutI W.toNat (Q))) (by simp [results, Try.results14, go_sem, *]) rfl ⟨rfl, by repeat (first | with_reducible exact Fr.refl _ | with_reducible apply Fr.drewN | with_reducible apply Fr.drew | with_reducible apply Fr.alloc | (with_reducible refine Fr.set ?_ (by simp; try omega) _) | (with_reducible refine Fr.call ?_ (by assumption)))⟩
set_option maxHeartbeats 4000000 in
theorem divide_qB (W a b : Int) (h0 : 1 ≤ W) (h1 : W ≤ 128) (hz : (hi b == 0) = true) (hz2 : (lo b == 0) = false) (Q R : Int) (hd : ∀ w : World, Calls Try.prog 45 #[wv a, wv b] w fun e w' => e = .returned (.tuple #[wv Q, wv R]) ∧ Fr w w') (w : World) :
    Calls Try.prog 14 #[.bool true, .int .i64 W, wv a, wv b] w fun e w' => e = .returned (bv W (cutI W.toNat (Q))) ∧ Fr w w' := by
  have HD := Lib.hid hd; clear hd
  go_enter Try.func14, Try.ntmps14
  go_upto_region 1 with fail
  go_cut [9, 10] (fun s t wx => Two w wx 2 s t (2 ^ W.toNat - 1) a ∧ Res w wx ∧ Par w wx w.heap.size a ∧ Par w wx (w.heap.size + 1) b ∧ Fr w wx)
  case first =>
    go_region_held3 (fun w' => w'.cell? ⟨w.heap.size, 0, none⟩ = some (.int .u64 (hi (a))) ∧ w'.cell? ⟨w.heap.size, 1, none⟩ = some (.int .u64 (lo (a))) ∧ w'.cell? ⟨w.heap.size + 1, 0, none⟩ = some (.int .u64 (hi (b))) ∧ w'.cell? ⟨w.heap.size + 1, 1, none⟩ = some (.int .u64 (lo (b)))) (simp [go_sem, *])
     ((go_at_call 38; refine (wones_any _ (by omega) (by omega) _).mono ?_; rintro e w1 ⟨rfl, hb1⟩; have hz1 := hb1.size; (try simp at hz1); have z1_0 : w.heap.size < w1.heap.size := (by omega); have c1_0_0 := hb1.get (b := w.heap.size) (o := 0) (v := .int .u64 (hi (a))) (by first | (simp [go_sem]; done) | (simp [go_sem, *]; done)); have c1_0_1 := hb1.get (b := w.heap.size) (o := 1) (v := .int .u64 (lo (a))) (by first | (simp [go_sem]; done) | (simp [go_sem, *]; done)); have z1_1 : w.heap.size + 1 < w1.heap.size := (by omega); have c1_1_0 := hb1.get (b := w.heap.size + 1) (o := 0) (v := .int .u64 (hi (b))) (by first | (simp [go_sem]; done) | (simp [go_sem, *]; done)); have c1_1_1 := hb1.get (b := w.heap.size + 1) (o := 1) (v := .int .u64 (lo (b))) (by first | (simp [go_sem]; done) | (simp [go_sem, *]; done)); have z1_2 : w.heap.size + 1 + 1 < w1.heap.size := (by omega); have c1_2_0 := hb1.get (b := w.heap.size + 1 + 1) (o := 0) (v := .int .i64 0) (by first | (simp [go_sem]; done) | (simp [go_sem, *]; done)); have f1_2_0 := hb1.free (b := w.heap.size + 1 + 1) (o := 0) (v := .int .i64 0) (by first | (simp [go_sem]; done) | (simp [go_sem, *]; done)) (by first | (simp [go_sem]; done) | (simp [go_sem, *]; done)); have c1_2_1 := hb1.get (b := w.heap.size + 1 + 1) (o := 1) (v := .int .u64 0) (by first | (simp [go_sem]; done) | (simp [go_sem, *]; done)); have f1_2_1 := hb1.free (b := w.heap.size + 1 + 1) (o := 1) (v := .int .u64 0) (by first | (simp [go_sem]; done) | (simp [go_sem, *]; done)) (by first | (simp [go_sem]; done) | (simp [go_sem, *]; done)); have c1_2_2 := hb1.get (b := w.heap.size + 1 + 1) (o := 2) (v := .int .u64 0) (by first | (simp [go_sem]; done) | (simp [go_sem, *]; done)); have f1_2_2 := hb1.free (b := w.heap.size + 1 + 1) (o := 2) (v := .int .u64 0) (by first | (simp [go_sem]; done) | (simp [go_sem, *]; done)) (by first | (simp [go_sem]; done) | (simp [go_sem, *]; done)); have d1_0_0 := fun h => hb1.get (b := w.heap.size + 1 + 1 + 1) (o := 0) (v := .int .u64 0) h; have e1_0_0 := fun h h2 => hb1.free (b := w.heap.size + 1 + 1 + 1) (o := 0) (v := .int .u64 0) h h2; (try simp [go_sem, *] at d1_0_0); (try simp [go_sem, *] at e1_0_0); have d1_0_1 := fun h => hb1.get (b := w.heap.size + 1 + 1 + 1) (o := 1) (v := .int .u64 0) h; have e1_0_1 := fun h h2 => hb1.free (b := w.heap.size + 1 + 1 + 1) (o := 1) (v := .int .u64 0) h h2; (try simp [go_sem, *] at d1_0_1); (try simp [go_sem, *] at e1_0_1); have y1_0 := fun h => lt_of_cell (hb1.get (b := w.heap.size + 1 + 1 + 1) (o := 0) (v := .int .u64 0) h); (try simp [go_sem, *] at y1_0); have d1_1_0 := fun h => hb1.get (b := w.heap.size + 1 + 1 + 1 + 1) (o := 0) (v := .int .u64 0) h; have e1_1_0 := fun h h2 => hb1.free (b := w.heap.size + 1 + 1 + 1 + 1) (o := 0) (v := .int .u64 0) h h2; (try simp [go_sem, *] at d1_1_0); (try simp [go_sem, *] at e1_1_0); have d1_1_1 := fun h => hb1.get (b := w.heap.size + 1 + 1 + 1 + 1) (o := 1) (v := .int .u64 0) h; have e1_1_1 := fun h h2 => hb1.free (b := w.heap.size + 1 + 1 + 1 + 1) (o := 1) (v := .int .u64 0) h h2; (try simp [go_sem, *] at d1_1_1); (try simp [go_sem, *] at e1_1_1); have y1_1 := fun h => lt_of_cell (hb1.get (b := w.heap.size + 1 + 1 + 1 + 1) (o := 0) (v := .int .u64 0) h); (try simp [go_sem, *] at y1_1); clear hz1))
    all_goals
      go_wp2_with fail
      go_meet
      refine ⟨⟨_, _, rfl, rfl, ?_, ?_, ?_, ?_, ?_, ?_, ?_, ?_, ?_, ?_, ?_, ?_, ?_⟩, ⟨?_, ?_, ?_, ?_, ?_, ?_, ?_⟩, ⟨?_, ?_, ?_⟩, ⟨?_, ?_, ?_⟩, ?_⟩
      all_goals first | (simp [go_sem, *]; done) | (simp; omega) | ((repeat (first | with_reducible exact Fr.refl _ | with_reducible apply Fr.drewN | with_reducible apply Fr.drew | with_reducible apply Fr.alloc | (with_reducible refine Fr.set ?_ (by simp; try omega) _) | (with_reducible refine Fr.call ?_ (by assumption)))); done) | skip
  case rest =>
    obtain ⟨⟨p, q, rfl, rfl, l1, l2, l3, l4, l5, p0, p1, q0, q1, fp0, fp1, fq0, fq1⟩, ⟨r0, r1, r2, g0, g1, g2, r3⟩, ⟨a0, a1, a2⟩, ⟨b0, b1, b2⟩, hFr⟩ := hcut
    have n1 : ¬ p = w.heap.size + 1 + 1 := by omega
    have n2 : ¬ q = w.heap.size + 1 + 1 := by omega
    have n3 : ¬ w.heap.size + 1 + 1 = p := by omega
    have n4 : ¬ w.heap.size + 1 + 1 = q := by omega
    have n5 : ¬ q = p := by omega
    have gp : w.heap.size ≤ p := by omega
    have gq : w.heap.size ≤ q := by omega
    clear l1 l2
    go_wp2_with fail
    refine (HD.out _).mono ?_
    rintro e w1 ⟨rfl, hb1⟩
    have hz1 := hb1.size
    (try simp at hz1)
    have z1_0 : w.heap.size + 1 + 1 < w1.heap.size := (by omega)
    have c1_0_0 := hb1.get (b := w.heap.size + 1 + 1) (o := 0) (v := .int .i64 0) (by first | (simp [go_sem]; done) | (simp [go_sem, *]; done))
    have f1_0_0 := hb1.free (b := w.heap.size + 1 + 1) (o := 0) (v := .int .i64 0) (by first | (simp [go_sem]; done) | (simp [go_sem, *]; done)) (by first | (simp [go_sem]; done) | (simp [go_sem, *]; done))
    have c1_0_1 := hb1.get (b := w.heap.size + 1 + 1) (o := 1) (v := .int .u64 0) (by first | (simp [go_sem]; done) | (simp [go_sem, *]; done))
    have f1_0_1 := hb1.free (b := w.heap.size + 1 + 1) (o := 1) (v := .int .u64 0) (by first | (simp [go_sem]; done) | (simp [go_sem, *]; done)) (by first | (simp [go_sem]; done) | (simp [go_sem, *]; done))
    have c1_0_2 := hb1.get (b := w.heap.size + 1 + 1) (o := 2) (v := .int .u64 0) (by first | (simp [go_sem]; done) | (simp [go_sem, *]; done))
    have f1_0_2 := hb1.free (b := w.heap.size + 1 + 1) (o := 2) (v := .int .u64 0) (by first | (simp [go_sem]; done) | (simp [go_sem, *]; done)) (by first | (simp [go_sem]; done) | (simp [go_sem, *]; done))
    have z1_1 : p < w1.heap.size := (by omega)
    have c1_1_0 := hb1.get (b := p) (o := 0) (v := .int .u64 (hi (2 ^ W.toNat - 1))) (by first | (simp [go_sem]; done) | (simp [go_sem, *]; done))
    have f1_1_0 := hb1.free (b := p) (o := 0) (v := .int .u64 (hi (2 ^ W.toNat - 1))) (by first | (simp [go_sem]; done) | (simp [go_sem, *]; done)) (by first | (simp [go_sem]; done) | (simp [go_sem, *]; done))
    have c1_1_1 := hb1.get (b := p) (o := 1) (v := .int .u64 (lo (2 ^ W.toNat - 1))) (by first | (simp [go_sem]; done) | (simp [go_sem, *]; done))
    have f1_1_1 := hb1.free (b := p) (o := 1) (v := .int .u64 (lo (2 ^ W.toNat - 1))) (by first | (simp [go_sem]; done) | (simp [go_sem, *]; done)) (by first | (simp [go_sem]; done) | (simp [go_sem, *]; done))
    have z1_2 : q < w1.heap.size := (by omega)
    have c1_2_0 := hb1.get (b := q) (o := 0) (v := .int .u64 (hi (a))) (by first | (simp [go_sem]; done) | (simp [go_sem, *]; done))
    have f1_2_0 := hb1.free (b := q) (o := 0) (v := .int .u64 (hi (a))) (by first | (simp [go_sem]; done) | (simp [go_sem, *]; done)) (by first | (simp [go_sem]; done) | (simp [go_sem, *]; done))
    have c1_2_1 := hb1.get (b := q) (o := 1) (v := .int .u64 (lo (a))) (by first | (simp [go_sem]; done) | (simp [go_sem, *]; done))
    have f1_2_1 := hb1.free (b := q) (o := 1) (v := .int .u64 (lo (a))) (by first | (simp [go_sem]; done) | (simp [go_sem, *]; done)) (by first | (simp [go_sem]; done) | (simp [go_sem, *]; done))
    clear hz1
    go_wp2_with fail
    refine (cut_to _ _ (by omega) (by omega) _).mono ?_
    rintro e w2 ⟨rfl, hb2⟩
    have hz2 := hb2.size
    (try simp at hz2)
    have z2_0 : w.heap.size + 1 + 1 < w2.heap.size := (by omega)
    have c2_0_0 := hb2.get (b := w.heap.size + 1 + 1) (o := 0) (v := .int .i64 0) (by first | (simp [go_sem]; done) | (simp [go_sem, *]; done))
    have f2_0_0 := hb2.free (b := w.heap.size + 1 + 1) (o := 0) (v := .int .i64 0) (by first | (simp [go_sem]; done) | (simp [go_sem, *]; done)) (by first | (simp [go_sem]; done) | (simp [go_sem, *]; done))
    have c2_0_1 := hb2.get (b := w.heap.size + 1 + 1) (o := 1) (v := .int .u64 0) (by first | (simp [go_sem]; done) | (simp [go_sem, *]; done))
    have f2_0_1 := hb2.free (b := w.heap.size + 1 + 1) (o := 1) (v := .int .u64 0) (by first | (simp [go_sem]; done) | (simp [go_sem, *]; done)) (by first | (simp [go_sem]; done) | (simp [go_sem, *]; done))
    have c2_0_2 := hb2.get (b := w.heap.size + 1 + 1) (o := 2) (v := .int .u64 0) (by first | (simp [go_sem]; done) | (simp [go_sem, *]; done))
    have f2_0_2 := hb2.free (b := w.heap.size + 1 + 1) (o := 2) (v := .int .u64 0) (by first | (simp [go_sem]; done) | (simp [go_sem, *]; done)) (by first | (simp [go_sem]; done) | (simp [go_sem, *]; done))
    clear hz2
    go_wp2
    exact bodyPost_ret (v := bv W (cutI W.toNat (Q))) (by simp [results, Try.results14, go_sem, *]) rfl ⟨rfl, by repeat (first | with_reducible exact Fr.refl _ | with_reducible apply Fr.drewN | with_reducible apply Fr.drew | with_reducible apply Fr.alloc | (with_reducible refine Fr.set ?_ (by simp; try omega) _) | (with_reducible refine Fr.call ?_ (by assumption)))⟩
set_option maxHeartbeats 4000000 in
theorem divide_r0 (W a b : Int) (h0 : 1 ≤ W) (h1 : W ≤ 128) (hz : (hi b == 0) = true) (hz2 : (lo b == 0) = true) (w : World) :
    Calls Try.prog 14 #[.bool false, .int .i64 W, wv a, wv b] w fun e w' => e = .returned (bv W (cutI W.toNat (a))) ∧ Fr w w' := by
  go_enter Try.func14, Try.ntmps14
  go_upto_region 1 with fail
  go_cut [9, 10] (fun s t wx => Two w wx 2 s t (2 ^ W.toNat - 1) a ∧ Res w wx ∧ Par w wx w.heap.size a ∧ Par w wx (w.heap.size + 1) b ∧ Fr w wx)
  case first =>
    go_region_held3 (fun w' => w'.cell? ⟨w.heap.size, 0, none⟩ = some (.int .u64 (hi (a))) ∧ w'.cell? ⟨w.heap.size, 1, none⟩ = some (.int .u64 (lo (a))) ∧ w'.cell? ⟨w.heap.size + 1, 0, none⟩ = some (.int .u64 (hi (b))) ∧ w'.cell? ⟨w.heap.size + 1, 1, none⟩ = some (.int .u64 (lo (b)))) (simp [go_sem, *])
     ((go_at_call 38; refine (wones_any _ (by omega) (by omega) _).mono ?_; rintro e w1 ⟨rfl, hb1⟩; have hz1 := hb1.size; (try simp at hz1); have z1_0 : w.heap.size < w1.heap.size := (by omega); have c1_0_0 := hb1.get (b := w.heap.size) (o := 0) (v := .int .u64 (hi (a))) (by first | (simp [go_sem]; done) | (simp [go_sem, *]; done)); have c1_0_1 := hb1.get (b := w.heap.size) (o := 1) (v := .int .u64 (lo (a))) (by first | (simp [go_sem]; done) | (simp [go_sem, *]; done)); have z1_1 : w.heap.size + 1 < w1.heap.size := (by omega); have c1_1_0 := hb1.get (b := w.heap.size + 1) (o := 0) (v := .int .u64 (hi (b))) (by first | (simp [go_sem]; done) | (simp [go_sem, *]; done)); have c1_1_1 := hb1.get (b := w.heap.size + 1) (o := 1) (v := .int .u64 (lo (b))) (by first | (simp [go_sem]; done) | (simp [go_sem, *]; done)); have z1_2 : w.heap.size + 1 + 1 < w1.heap.size := (by omega); have c1_2_0 := hb1.get (b := w.heap.size + 1 + 1) (o := 0) (v := .int .i64 0) (by first | (simp [go_sem]; done) | (simp [go_sem, *]; done)); have f1_2_0 := hb1.free (b := w.heap.size + 1 + 1) (o := 0) (v := .int .i64 0) (by first | (simp [go_sem]; done) | (simp [go_sem, *]; done)) (by first | (simp [go_sem]; done) | (simp [go_sem, *]; done)); have c1_2_1 := hb1.get (b := w.heap.size + 1 + 1) (o := 1) (v := .int .u64 0) (by first | (simp [go_sem]; done) | (simp [go_sem, *]; done)); have f1_2_1 := hb1.free (b := w.heap.size + 1 + 1) (o := 1) (v := .int .u64 0) (by first | (simp [go_sem]; done) | (simp [go_sem, *]; done)) (by first | (simp [go_sem]; done) | (simp [go_sem, *]; done)); have c1_2_2 := hb1.get (b := w.heap.size + 1 + 1) (o := 2) (v := .int .u64 0) (by first | (simp [go_sem]; done) | (simp [go_sem, *]; done)); have f1_2_2 := hb1.free (b := w.heap.size + 1 + 1) (o := 2) (v := .int .u64 0) (by first | (simp [go_sem]; done) | (simp [go_sem, *]; done)) (by first | (simp [go_sem]; done) | (simp [go_sem, *]; done)); have d1_0_0 := fun h => hb1.get (b := w.heap.size + 1 + 1 + 1) (o := 0) (v := .int .u64 0) h; have e1_0_0 := fun h h2 => hb1.free (b := w.heap.size + 1 + 1 + 1) (o := 0) (v := .int .u64 0) h h2; (try simp [go_sem, *] at d1_0_0); (try simp [go_sem, *] at e1_0_0); have d1_0_1 := fun h => hb1.get (b := w.heap.size + 1 + 1 + 1) (o := 1) (v := .int .u64 0) h; have e1_0_1 := fun h h2 => hb1.free (b := w.heap.size + 1 + 1 + 1) (o := 1) (v := .int .u64 0) h h2; (try simp [go_sem, *] at d1_0_1); (try simp [go_sem, *] at e1_0_1); have y1_0 := fun h => lt_of_cell (hb1.get (b := w.heap.size + 1 + 1 + 1) (o := 0) (v := .int .u64 0) h); (try simp [go_sem, *] at y1_0); have d1_1_0 := fun h => hb1.get (b := w.heap.size + 1 + 1 + 1 + 1) (o := 0) (v := .int .u64 0) h; have e1_1_0 := fun h h2 => hb1.free (b := w.heap.size + 1 + 1 + 1 + 1) (o := 0) (v := .int .u64 0) h h2; (try simp [go_sem, *] at d1_1_0); (try simp [go_sem, *] at e1_1_0); have d1_1_1 := fun h => hb1.get (b := w.heap.size + 1 + 1 + 1 + 1) (o := 1) (v := .int .u64 0) h; have e1_1_1 := fun h h2 => hb1.free (b := w.heap.size + 1 + 1 + 1 + 1) (o := 1) (v := .int .u64 0) h h2; (try simp [go_sem, *] at d1_1_1); (try simp [go_sem, *] at e1_1_1); have y1_1 := fun h => lt_of_cell (hb1.get (b := w.heap.size + 1 + 1 + 1 + 1) (o := 0) (v := .int .u64 0) h); (try simp [go_sem, *] at y1_1); clear hz1))
    all_goals
      go_wp2_with fail
      go_meet
      refine ⟨⟨_, _, rfl, rfl, ?_, ?_, ?_, ?_, ?_, ?_, ?_, ?_, ?_, ?_, ?_, ?_, ?_⟩, ⟨?_, ?_, ?_, ?_, ?_, ?_, ?_⟩, ⟨?_, ?_, ?_⟩, ⟨?_, ?_, ?_⟩, ?_⟩
      all_goals first | (simp [go_sem, *]; done) | (simp; omega) | ((repeat (first | with_reducible exact Fr.refl _ | with_reducible apply Fr.drewN | with_reducible apply Fr.drew | with_reducible apply Fr.alloc | (with_reducible refine Fr.set ?_ (by simp; try omega) _) | (with_reducible refine Fr.call ?_ (by assumption)))); done) | skip
  case rest =>
    obtain ⟨⟨p, q, rfl, rfl, l1, l2, l3, l4, l5, p0, p1, q0, q1, fp0, fp1, fq0, fq1⟩, ⟨r0, r1, r2, g0, g1, g2, r3⟩, ⟨a0, a1, a2⟩, ⟨b0, b1, b2⟩, hFr⟩ := hcut
    have n1 : ¬ p = w.heap.size + 1 + 1 := by omega
    have n2 : ¬ q = w.heap.size + 1 + 1 := by omega
    have n3 : ¬ w.heap.size + 1 + 1 = p := by omega
    have n4 : ¬ w.heap.size + 1 + 1 = q := by omega
    have n5 : ¬ q = p := by omega
    have gp : w.heap.size ≤ p := by omega
    have gq : w.heap.size ≤ q := by omega
    clear l1 l2
    go_wp2_with fail
    refine (cut_to _ _ (by omega) (by omega) _).mono ?_
    rintro e w1 ⟨rfl, hb1⟩
    have hz1 := hb1.size
    (try simp at hz1)
    have z1_0 : w.heap.size + 1 + 1 < w1.heap.size := (by omega)
    have c1_0_0 := hb1.get (b := w.heap.size + 1 + 1) (o := 0) (v := .int .i64 0) (by first | (simp [go_sem]; done) | (simp [go_sem, *]; done))
    have f1_0_0 := hb1.free (b := w.heap.size + 1 + 1) (o := 0) (v := .int .i64 0) (by first | (simp [go_sem]; done) | (simp [go_sem, *]; done)) (by first | (simp [go_sem]; done) | (simp [go_sem, *]; done))
    have c1_0_1 := hb1.get (b := w.heap.size + 1 + 1) (o := 1) (v := .int .u64 0) (by first | (simp [go_sem]; done) | (simp [go_sem, *]; done))
    have f1_0_1 := hb1.free (b := w.heap.size + 1 + 1) (o := 1) (v := .int .u64 0) (by first | (simp [go_sem]; done) | (simp [go_sem, *]; done)) (by first | (simp [go_sem]; done) | (simp [go_sem, *]; done))
    have c1_0_2 := hb1.get (b := w.heap.size + 1 + 1) (o := 2) (v := .int .u64 0) (by first | (simp [go_sem]; done) | (simp [go_sem, *]; done))
    have f1_0_2 := hb1.free (b := w.heap.size + 1 + 1) (o := 2) (v := .int .u64 0) (by first | (simp [go_sem]; done) | (simp [go_sem, *]; done)) (by first | (simp [go_sem]; done) | (simp [go_sem, *]; done))
    clear hz1
    go_wp2
    exact bodyPost_ret (v := bv W (cutI W.toNat (a))) (by simp [results, Try.results14, go_sem, *]) rfl ⟨rfl, by repeat (first | with_reducible exact Fr.refl _ | with_reducible apply Fr.drewN | with_reducible apply Fr.drew | with_reducible apply Fr.alloc | (with_reducible refine Fr.set ?_ (by simp; try omega) _) | (with_reducible refine Fr.call ?_ (by assumption)))⟩
set_option maxHeartbeats 4000000 in
theorem divide_rA (W a b : Int) (h0 : 1 ≤ W) (h1 : W ≤ 128) (hz : (hi b == 0) = false) (Q R : Int) (hd : ∀ w : World, Calls Try.prog 45 #[wv a, wv b] w fun e w' => e = .returned (.tuple #[wv Q, wv R]) ∧ Fr w w') (w : World) :
    Calls Try.prog 14 #[.bool false, .int .i64 W, wv a, wv b] w fun e w' => e = .returned (bv W (cutI W.toNat (R))) ∧ Fr w w' := by
  have HD := Lib.hid hd; clear hd
  go_enter Try.func14, Try.ntmps14
  go_upto_region 1 with fail
  go_cut [9, 10] (fun s t wx => Two w wx 2 s t (2 ^ W.toNat - 1) a ∧ Res w wx ∧ Par w wx w.heap.size a ∧ Par w wx (w.heap.size + 1) b ∧ Fr w wx)
  case first =>
    go_region_held3 (fun w' => w'.cell? ⟨w.heap.size, 0, none⟩ = some (.int .u64 (hi (a))) ∧ w'.cell? ⟨w.heap.size, 1, none⟩ = some (.int .u64 (lo (a))) ∧ w'.cell? ⟨w.heap.size + 1, 0, none⟩ = some (.int .u64 (hi (b))) ∧ w'.cell? ⟨w.heap.size + 1, 1, none⟩ = some (.int .u64 (lo (b)))) (simp [go_sem, *])
     ((go_at_call 38; refine (wones_any _ (by omega) (by omega) _).mono ?_; rintro e w1 ⟨rfl, hb1⟩; have hz1 := hb1.size; (try simp at hz1); have z1_0 : w.heap.size < w1.heap.size := (by omega); have c1_0_0 := hb1.get (b := w.heap.size) (o := 0) (v := .int .u64 (hi (a))) (by first | (simp [go_sem]; done) | (simp [go_sem, *]; done)); have c1_0_1 := hb1.get (b := w.heap.size) (o := 1) (v := .int .u64 (lo (a))) (by first | (simp [go_sem]; done) | (simp [go_sem, *]; done)); have z1_1 : w.heap.size + 1 < w1.heap.size := (by omega); have c1_1_0 := hb1.get (b := w.heap.size + 1) (o := 0) (v := .int .u64 (hi (b))) (by first | (simp [go_sem]; done) | (simp [go_sem, *]; done)); have c1_1_1 := hb1.get (b := w.heap.size + 1) (o := 1) (v := .int .u64 (lo (b))) (by first | (simp [go_sem]; done) | (simp [go_sem, *]; done)); have z1_2 : w.heap.size + 1 + 1 < w1.heap.size := (by omega); have c1_2_0 := hb1.get (b := w.heap.size + 1 + 1) (o := 0) (v := .int .i64 0) (by first | (simp [go_sem]; done) | (simp [go_sem, *]; done)); have f1_2_0 := hb1.free (b := w.heap.size + 1 + 1) (o := 0) (v := .int .i64 0) (by first | (simp [go_sem]; done) | (simp [go_sem, *]; done)) (by first | (simp [go_sem]; done) | (simp [go_sem, *]; done)); have c1_2_1 := hb1.get (b := w.heap.size + 1 + 1) (o := 1) (v := .int .u64 0) (by first | (simp [go_sem]; done) | (simp [go_sem, *]; done)); have f1_2_1 := hb1.free (b := w.heap.size + 1 + 1) (o := 1) (v := .int .u64 0) (by first | (simp [go_sem]; done) | (simp [go_sem, *]; done)) (by first | (simp [go_sem]; done) | (simp [go_sem, *]; done)); have c1_2_2 := hb1.get (b := w.heap.size + 1 + 1) (o := 2) (v := .int .u64 0) (by first | (simp [go_sem]; done) | (simp [go_sem, *]; done)); have f1_2_2 := hb1.free (b := w.heap.size + 1 + 1) (o := 2) (v := .int .u64 0) (by first | (simp [go_sem]; done) | (simp [go_sem, *]; done)) (by first | (simp [go_sem]; done) | (simp [go_sem, *]; done)); have d1_0_0 := fun h => hb1.get (b := w.heap.size + 1 + 1 + 1) (o := 0) (v := .int .u64 0) h; have e1_0_0 := fun h h2 => hb1.free (b := w.heap.size + 1 + 1 + 1) (o := 0) (v := .int .u64 0) h h2; (try simp [go_sem, *] at d1_0_0); (try simp [go_sem, *] at e1_0_0); have d1_0_1 := fun h => hb1.get (b := w.heap.size + 1 + 1 + 1) (o := 1) (v := .int .u64 0) h; have e1_0_1 := fun h h2 => hb1.free (b := w.heap.size + 1 + 1 + 1) (o := 1) (v := .int .u64 0) h h2; (try simp [go_sem, *] at d1_0_1); (try simp [go_sem, *] at e1_0_1); have y1_0 := fun h => lt_of_cell (hb1.get (b := w.heap.size + 1 + 1 + 1) (o := 0) (v := .int .u64 0) h); (try simp [go_sem, *] at y1_0); have d1_1_0 := fun h => hb1.get (b := w.heap.size + 1 + 1 + 1 + 1) (o := 0) (v := .int .u64 0) h; have e1_1_0 := fun h h2 => hb1.free (b := w.heap.size + 1 + 1 + 1 + 1) (o := 0) (v := .int .u64 0) h h2; (try simp [go_sem, *] at d1_1_0); (try simp [go_sem, *] at e1_1_0); have d1_1_1 := fun h => hb1.get (b := w.heap.size + 1 + 1 + 1 + 1) (o := 1) (v := .int .u64 0) h; have e1_1_1 := fun h h2 => hb1.free (b := w.heap.size + 1 + 1 + 1 + 1) (o := 1) (v := .int .u64 0) h h2; (try simp [go_sem, *] at d1_1_1); (try simp [go_sem, *] at e1_1_1); have y1_1 := fun h => lt_of_cell (hb1.get (b := w.heap.size + 1 + 1 + 1 + 1) (o := 0) (v := .int .u64 0) h); (try simp [go_sem, *] at y1_1); clear hz1))
    all_goals
      go_wp2_with fail
      go_meet
      refine ⟨⟨_, _, rfl, rfl, ?_, ?_, ?_, ?_, ?_, ?_, ?_, ?_, ?_, ?_, ?_, ?_, ?_⟩, ⟨?_, ?_, ?_, ?_, ?_, ?_, ?_⟩, ⟨?_, ?_, ?_⟩, ⟨?_, ?_, ?_⟩, ?_⟩
      all_goals first | (simp [go_sem, *]; done) | (simp; omega) | ((repeat (first | with_reducible exact Fr.refl _ | with_reducible apply Fr.drewN | with_reducible apply Fr.drew | with_reducible apply Fr.alloc | (with_reducible refine Fr.set ?_ (by simp; try omega) _) | (with_reducible refine Fr.call ?_ (by assumption)))); done) | skip
  case rest =>
    obtain ⟨⟨p, q, rfl, rfl, l1, l2, l3, l4, l5, p0, p1, q0, q1, fp0, fp1, fq0, fq1⟩, ⟨r0, r1, r2, g0, g1, g2, r3⟩, ⟨a0, a1, a2⟩, ⟨b0, b1, b2⟩, hFr⟩ := hcut
    have n1 : ¬ p = w.heap.size + 1 + 1 := by omega
    have n2 : ¬ q = w.heap.size + 1 + 1 := by omega
    have n3 : ¬ w.heap.size + 1 + 1 = p := by omega
    have n4 : ¬ w.heap.size + 1 + 1 = q := by omega
    have n5 : ¬ q = p := by omega
    have gp : w.heap.size ≤ p := by omega
    have gq : w.heap.size ≤ q := by omega
    clear l1 l2
    go_wp2_with fail
    refine (HD.out _).mono ?_
    rintro e w1 ⟨rfl, hb1⟩
    have hz1 := hb1.size
    (try simp at hz1)
    have z1_0 : w.heap.size + 1 + 1 < w1.heap.size := (by omega)
    have c1_0_0 := hb1.get (b := w.heap.size + 1 + 1) (o := 0) (v := .int .i64 0) (by first | (simp [go_sem]; done) | (simp [go_sem, *]; done))
    have f1_0_0 := hb1.free (b := w.heap.size + 1 + 1) (o := 0) (v := .int .i64 0) (by first | (simp [go_sem]; done) | (simp [go_sem, *]; done)) (by first | (simp [go_sem]; done) | (simp [go_sem, *]; done))
    have c1_0_1 := hb1.get (b := w.heap.size + 1 + 1) (o := 1) (v := .int .u64 0) (by first | (simp [go_sem]; done) | (simp [go_sem, *]; done))
    have f1_0_1 := hb1.free (b := w.heap.size + 1 + 1) (o := 1) (v := .int .u64 0) (by first | (simp [go_sem]; done) | (simp [go_sem, *]; done)) (by first | (simp [go_sem]; done) | (simp [go_sem, *]; done))
    have c1_0_2 := hb1.get (b := w.heap.size + 1 + 1) (o := 2) (v := .int .u64 0) (by first | (simp [go_sem]; done) | (simp [go_sem, *]; done))
    have f1_0_2 := hb1.free (b := w.heap.size + 1 + 1) (o := 2) (v := .int .u64 0) (by first | (simp [go_sem]; done) | (simp [go_sem, *]; done)) (by first | (simp [go_sem]; done) | (simp [go_sem, *]; done))
    have z1_1 : p < w1.heap.size := (by omega)
    have c1_1_0 := hb1.get (b := p) (o := 0) (v := .int .u64 (hi (2 ^ W.toNat - 1))) (by first | (simp [go_sem]; done) | (simp [go_sem, *]; done))
    have f1_1_0 := hb1.free (b := p) (o := 0) (v := .int .u64 (hi (2 ^ W.toNat - 1))) (by first | (simp [go_sem]; done) | (simp [go_sem, *]; done)) (by first | (simp [go_sem]; done) | (simp [go_sem, *]; done))
    have c1_1_1 := hb1.get (b := p) (o := 1) (v := .int .u64 (lo (2 ^ W.toNat - 1))) (by first | (simp [go_sem]; done) | (simp [go_sem, *]; done))
    have f1_1_1 := hb1.free (b := p) (o := 1) (v := .int .u64 (lo (2 ^ W.toNat - 1))) (by first | (simp [go_sem]; done) | (simp [go_sem, *]; done)) (by first | (simp [go_sem]; done) | (simp [go_sem, *]; done))
    have z1_2 : q < w1.heap.size := (by omega)
    have c1_2_0 := hb1.get (b := q) (o := 0) (v := .int .u64 (hi (a))) (by first | (simp [go_sem]; done) | (simp [go_sem, *]; done))
    have f1_2_0 := hb1.free (b := q) (o := 0) (v := .int .u64 (hi (a))) (by first | (simp [go_sem]; done) | (simp [go_sem, *]; done)) (by first | (simp [go_sem]; done) | (simp [go_sem, *]; done))
    have c1_2_1 := hb1.get (b := q) (o := 1) (v := .int .u64 (lo (a))) (by first | (simp [go_sem]; done) | (simp [go_sem, *]; done))
    have f1_2_1 := hb1.free (b := q) (o := 1) (v := .int .u64 (lo (a))) (by first | (simp [go_sem]; done) | (simp [go_sem, *]; done)) (by first | (simp [go_sem]; done) | (simp [go_sem, *]; done))
    clear hz1
    go_wp2_with fail
    refine (cut_to _ _ (by omega) (by omega) _).mono ?_
    rintro e w2 ⟨rfl, hb2⟩
    have hz2 := hb2.size
    (try simp at hz2)
    have z2_0 : w.heap.size + 1 + 1 < w2.heap.size := (by omega)
    have c2_0_0 := hb2.get (b := w.heap.size + 1 + 1) (o := 0) (v := .int .i64 0) (by first | (simp [go_sem]; done) | (simp [go_sem, *]; done))
    have f2_0_0 := hb2.free (b := w.heap.size + 1 + 1) (o := 0) (v := .int .i64 0) (by first | (simp [go_sem]; done) | (simp [go_sem, *]; done)) (by first | (simp [go_sem]; done) | (simp [go_sem, *]; done))
    have c2_0_1 := hb2.get (b := w.heap.size + 1 + 1) (o := 1) (v := .int .u64 0) (by first | (simp [go_sem]; done) | (simp [go_sem, *]; done))
    have f2_0_1 := hb2.free (b := w.heap.size + 1 + 1) (o := 1) (v := .int .u64 0) (by first | (simp [go_sem]; done) | (simp [go_sem, *]; done)) (by first | (simp [go_sem]; done) | (simp [go_sem, *]; done))
    have c2_0_2 := hb2.get (b := w.heap.size + 1 + 1) (o := 2) (v := .int .u64 0) (by first | (simp [go_sem]; done) | (simp [go_sem, *]; done))
    have f2_0_2 := hb2.free (b := w.heap.size + 1 + 1) (o := 2) (v := .int .u64 0) (by first | (simp [go_sem]; done) | (simp [go_sem, *]; done)) (by first | (simp [go_sem]; done) | (simp [go_sem, *]; done))
    clear hz2
    go_wp2
    exact bodyPost_ret (v := bv W (cutI W.toNat (R))) (by simp [results, Try.results14, go_sem, *]) rfl ⟨rfl, by repeat (first | with_reducible exact Fr.refl _ | with_reducible apply Fr.drewN | with_reducible apply Fr.drew | with_reducible apply Fr.alloc | (with_reducible refine Fr.set ?_ (by simp; try omega) _) | (with_reducible refine Fr.call ?_ (by assumption)))⟩
set_option maxHeartbeats 4000000 in
theorem divide_rB (W a b : Int) (h0 : 1 ≤ W) (h1 : W ≤ 128) (hz : (hi b == 0) = true) (hz2 : (lo b == 0) = false) (Q R : Int) (hd : ∀ w : World, Calls Try.prog 45 #[wv a, wv b] w fun e w' => e = .returned (.tuple #[wv Q, wv R]) ∧ Fr w w') (w : World) :
    Calls Try.prog 14 #[.bool false, .int .i64 W, wv a, wv b] w fun e w' => e = .returned (bv W (cutI W.toNat (R))) ∧ Fr w w' := by
  have HD := Lib.hid hd; clear hd
  go_enter Try.func14, Try.ntmps14
  go_upto_region 1 with fail
  go_cut [9, 10] (fun s t wx => Two w wx 2 s t (2 ^ W.toNat - 1) a ∧ Res w wx ∧ Par w wx w.heap.size a ∧ Par w wx (w.heap.size + 1) b ∧ Fr w wx)
  case first =>
    go_region_held3 (fun w' => w'.cell? ⟨w.heap.size, 0, none⟩ = some (.int .u64 (hi (a))) ∧ w'.cell? ⟨w.heap.size, 1, none⟩ = some (.int .u64 (lo (a))) ∧ w'.cell? ⟨w.heap.size + 1, 0, none⟩ = some (.int .u64 (hi (b))) ∧ w'.cell? ⟨w.heap.size + 1, 1, none⟩ = some (.int .u64 (lo (b)))) (simp [go_sem, *])
     ((go_at_call 38; refine (wones_any _ (by omega) (by omega) _).mono ?_; rintro e w1 ⟨rfl, hb1⟩; have hz1 := hb1.size; (try simp at hz1); have z1_0 : w.heap.size < w1.heap.size := (by omega); have c1_0_0 := hb1.get (b := w.heap.size) (o := 0) (v := .int .u64 (hi (a))) (by first | (simp [go_sem]; done) | (simp [go_sem, *]; done)); have c1_0_1 := hb1.get (b := w.heap.size) (o := 1) (v := .int .u64 (lo (a))) (by first | (simp [go_sem]; done) | (simp [go_sem, *]; done)); have z1_1 : w.heap.size + 1 < w1.heap.size := (by omega); have c1_1_0 := hb1.get (b := w.heap.size + 1) (o := 0) (v := .int .u64 (hi (b))) (by first | (simp [go_sem]; done) | (simp [go_sem, *]; done)); have c1_1_1 := hb1.get (b := w.heap.size + 1) (o := 1) (v := .int .u64 (lo (b))) (by first | (simp [go_sem]; done) | (simp [go_sem, *]; done)); have z1_2 : w.heap.size + 1 + 1 < w1.heap.size := (by omega); have c1_2_0 := hb1.get (b := w.heap.size + 1 + 1) (o := 0) (v := .int .i64 0) (by first | (simp [go_sem]; done) | (simp [go_sem, *]; done)); have f1_2_0 := hb1.free (b := w.heap.size + 1 + 1) (o := 0) (v := .int .i64 0) (by first | (simp [go_sem]; done) | (simp [go_sem, *]; done)) (by first | (simp [go_sem]; done) | (simp [go_sem, *]; done)); have c1_2_1 := hb1.get (b := w.heap.size + 1 + 1) (o := 1) (v := .int .u64 0) (by first | (simp [go_sem]; done) | (simp [go_sem, *]; done)); have f1_2_1 := hb1.free (b := w.heap.size + 1 + 1) (o := 1) (v := .int .u64 0) (by first | (simp [go_sem]; done) | (simp [go_sem, *]; done)) (by first | (simp [go_sem]; done) | (simp [go_sem, *]; done)); have c1_2_2 := hb1.get (b := w.heap.size + 1 + 1) (o := 2) (v := .int .u64 0) (by first | (simp [go_sem]; done) | (simp [go_sem, *]; done)); have f1_2_2 := hb1.free (b := w.heap.size + 1 + 1) (o := 2) (v := .int .u64 0) (by first | (simp [go_sem]; done) | (simp [go_sem, *]; done)) (by first | (simp [go_sem]; done) | (simp [go_sem, *]; done)); have d1_0_0 := fun h => hb1.get (b := w.heap.size + 1 + 1 + 1) (o := 0) (v := .int .u64 0) h; have e1_0_0 := fun h h2 => hb1.free (b := w.heap.size + 1 + 1 + 1) (o := 0) (v := .int .u64 0) h h2; (try simp [go_sem, *] at d1_0_0); (try simp [go_sem, *] at e1_0_0); have d1_0_1 := fun h => hb1.get (b := w.heap.size + 1 + 1 + 1) (o := 1) (v := .int .u64 0) h; have e1_0_1 := fun h h2 => hb1.free (b := w.heap.size + 1 + 1 + 1) (o := 1) (v := .int .u64 0) h h2; (try simp [go_sem, *] at d1_0_1); (try simp [go_sem, *] at e1_0_1); have y1_0 := fun h => lt_of_cell (hb1.get (b := w.heap.size + 1 + 1 + 1) (o := 0) (v := .int .u64 0) h); (try simp [go_sem, *] at y1_0); have d1_1_0 := fun h => hb1.get (b := w.heap.size + 1 + 1 + 1 + 1) (o := 0) (v := .int .u64 0) h; have e1_1_0 := fun h h2 => hb1.free (b := w.heap.size + 1 + 1 + 1 + 1) (o := 0) (v := .int .u64 0) h h2; (try simp [go_sem, *] at d1_1_0); (try simp [go_sem, *] at e1_1_0); have d1_1_1 := fun h => hb1.get (b := w.heap.size + 1 + 1 + 1 + 1) (o := 1) (v := .int .u64 0) h; have e1_1_1 := fun h h2 => hb1.free (b := w.heap.size + 1 + 1 + 1 + 1) (o := 1) (v := .int .u64 0) h h2; (try simp [go_sem, *] at d1_1_1); (try simp [go_sem, *] at e1_1_1); have y1_1 := fun h => lt_of_cell (hb1.get (b := w.heap.size + 1 + 1 + 1 + 1) (o := 0) (v := .int .u64 0) h); (try simp [go_sem, *] at y1_1); clear hz1))
    all_goals
      go_wp2_with fail
      go_meet
      refine ⟨⟨_, _, rfl, rfl, ?_, ?_, ?_, ?_, ?_, ?_, ?_, ?_, ?_, ?_, ?_, ?_, ?_⟩, ⟨?_, ?_, ?_, ?_, ?_, ?_, ?_⟩, ⟨?_, ?_, ?_⟩, ⟨?_, ?_, ?_⟩, ?_⟩
      all_goals first | (simp [go_sem, *]; done) | (simp; omega) | ((repeat (first | with_reducible exact Fr.refl _ | with_reducible apply Fr.drewN | with_reducible apply Fr.drew | with_reducible apply Fr.alloc | (with_reducible refine Fr.set ?_ (by simp; try omega) _) | (with_reducible refine Fr.call ?_ (by assumption)))); done) | skip
  case rest =>
    obtain ⟨⟨p, q, rfl, rfl, l1, l2, l3, l4, l5, p0, p1, q0, q1, fp0, fp1, fq0, fq1⟩, ⟨r0, r1, r2, g0, g1, g2, r3⟩, ⟨a0, a1, a2⟩, ⟨b0, b1, b2⟩, hFr⟩ := hcut
    have n1 : ¬ p = w.heap.size + 1 + 1 := by omega
    have n2 : ¬ q = w.heap.size + 1 + 1 := by omega
    have n3 : ¬ w.heap.size + 1 + 1 = p := by omega
    have n4 : ¬ w.heap.size + 1 + 1 = q := by omega
    have n5 : ¬ q = p := by omega
    have gp : w.heap.size ≤ p := by omega
    have gq : w.heap.size ≤ q := by omega
    clear l1 l2
    go_wp2_with fail
    refine (HD.out _).mono ?_
    rintro e w1 ⟨rfl, hb1⟩
    have hz1 := hb1.size
    (try simp at hz1)
    have z1_0 : w.heap.size + 1 + 1 < w1.heap.size := (by omega)
    have c1_0_0 := hb1.get (b := w.heap.size + 1 + 1) (o := 0) (v := .int .i64 0) (by first | (simp [go_sem]; done) | (simp [go_sem, *]; done))
    have f1_0_0 := hb1.free (b := w.heap.size + 1 + 1) (o := 0) (v := .int .i64 0) (by first | (simp [go_sem]; done) | (simp [go_sem, *]; done)) (by first | (simp [go_sem]; done) | (simp [go_sem, *]; done))
    have c1_0_1 := hb1.get (b := w.heap.size + 1 + 1) (o := 1) (v := .int .u64 0) (by first | (simp [go_sem]; done) | (simp [go_sem, *]; done))
    have f1_0_1 := hb1.free (b := w.heap.size + 1 + 1) (o := 1) (v := .int .u64 0) (by first | (simp [go_sem]; done) | (simp [go_sem, *]; done)) (by first | (simp [go_sem]; done) | (simp [go_sem, *]; done))
    have c1_0_2 := hb1.get (b := w.heap.size + 1 + 1) (o := 2) (v := .int .u64 0) (by first | (simp [go_sem]; done) | (simp [go_sem, *]; done))
    have f1_0_2 := hb1.free (b := w.heap.size + 1 + 1) (o := 2) (v := .int .u64 0) (by first | (simp [go_sem]; done) | (simp [go_sem, *]; done)) (by first | (simp [go_sem]; done) | (simp [go_sem, *]; done))
    have z1_1 : p < w1.heap.size := (by omega)
    have c1_1_0 := hb1.get (b := p) (o := 0) (v := .int .u64 (hi (2 ^ W.toNat - 1))) (by first | (simp [go_sem]; done) | (simp [go_sem, *]; done))
    have f1_1_0 := hb1.free (b := p) (o := 0) (v := .int .u64 (hi (2 ^ W.toNat - 1))) (by first | (simp [go_sem]; done) | (simp [go_sem, *]; done)) (by first | (simp [go_sem]; done) | (simp [go_sem, *]; done))
    have c1_1_1 := hb1.get (b := p) (o := 1) (v := .int .u64 (lo (2 ^ W.toNat - 1))) (by first | (simp [go_sem]; done) | (simp [go_sem, *]; done))
    have f1_1_1 := hb1.free (b := p) (o := 1) (v := .int .u64 (lo (2 ^ W.toNat - 1))) (by first | (simp [go_sem]; done) | (simp [go_sem, *]; done)) (by first | (simp [go_sem]; done) | (simp [go_sem, *]; done))
    have z1_2 : q < w1.heap.size := (by omega)
    have c1_2_0 := hb1.get (b := q) (o := 0) (v := .int .u64 (hi (a))) (by first | (simp [go_sem]; done) | (simp [go_sem, *]; done))
    have f1_2_0 := hb1.free (b := q) (o := 0) (v := .int .u64 (hi (a))) (by first | (simp [go_sem]; done) | (simp [go_sem, *]; done)) (by first | (simp [go_sem]; done) | (simp [go_sem, *]; done))
    have c1_2_1 := hb1.get (b := q) (o := 1) (v := .int .u64 (lo (a))) (by first | (simp [go_sem]; done) | (simp [go_sem, *]; done))
    have f1_2_1 := hb1.free (b := q) (o := 1) (v := .int .u64 (lo (a))) (by first | (simp [go_sem]; done) | (simp [go_sem, *]; done)) (by first | (simp [go_sem]; done) | (simp [go_sem, *]; done))
    clear hz1
    go_wp2_with fail
    refine (cut_to _ _ (by omega) (by omega) _).mono ?_
    rintro e w2 ⟨rfl, hb2⟩
    have hz2 := hb2.size
    (try simp at hz2)
    have z2_0 : w.heap.size + 1 + 1 < w2.heap.size := (by omega)
    have c2_0_0 := hb2.get (b := w.heap.size + 1 + 1) (o := 0) (v := .int .i64 0) (by first | (simp [go_sem]; done) | (simp [go_sem, *]; done))
    have f2_0_0 := hb2.free (b := w.heap.size + 1 + 1) (o := 0) (v := .int .i64 0) (by first | (simp [go_sem]; done) | (simp [go_sem, *]; done)) (by first | (simp [go_sem]; done) | (simp [go_sem, *]; done))
    have c2_0_1 := hb2.get (b := w.heap.size + 1 + 1) (o := 1) (v := .int .u64 0) (by first | (simp [go_sem]; done) | (simp [go_sem, *]; done))
    have f2_0_1 := hb2.free (b := w.heap.size + 1 + 1) (o := 1) (v := .int .u64 0) (by first | (simp [go_sem]; done) | (simp [go_sem, *]; done)) (by first | (simp [go_sem]; done) | (simp [go_sem, *]; done))
    have c2_0_2 := hb2.get (b := w.heap.size + 1 + 1) (o := 2) (v := .int .u64 0) (by first | (simp [go_sem]; done) | (simp [go_sem, *]; done))
    have f2_0_2 := hb2.free (b := w.heap.size + 1 + 1) (o := 2) (v := .int .u64 0) (by first | (simp [go_sem]; done) | (simp [go_sem, *]; done)) (by first | (simp [go_sem]; done) | (simp [go_sem, *]; done))
    clear hz2
    go_wp2
    exact bodyPost_ret (v := bv W (cutI W.toNat (R))) (by simp [results, Try.results14, go_sem, *]) rfl ⟨rfl, by repeat (first | with_reducible exact Fr.refl _ | with_reducible apply Fr.drewN | with_reducible apply Fr.drew | with_reducible apply Fr.alloc | (with_reducible refine Fr.set ?_ (by simp; try omega) _) | (with_reducible refine Fr.call ?_ (by assumption)))⟩
end Go.Proofs.Ytglgbhlnfafhjaa
