/- BvecRing's walk at normal bits of one width. -/
import Derived.Test.YtpibkhkhbjeoiaaRingm
namespace Go.Proofs.Ytpibkhkhbjeoiaa
open Go.RowKit

set_option maxRecDepth 100000 in
set_option maxHeartbeats 4000000 in
theorem ring_true (HA : AliveC) (W v u x : Int) (h : Norm W v) (k : Norm W u) (j : Norm W x) (w : World) :
    Calls Try.prog 11 #[bv W v, bv W u, bv W x] w fun e w' => e = .returned (.bool true) ∧ Fr w w' := by
  have HA : Hid AliveC := Lib.hid HA
  have HN := Lib.hid h; have KN := Lib.hid k; have JN := Lib.hid j
  have H := Lib.hid (norm_to h); have v1 := h.lt128; have v0 := h.2.2.1; have hw1 := h.1; have hw2 := h.2.1
  have K := Lib.hid (norm_to k); have u1 := k.lt128; have u0 := k.2.2.1
  have J := Lib.hid (norm_to j); have x1 := j.lt128; have x0 := j.2.2.1
  obtain ⟨f1, f2, f3, f4, f5, f6⟩ := ring_facts W.toNat v u x v0 h.2.2.2
  clear h k j
  obtain ⟨a1, b1⟩ := beq_hi f1; obtain ⟨a2, b2⟩ := beq_hi f2; obtain ⟨a3, b3⟩ := beq_hi f3; obtain ⟨a4, b4⟩ := beq_hi f4; obtain ⟨a5, b5⟩ := beq_hi f5
  obtain ⟨a6, b6⟩ : (hi (cutI W.toNat (v + cutI W.toNat (-v))) == hi (cutI W.toNat 0)) = true ∧ (lo (cutI W.toNat (v + cutI W.toNat (-v))) == lo (cutI W.toNat 0)) = true := by
    rw [f6]; unfold cutI; rw [Int.zero_emod]; exact ⟨rfl, rfl⟩
  clear f1 f2 f3 f4 f5 f6
  have e0 : (W != W) = false := by rw [bne_self_eq_false]
  go_enter Try.func11, Try.ntmps11
  go_wp2_with fail
  refine (HA.out _).mono ?_
  rintro e w1 ⟨rfl, hb1⟩
  have hz1 := hb1.size
  (try simp at hz1)
  have z1_0 : w.heap.size < w1.heap.size := (by omega)
  have c1_0_0 := hb1.get (b := w.heap.size) (o := 0) (v := .int .i64 (W)) (by first | (simp [go_sem]; done) | (simp [go_sem, *]; done))
  have c1_0_1 := hb1.get (b := w.heap.size) (o := 1) (v := .int .u64 (hi (v))) (by first | (simp [go_sem]; done) | (simp [go_sem, *]; done))
  have c1_0_2 := hb1.get (b := w.heap.size) (o := 2) (v := .int .u64 (lo (v))) (by first | (simp [go_sem]; done) | (simp [go_sem, *]; done))
  have z1_1 : w.heap.size + 1 < w1.heap.size := (by omega)
  have c1_1_0 := hb1.get (b := w.heap.size + 1) (o := 0) (v := .int .i64 (W)) (by first | (simp [go_sem]; done) | (simp [go_sem, *]; done))
  have c1_1_1 := hb1.get (b := w.heap.size + 1) (o := 1) (v := .int .u64 (hi (u))) (by first | (simp [go_sem]; done) | (simp [go_sem, *]; done))
  have c1_1_2 := hb1.get (b := w.heap.size + 1) (o := 2) (v := .int .u64 (lo (u))) (by first | (simp [go_sem]; done) | (simp [go_sem, *]; done))
  have z1_2 : w.heap.size + 1 + 1 < w1.heap.size := (by omega)
  have c1_2_0 := hb1.get (b := w.heap.size + 1 + 1) (o := 0) (v := .int .i64 (W)) (by first | (simp [go_sem]; done) | (simp [go_sem, *]; done))
  have c1_2_1 := hb1.get (b := w.heap.size + 1 + 1) (o := 1) (v := .int .u64 (hi (x))) (by first | (simp [go_sem]; done) | (simp [go_sem, *]; done))
  have c1_2_2 := hb1.get (b := w.heap.size + 1 + 1) (o := 2) (v := .int .u64 (lo (x))) (by first | (simp [go_sem]; done) | (simp [go_sem, *]; done))
  clear hz1
  go_wp2_with fail
  refine (normal_any _ _ v0 v1 _).mono ?_
  rintro e w2 ⟨rfl, hb2⟩
  have hz2 := hb2.size
  (try simp at hz2)
  have z2_0 : w.heap.size < w2.heap.size := (by omega)
  have c2_0_0 := hb2.get (b := w.heap.size) (o := 0) (v := .int .i64 (W)) (by first | with_reducible exact c1_0_0 | (simp [go_sem]; done) | (simp [go_sem, *]; done))
  have c2_0_1 := hb2.get (b := w.heap.size) (o := 1) (v := .int .u64 (hi (v))) (by first | with_reducible exact c1_0_1 | (simp [go_sem]; done) | (simp [go_sem, *]; done))
  have c2_0_2 := hb2.get (b := w.heap.size) (o := 2) (v := .int .u64 (lo (v))) (by first | with_reducible exact c1_0_2 | (simp [go_sem]; done) | (simp [go_sem, *]; done))
  have z2_1 : w.heap.size + 1 < w2.heap.size := (by omega)
  have c2_1_0 := hb2.get (b := w.heap.size + 1) (o := 0) (v := .int .i64 (W)) (by first | with_reducible exact c1_1_0 | (simp [go_sem]; done) | (simp [go_sem, *]; done))
  have c2_1_1 := hb2.get (b := w.heap.size + 1) (o := 1) (v := .int .u64 (hi (u))) (by first | with_reducible exact c1_1_1 | (simp [go_sem]; done) | (simp [go_sem, *]; done))
  have c2_1_2 := hb2.get (b := w.heap.size + 1) (o := 2) (v := .int .u64 (lo (u))) (by first | with_reducible exact c1_1_2 | (simp [go_sem]; done) | (simp [go_sem, *]; done))
  have z2_2 : w.heap.size + 1 + 1 < w2.heap.size := (by omega)
  have c2_2_0 := hb2.get (b := w.heap.size + 1 + 1) (o := 0) (v := .int .i64 (W)) (by first | with_reducible exact c1_2_0 | (simp [go_sem]; done) | (simp [go_sem, *]; done))
  have c2_2_1 := hb2.get (b := w.heap.size + 1 + 1) (o := 1) (v := .int .u64 (hi (x))) (by first | with_reducible exact c1_2_1 | (simp [go_sem]; done) | (simp [go_sem, *]; done))
  have c2_2_2 := hb2.get (b := w.heap.size + 1 + 1) (o := 2) (v := .int .u64 (lo (x))) (by first | with_reducible exact c1_2_2 | (simp [go_sem]; done) | (simp [go_sem, *]; done))
  clear hz2
  rw [H.out]
  go_wp2_with fail
  refine (normal_any _ _ u0 u1 _).mono ?_
  rintro e w3 ⟨rfl, hb3⟩
  have hz3 := hb3.size
  (try simp at hz3)
  have z3_0 : w.heap.size < w3.heap.size := (by omega)
  have c3_0_0 := hb3.get (b := w.heap.size) (o := 0) (v := .int .i64 (W)) (by first | with_reducible exact c2_0_0 | (simp [go_sem]; done) | (simp [go_sem, *]; done))
  have c3_0_1 := hb3.get (b := w.heap.size) (o := 1) (v := .int .u64 (hi (v))) (by first | with_reducible exact c2_0_1 | (simp [go_sem]; done) | (simp [go_sem, *]; done))
  have c3_0_2 := hb3.get (b := w.heap.size) (o := 2) (v := .int .u64 (lo (v))) (by first | with_reducible exact c2_0_2 | (simp [go_sem]; done) | (simp [go_sem, *]; done))
  have z3_1 : w.heap.size + 1 < w3.heap.size := (by omega)
  have c3_1_0 := hb3.get (b := w.heap.size + 1) (o := 0) (v := .int .i64 (W)) (by first | with_reducible exact c2_1_0 | (simp [go_sem]; done) | (simp [go_sem, *]; done))
  have c3_1_1 := hb3.get (b := w.heap.size + 1) (o := 1) (v := .int .u64 (hi (u))) (by first | with_reducible exact c2_1_1 | (simp [go_sem]; done) | (simp [go_sem, *]; done))
  have c3_1_2 := hb3.get (b := w.heap.size + 1) (o := 2) (v := .int .u64 (lo (u))) (by first | with_reducible exact c2_1_2 | (simp [go_sem]; done) | (simp [go_sem, *]; done))
  have z3_2 : w.heap.size + 1 + 1 < w3.heap.size := (by omega)
  have c3_2_0 := hb3.get (b := w.heap.size + 1 + 1) (o := 0) (v := .int .i64 (W)) (by first | with_reducible exact c2_2_0 | (simp [go_sem]; done) | (simp [go_sem, *]; done))
  have c3_2_1 := hb3.get (b := w.heap.size + 1 + 1) (o := 1) (v := .int .u64 (hi (x))) (by first | with_reducible exact c2_2_1 | (simp [go_sem]; done) | (simp [go_sem, *]; done))
  have c3_2_2 := hb3.get (b := w.heap.size + 1 + 1) (o := 2) (v := .int .u64 (lo (x))) (by first | with_reducible exact c2_2_2 | (simp [go_sem]; done) | (simp [go_sem, *]; done))
  clear hz3
  rw [K.out]
  go_wp2_with fail
  refine (normal_any _ _ x0 x1 _).mono ?_
  rintro e w4 ⟨rfl, hb4⟩
  have hz4 := hb4.size
  (try simp at hz4)
  have z4_0 : w.heap.size < w4.heap.size := (by omega)
  have c4_0_0 := hb4.get (b := w.heap.size) (o := 0) (v := .int .i64 (W)) (by first | with_reducible exact c3_0_0 | (simp [go_sem]; done) | (simp [go_sem, *]; done))
  have c4_0_1 := hb4.get (b := w.heap.size) (o := 1) (v := .int .u64 (hi (v))) (by first | with_reducible exact c3_0_1 | (simp [go_sem]; done) | (simp [go_sem, *]; done))
  have c4_0_2 := hb4.get (b := w.heap.size) (o := 2) (v := .int .u64 (lo (v))) (by first | with_reducible exact c3_0_2 | (simp [go_sem]; done) | (simp [go_sem, *]; done))
  have z4_1 : w.heap.size + 1 < w4.heap.size := (by omega)
  have c4_1_0 := hb4.get (b := w.heap.size + 1) (o := 0) (v := .int .i64 (W)) (by first | with_reducible exact c3_1_0 | (simp [go_sem]; done) | (simp [go_sem, *]; done))
  have c4_1_1 := hb4.get (b := w.heap.size + 1) (o := 1) (v := .int .u64 (hi (u))) (by first | with_reducible exact c3_1_1 | (simp [go_sem]; done) | (simp [go_sem, *]; done))
  have c4_1_2 := hb4.get (b := w.heap.size + 1) (o := 2) (v := .int .u64 (lo (u))) (by first | with_reducible exact c3_1_2 | (simp [go_sem]; done) | (simp [go_sem, *]; done))
  have z4_2 : w.heap.size + 1 + 1 < w4.heap.size := (by omega)
  have c4_2_0 := hb4.get (b := w.heap.size + 1 + 1) (o := 0) (v := .int .i64 (W)) (by first | with_reducible exact c3_2_0 | (simp [go_sem]; done) | (simp [go_sem, *]; done))
  have c4_2_1 := hb4.get (b := w.heap.size + 1 + 1) (o := 1) (v := .int .u64 (hi (x))) (by first | with_reducible exact c3_2_1 | (simp [go_sem]; done) | (simp [go_sem, *]; done))
  have c4_2_2 := hb4.get (b := w.heap.size + 1 + 1) (o := 2) (v := .int .u64 (lo (x))) (by first | with_reducible exact c3_2_2 | (simp [go_sem]; done) | (simp [go_sem, *]; done))
  clear hz4
  rw [J.out]
  go_wp2_with fail
  have xx0_0 := fun ex : Ext w4 => ex.get (b := w.heap.size) (o := 0) (v := .int .i64 (W)) c4_0_0
  have xx0_1 := fun ex : Ext w4 => ex.get (b := w.heap.size) (o := 1) (v := .int .u64 (hi (v))) c4_0_1
  have xx0_2 := fun ex : Ext w4 => ex.get (b := w.heap.size) (o := 2) (v := .int .u64 (lo (v))) c4_0_2
  have xx1_0 := fun ex : Ext w4 => ex.get (b := w.heap.size + 1) (o := 0) (v := .int .i64 (W)) c4_1_0
  have xx1_1 := fun ex : Ext w4 => ex.get (b := w.heap.size + 1) (o := 1) (v := .int .u64 (hi (u))) c4_1_1
  have xx1_2 := fun ex : Ext w4 => ex.get (b := w.heap.size + 1) (o := 2) (v := .int .u64 (lo (u))) c4_1_2
  have xx2_0 := fun ex : Ext w4 => ex.get (b := w.heap.size + 1 + 1) (o := 0) (v := .int .i64 (W)) c4_2_0
  have xx2_1 := fun ex : Ext w4 => ex.get (b := w.heap.size + 1 + 1) (o := 1) (v := .int .u64 (hi (x))) c4_2_1
  have xx2_2 := fun ex : Ext w4 => ex.get (b := w.heap.size + 1 + 1) (o := 2) (v := .int .u64 (lo (x))) c4_2_2
  refine wp_region_ext (by kernel_rfl) (by kernel_rfl) ?_
  repeat (go_big_quiet_step (first
    | (go_at_call 37; exact ext_of (law_sum _ _ _ (by (first | exact HN.out | exact KN.out | exact JN.out | exact norm_cut hw1 hw2 _)) (by (first | exact HN.out | exact KN.out | exact JN.out | exact norm_cut hw1 hw2 _)) _))
    | (go_at_call 38; exact ext_of (law_mul _ _ _ (by (first | exact HN.out | exact KN.out | exact JN.out | exact norm_cut hw1 hw2 _)) (by (first | exact HN.out | exact KN.out | exact JN.out | exact norm_cut hw1 hw2 _)) _))
    | (go_at_call 14; exact ext_of (bin_sub _ _ _ (by (first | exact HN.out | exact KN.out | exact JN.out | exact norm_cut hw1 hw2 _)) (by (first | exact HN.out | exact KN.out | exact JN.out | exact norm_cut hw1 hw2 _)) _))
    | (go_at_call 16; exact ext_of (un_19 _ _ (by (first | exact HN.out | exact KN.out | exact JN.out | exact norm_cut hw1 hw2 _)) _))
    | (go_at_call 26; exact ext_of (make_ok _ 0 hw1 hw2 _))))
  refine wpQuiet_nil ?_
  intro w5 hw5
  obtain ⟨y5, rfl⟩ := hw5
  have hb5 := y5.fr
  go_wp2
  go_ret
  exact ⟨rfl, by repeat (first | with_reducible exact Fr.refl _ | with_reducible apply Fr.drewN | with_reducible apply Fr.drew | with_reducible apply Fr.alloc | (with_reducible refine Fr.set ?_ (by simp; try omega) _) | (with_reducible refine Fr.call ?_ (by assumption)))⟩
end Go.Proofs.Ytpibkhkhbjeoiaa
