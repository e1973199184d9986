/- BvecExtends's walk: a number in a wider width is the same signed number; joined of its two halves it is itself. -/
import Derived.Test.YtpibkhkhbjeoiaaRingm
import Derived.Test.YtpibkhkhbjeoiaaGa
import Derived.Test.YtpibkhkhbjeoiaaGc
import Derived.Test.YtpibkhkhbjeoiaaGd
import Derived.Test.YtpibkhkhbjeoiaaGh
import Derived.Test.YtpibkhkhbjeoiaaNumc
namespace Go.Proofs.Ytpibkhkhbjeoiaa
open Go.RowKit

/-- The low bits of a wider number. -/
theorem ext_low (W v x : Int) (h : Norm W v) (hx : W ≤ x) (hx2 : x ≤ 128) (w : World) : Calls Try.prog 20 #[bv x (cutI x.toNat (sgnI W v)), .int .i64 (W - 1), .int .i64 0] w fun e w' => e = .returned (bv W v) ∧ Fr w w' := by
  have h1 := h.1
  have hn := norm_cut (by omega : 1 ≤ x) hx2 (sgnI W v)
  have hh := extract_ok x (cutI x.toNat (sgnI W v)) (W - 1) 0 hn (by omega) (by omega) (by omega) w
  have e1 : W - 1 - 0 + 1 = W := by omega
  have e2 : cutI W.toNat (shrI (cutI x.toNat (sgnI W v)) (0 : Int).toNat) = v := by
    rw [shrI_small _ _ hn.2.2.1 hn.lt128]
    have : cutI x.toNat (sgnI W v) / 2 ^ (0 : Int).toNat = cutI x.toNat (sgnI W v) := Int.ediv_one _
    rw [this, cut_cut (by omega), cut_sgn h]
  rw [e1, e2] at hh
  exact hh
theorem zext_back (W v x : Int) (h : Norm W v) (hx : W ≤ x) (hx2 : x ≤ 128) (w : World) : Calls Try.prog 30 #[bv x (cutI x.toNat (sgnI W v)), .int .i64 W] w fun e w' => e = .returned (bv W v) ∧ Fr w w' := by
  have h1 := h.1
  have hh := zext_ok x (cutI x.toNat (sgnI W v)) W (norm_cut (by omega) hx2 _) h1 h.2.1 w
  rw [cut_cut (by omega), cut_sgn h] at hh
  exact hh
theorem half_hi (W v c : Int) (h : Norm W v) (h1 : 1 ≤ c) (h2 : c < W) (w : World) : Calls Try.prog 20 #[bv W v, .int .i64 (W - 1), .int .i64 c] w fun e w' => e = .returned (bv (W - c) (v / 2 ^ c.toNat)) ∧ Fr w w' := by
  have hh := extract_ok W v (W - 1) c h (by omega) (by omega) (by omega) w
  have e1 : W - 1 - c + 1 = W - c := by omega
  have hp := pow_pos' c.toNat
  have e2 : cutI (W - c).toNat (shrI v c.toNat) = v / 2 ^ c.toNat := by
    rw [shrI_small _ _ h.2.2.1 h.lt128]
    refine cutI_small _ _ (Int.ediv_nonneg h.2.2.1 (Int.le_of_lt hp)) (Int.ediv_lt_of_lt_mul hp ?_)
    rw [← Int.pow_add]
    have e : (W - c).toNat + c.toNat = W.toNat := by omega
    rw [e]; exact h.2.2.2
  rw [e1, e2] at hh
  exact hh
theorem half_lo (W v c : Int) (h : Norm W v) (h1 : 1 ≤ c) (h2 : c < W) (w : World) : Calls Try.prog 20 #[bv W v, .int .i64 (c - 1), .int .i64 0] w fun e w' => e = .returned (bv c (v % 2 ^ c.toNat)) ∧ Fr w w' := by
  have hh := extract_ok W v (c - 1) 0 h (by omega) (by omega) (by omega) w
  have e1 : c - 1 - 0 + 1 = c := by omega
  have e2 : cutI c.toNat (shrI v (0 : Int).toNat) = v % 2 ^ c.toNat := by
    rw [shrI_small _ _ h.2.2.1 h.lt128]
    have : v / 2 ^ (0 : Int).toNat = v := Int.ediv_one _
    rw [this]; rfl
  rw [e1, e2] at hh
  exact hh
theorem join_halves (W v c : Int) (h : Norm W v) (h1 : 1 ≤ c) (h2 : c < W) (w : World) : Calls Try.prog 14 #[.int .i64 17, bv (W - c) (v / 2 ^ c.toNat), bv c (v % 2 ^ c.toNat)] w fun e w' => e = .returned (bv W v) ∧ Fr w w' := by
  have hp := pow_pos' c.toNat
  have hW := h.2.1
  have n1 : Norm (W - c) (v / 2 ^ c.toNat) := by
    refine ⟨by omega, by omega, Int.ediv_nonneg h.2.2.1 (Int.le_of_lt hp), Int.ediv_lt_of_lt_mul hp ?_⟩
    rw [← Int.pow_add]
    have e : (W - c).toNat + c.toNat = W.toNat := by omega
    rw [e]; exact h.2.2.2
  have n2 : Norm c (v % 2 ^ c.toNat) := ⟨by omega, by omega, Int.emod_nonneg _ (by omega), Int.emod_lt_of_pos _ hp⟩
  have hd := Int.mul_ediv_add_emod v (2 ^ c.toNat)
  have hm : v / 2 ^ c.toNat * 2 ^ c.toNat ≤ v := Int.ediv_mul_le _ (by omega)
  have hv := h.lt128
  have e2 : cutI (W - c + c).toNat (lorI (v / 2 ^ c.toNat * 2 ^ c.toNat) (v % 2 ^ c.toNat)) = v := by
    rw [cat_eq _ _ _ n1.2.2.1 (by omega) n2.2.2.1 n2.2.2.2 (by omega), Int.mul_comm, hd]
    have e : (W - c + c).toNat = W.toNat := by omega
    rw [e]; exact cutI_small _ _ h.2.2.1 h.2.2.2
  refine bin_17 (W - c) (v / 2 ^ c.toNat) c (v % 2 ^ c.toNat) W v n1 n2 (fun w => ?_) w
  have hc := cat_ok (W - c) (v / 2 ^ c.toNat) c (v % 2 ^ c.toNat) n1 n2 (by omega) w
  rw [e2] at hc
  have e : W - c + c = W := by omega
  rw [e] at hc
  exact hc
set_option maxHeartbeats 4000000 in
theorem extends_bad1 (HA : AliveC) (W v x c : Int) (v0 : 0 ≤ v) (v1 : v < 340282366920938463463374607431768211456) (h : normB W v = false) (w : World) :
    Calls Try.prog 12 #[bv W v, .int .i64 x, .int .i64 c] w fun e w' => e = .returned (.bool true) ∧ Fr w w' := by
  have HA : Hid AliveC := Lib.hid HA
  have H := Lib.hid h; clear h
  go_enter Try.func12, Try.ntmps12
  go_wp2_with fail
  refine (HA.out _).mono ?_
  rintro e w1 ⟨rfl, hb1⟩
  have hz1 := hb1.size
  (try simp at hz1)
  have z1_0 : w.heap.size < w1.heap.size := (by omega)
  have c1_0_0 := hb1.get (b := w.heap.size) (o := 0) (v := .int .i64 (W)) (by first | (simp [go_sem]; done) | (simp [go_sem, *]; done))
  have c1_0_1 := hb1.get (b := w.heap.size) (o := 1) (v := .int .u64 (hi (v))) (by first | (simp [go_sem]; done) | (simp [go_sem, *]; done))
  have c1_0_2 := hb1.get (b := w.heap.size) (o := 2) (v := .int .u64 (lo (v))) (by first | (simp [go_sem]; done) | (simp [go_sem, *]; done))
  clear hz1
  go_wp2_with fail
  refine (normal_any _ _ v0 v1 _).mono ?_
  rintro e w2 ⟨rfl, hb2⟩
  have hz2 := hb2.size
  (try simp at hz2)
  have z2_0 : w.heap.size < w2.heap.size := (by omega)
  have c2_0_0 := hb2.get (b := w.heap.size) (o := 0) (v := .int .i64 (W)) (by first | with_reducible exact c1_0_0 | (simp [go_sem]; done) | (simp [go_sem, *]; done))
  have c2_0_1 := hb2.get (b := w.heap.size) (o := 1) (v := .int .u64 (hi (v))) (by first | with_reducible exact c1_0_1 | (simp [go_sem]; done) | (simp [go_sem, *]; done))
  have c2_0_2 := hb2.get (b := w.heap.size) (o := 2) (v := .int .u64 (lo (v))) (by first | with_reducible exact c1_0_2 | (simp [go_sem]; done) | (simp [go_sem, *]; done))
  clear hz2
  rw [H.out]
  go_wp2
  go_ret
  exact ⟨rfl, by repeat (first | with_reducible exact Fr.refl _ | with_reducible apply Fr.drewN | with_reducible apply Fr.drew | with_reducible apply Fr.alloc | (with_reducible refine Fr.set ?_ (by simp; try omega) _) | (with_reducible refine Fr.call ?_ (by assumption)))⟩
set_option maxHeartbeats 4000000 in
theorem extends_bad2 (HA : AliveC) (W v x c : Int) (v0 : 0 ≤ v) (v1 : v < 340282366920938463463374607431768211456) (h : normB W v = true) (hx : x < W ∨ (W ≤ x ∧ 128 < x)) (w : World) :
    Calls Try.prog 12 #[bv W v, .int .i64 x, .int .i64 c] w fun e w' => e = .returned (.bool true) ∧ Fr w w' := by
  have HA : Hid AliveC := Lib.hid HA
  have H := Lib.hid h; clear h
  rcases hx with hx | ⟨hx, hx2⟩
  all_goals
    go_enter Try.func12, Try.ntmps12
    go_wp2_with fail
    refine (HA.out _).mono ?_
    rintro e w1 ⟨rfl, hb1⟩
    have hz1 := hb1.size
    (try simp at hz1)
    have z1_0 : w.heap.size < w1.heap.size := (by omega)
    have c1_0_0 := hb1.get (b := w.heap.size) (o := 0) (v := .int .i64 (W)) (by first | (simp [go_sem]; done) | (simp [go_sem, *]; done))
    have c1_0_1 := hb1.get (b := w.heap.size) (o := 1) (v := .int .u64 (hi (v))) (by first | (simp [go_sem]; done) | (simp [go_sem, *]; done))
    have c1_0_2 := hb1.get (b := w.heap.size) (o := 2) (v := .int .u64 (lo (v))) (by first | (simp [go_sem]; done) | (simp [go_sem, *]; done))
    clear hz1
    go_wp2_with fail
    refine (normal_any _ _ v0 v1 _).mono ?_
    rintro e w2 ⟨rfl, hb2⟩
    have hz2 := hb2.size
    (try simp at hz2)
    have z2_0 : w.heap.size < w2.heap.size := (by omega)
    have c2_0_0 := hb2.get (b := w.heap.size) (o := 0) (v := .int .i64 (W)) (by first | with_reducible exact c1_0_0 | (simp [go_sem]; done) | (simp [go_sem, *]; done))
    have c2_0_1 := hb2.get (b := w.heap.size) (o := 1) (v := .int .u64 (hi (v))) (by first | with_reducible exact c1_0_1 | (simp [go_sem]; done) | (simp [go_sem, *]; done))
    have c2_0_2 := hb2.get (b := w.heap.size) (o := 2) (v := .int .u64 (lo (v))) (by first | with_reducible exact c1_0_2 | (simp [go_sem]; done) | (simp [go_sem, *]; done))
    clear hz2
    rw [H.out]
    go_wp2
    go_ret
    exact ⟨rfl, by repeat (first | with_reducible exact Fr.refl _ | with_reducible apply Fr.drewN | with_reducible apply Fr.drew | with_reducible apply Fr.alloc | (with_reducible refine Fr.set ?_ (by simp; try omega) _) | (with_reducible refine Fr.call ?_ (by assumption)))⟩
set_option maxRecDepth 100000 in
set_option maxHeartbeats 4000000 in
theorem extends_in_no (HA : AliveC) (W v x c : Int) (h : Norm W v) (hx : W ≤ x) (hx2 : x ≤ 128) (s0 : -9223372036854775808 ≤ sgnI W v) (s1 : sgnI W v ≤ 9223372036854775807) (hc : c < 1 ∨ (1 ≤ c ∧ W ≤ c)) (w : World) :
    Calls Try.prog 12 #[bv W v, .int .i64 x, .int .i64 c] w fun e w' => e = .returned (.bool true) ∧ Fr w w' := by
  have HA : Hid AliveC := Lib.hid HA
  have HN := Lib.hid h
  have HS := Lib.hid (norm_cut (by have := h.1; omega : 1 ≤ x) hx2 (sgnI W v))
  have HT := Lib.hid (sgn_wide h hx)
  have H := Lib.hid (norm_to h); have v1 := h.lt128; have v0 := h.2.2.1; have hw1 := h.1; have hw2 := h.2.1
  have I1 := Lib.hid (fun w => int_ok W v h s0 s1 w)
  have I2 : Hid (∀ w : World, Calls Try.prog 24 #[bv x (cutI x.toNat (sgnI W v))] w fun e w' => e = .returned (.tuple #[.int .i64 (sgnI W v), .bool true]) ∧ Fr w w') := fun w => by
    have hh := int_ok x (cutI x.toNat (sgnI W v)) HS.out (by rw [HT.out]; exact s0) (by rw [HT.out]; exact s1) w
    rw [HT.out] at hh
    exact hh
  clear h s0 s1
  have e0 : (x != x) = false := by rw [bne_self_eq_false]
  have e1 : (sgnI W v != sgnI W v) = false := by rw [bne_self_eq_false]
  rcases hc with c1 | ⟨c1, c2⟩
  all_goals
    go_enter Try.func12, Try.ntmps12
    go_wp2_with fail
    refine (HA.out _).mono ?_
    rintro e w1 ⟨rfl, hb1⟩
    have hz1 := hb1.size
    (try simp at hz1)
    have z1_0 : w.heap.size < w1.heap.size := (by omega)
    have c1_0_0 := hb1.get (b := w.heap.size) (o := 0) (v := .int .i64 (W)) (by first | (simp [go_sem]; done) | (simp [go_sem, *]; done))
    have c1_0_1 := hb1.get (b := w.heap.size) (o := 1) (v := .int .u64 (hi (v))) (by first | (simp [go_sem]; done) | (simp [go_sem, *]; done))
    have c1_0_2 := hb1.get (b := w.heap.size) (o := 2) (v := .int .u64 (lo (v))) (by first | (simp [go_sem]; done) | (simp [go_sem, *]; done))
    clear hz1
    go_wp2_with fail
    refine (normal_any _ _ v0 v1 _).mono ?_
    rintro e w2 ⟨rfl, hb2⟩
    have hz2 := hb2.size
    (try simp at hz2)
    have z2_0 : w.heap.size < w2.heap.size := (by omega)
    have c2_0_0 := hb2.get (b := w.heap.size) (o := 0) (v := .int .i64 (W)) (by first | with_reducible exact c1_0_0 | (simp [go_sem]; done) | (simp [go_sem, *]; done))
    have c2_0_1 := hb2.get (b := w.heap.size) (o := 1) (v := .int .u64 (hi (v))) (by first | with_reducible exact c1_0_1 | (simp [go_sem]; done) | (simp [go_sem, *]; done))
    have c2_0_2 := hb2.get (b := w.heap.size) (o := 2) (v := .int .u64 (lo (v))) (by first | with_reducible exact c1_0_2 | (simp [go_sem]; done) | (simp [go_sem, *]; done))
    clear hz2
    rw [H.out]
    go_wp2_with fail
    refine (sext_ok _ _ _ HN.out (by omega) (by omega) _).mono ?_
    rintro e w3 ⟨rfl, hb3⟩
    have hz3 := hb3.size
    (try simp at hz3)
    have z3_0 : w.heap.size < w3.heap.size := (by omega)
    have c3_0_0 := hb3.get (b := w.heap.size) (o := 0) (v := .int .i64 (W)) (by first | with_reducible exact c2_0_0 | (simp [go_sem]; done) | (simp [go_sem, *]; done))
    have c3_0_1 := hb3.get (b := w.heap.size) (o := 1) (v := .int .u64 (hi (v))) (by first | with_reducible exact c2_0_1 | (simp [go_sem]; done) | (simp [go_sem, *]; done))
    have c3_0_2 := hb3.get (b := w.heap.size) (o := 2) (v := .int .u64 (lo (v))) (by first | with_reducible exact c2_0_2 | (simp [go_sem]; done) | (simp [go_sem, *]; done))
    clear hz3
    go_wp2_with fail
    refine (I1.out _).mono ?_
    rintro e w4 ⟨rfl, hb4⟩
    have hz4 := hb4.size
    (try simp at hz4)
    have z4_0 : w.heap.size < w4.heap.size := (by omega)
    have c4_0_0 := hb4.get (b := w.heap.size) (o := 0) (v := .int .i64 (W)) (by first | with_reducible exact c3_0_0 | (simp [go_sem]; done) | (simp [go_sem, *]; done))
    have c4_0_1 := hb4.get (b := w.heap.size) (o := 1) (v := .int .u64 (hi (v))) (by first | with_reducible exact c3_0_1 | (simp [go_sem]; done) | (simp [go_sem, *]; done))
    have c4_0_2 := hb4.get (b := w.heap.size) (o := 2) (v := .int .u64 (lo (v))) (by first | with_reducible exact c3_0_2 | (simp [go_sem]; done) | (simp [go_sem, *]; done))
    have z4_1 : w3.heap.size < w4.heap.size := (by omega)
    have c4_1_0 := hb4.get (b := w3.heap.size) (o := 0) (v := .int .i64 (x)) (by first | with_reducible exact c3_1_0 | (simp [go_sem]; done) | (simp [go_sem, *]; done))
    have c4_1_1 := hb4.get (b := w3.heap.size) (o := 1) (v := .int .u64 (hi (cutI x.toNat (sgnI W v)))) (by first | with_reducible exact c3_1_1 | (simp [go_sem]; done) | (simp [go_sem, *]; done))
    have c4_1_2 := hb4.get (b := w3.heap.size) (o := 2) (v := .int .u64 (lo (cutI x.toNat (sgnI W v)))) (by first | with_reducible exact c3_1_2 | (simp [go_sem]; done) | (simp [go_sem, *]; done))
    clear hz4
    go_wp2_with fail
    refine (I2.out _).mono ?_
    rintro e w5 ⟨rfl, hb5⟩
    have hz5 := hb5.size
    (try simp at hz5)
    have z5_0 : w.heap.size < w5.heap.size := (by omega)
    have c5_0_0 := hb5.get (b := w.heap.size) (o := 0) (v := .int .i64 (W)) (by first | with_reducible exact c4_0_0 | (simp [go_sem]; done) | (simp [go_sem, *]; done))
    have c5_0_1 := hb5.get (b := w.heap.size) (o := 1) (v := .int .u64 (hi (v))) (by first | with_reducible exact c4_0_1 | (simp [go_sem]; done) | (simp [go_sem, *]; done))
    have c5_0_2 := hb5.get (b := w.heap.size) (o := 2) (v := .int .u64 (lo (v))) (by first | with_reducible exact c4_0_2 | (simp [go_sem]; done) | (simp [go_sem, *]; done))
    have z5_1 : w3.heap.size < w5.heap.size := (by omega)
    have c5_1_0 := hb5.get (b := w3.heap.size) (o := 0) (v := .int .i64 (x)) (by first | with_reducible exact c4_1_0 | (simp [go_sem]; done) | (simp [go_sem, *]; done))
    have c5_1_1 := hb5.get (b := w3.heap.size) (o := 1) (v := .int .u64 (hi (cutI x.toNat (sgnI W v)))) (by first | with_reducible exact c4_1_1 | (simp [go_sem]; done) | (simp [go_sem, *]; done))
    have c5_1_2 := hb5.get (b := w3.heap.size) (o := 2) (v := .int .u64 (lo (cutI x.toNat (sgnI W v)))) (by first | with_reducible exact c4_1_2 | (simp [go_sem]; done) | (simp [go_sem, *]; done))
    clear hz5
    go_wp2_with fail
    have xx5_0_0 := fun ex : Ext w5 => ex.get (b := w.heap.size) (o := 0) (v := .int .i64 (W)) c5_0_0
    have xx5_0_1 := fun ex : Ext w5 => ex.get (b := w.heap.size) (o := 1) (v := .int .u64 (hi (v))) c5_0_1
    have xx5_0_2 := fun ex : Ext w5 => ex.get (b := w.heap.size) (o := 2) (v := .int .u64 (lo (v))) c5_0_2
    have xx5_1_0 := fun ex : Ext w5 => ex.get (b := w3.heap.size) (o := 0) (v := .int .i64 (x)) c5_1_0
    have xx5_1_1 := fun ex : Ext w5 => ex.get (b := w3.heap.size) (o := 1) (v := .int .u64 (hi (cutI x.toNat (sgnI W v)))) c5_1_1
    have xx5_1_2 := fun ex : Ext w5 => ex.get (b := w3.heap.size) (o := 2) (v := .int .u64 (lo (cutI x.toNat (sgnI W v)))) c5_1_2
    refine wp_region_ext (by kernel_rfl) (by kernel_rfl) ?_
    repeat (go_big_quiet_step (first
      | (go_at_call 20; exact ext_of (ext_low _ _ _ HN.out hx hx2 _))
      | (go_at_call 30; exact ext_of (zext_back _ _ _ HN.out hx hx2 _))))
    refine wpQuiet_nil ?_
    intro w6 hw6
    obtain ⟨y6, hy6⟩ := hw6
    have hb6 : Fr w5 w6 := by rw [hy6]; exact y6.fr
    clear hy6 y6
    have hz6 := hb6.size
    (try simp at hz6)
    have z6_0 : w.heap.size < w6.heap.size := (by omega)
    have c6_0_0 := hb6.get (b := w.heap.size) (o := 0) (v := .int .i64 (W)) (by first | with_reducible exact c5_0_0 | (simp [go_sem]; done) | (simp [go_sem, *]; done))
    have c6_0_1 := hb6.get (b := w.heap.size) (o := 1) (v := .int .u64 (hi (v))) (by first | with_reducible exact c5_0_1 | (simp [go_sem]; done) | (simp [go_sem, *]; done))
    have c6_0_2 := hb6.get (b := w.heap.size) (o := 2) (v := .int .u64 (lo (v))) (by first | with_reducible exact c5_0_2 | (simp [go_sem]; done) | (simp [go_sem, *]; done))
    have z6_1 : w3.heap.size < w6.heap.size := (by omega)
    have c6_1_0 := hb6.get (b := w3.heap.size) (o := 0) (v := .int .i64 (x)) (by first | with_reducible exact c5_1_0 | (simp [go_sem]; done) | (simp [go_sem, *]; done))
    have c6_1_1 := hb6.get (b := w3.heap.size) (o := 1) (v := .int .u64 (hi (cutI x.toNat (sgnI W v)))) (by first | with_reducible exact c5_1_1 | (simp [go_sem]; done) | (simp [go_sem, *]; done))
    have c6_1_2 := hb6.get (b := w3.heap.size) (o := 2) (v := .int .u64 (lo (cutI x.toNat (sgnI W v)))) (by first | with_reducible exact c5_1_2 | (simp [go_sem]; done) | (simp [go_sem, *]; done))
    clear hz6
    go_wp2
    go_ret
    exact ⟨rfl, by repeat (first | with_reducible exact Fr.refl _ | with_reducible apply Fr.drewN | with_reducible apply Fr.drew | with_reducible apply Fr.alloc | (with_reducible refine Fr.set ?_ (by simp; try omega) _) | (with_reducible refine Fr.call ?_ (by assumption)))⟩
set_option maxRecDepth 100000 in
set_option maxHeartbeats 4000000 in
theorem extends_in_yes (HA : AliveC) (W v x c : Int) (h : Norm W v) (hx : W ≤ x) (hx2 : x ≤ 128) (s0 : -9223372036854775808 ≤ sgnI W v) (s1 : sgnI W v ≤ 9223372036854775807) (c1 : 1 ≤ c) (c2 : c < W) (w : World) :
    Calls Try.prog 12 #[bv W v, .int .i64 x, .int .i64 c] w fun e w' => e = .returned (.bool true) ∧ Fr w w' := by
  have HA : Hid AliveC := Lib.hid HA
  have HN := Lib.hid h
  have HS := Lib.hid (norm_cut (by have := h.1; omega : 1 ≤ x) hx2 (sgnI W v))
  have HT := Lib.hid (sgn_wide h hx)
  have H := Lib.hid (norm_to h); have v1 := h.lt128; have v0 := h.2.2.1; have hw1 := h.1; have hw2 := h.2.1
  have I1 := Lib.hid (fun w => int_ok W v h s0 s1 w)
  have I2 : Hid (∀ w : World, Calls Try.prog 24 #[bv x (cutI x.toNat (sgnI W v))] w fun e w' => e = .returned (.tuple #[.int .i64 (sgnI W v), .bool true]) ∧ Fr w w') := fun w => by
    have hh := int_ok x (cutI x.toNat (sgnI W v)) HS.out (by rw [HT.out]; exact s0) (by rw [HT.out]; exact s1) w
    rw [HT.out] at hh
    exact hh
  clear h s0 s1
  have e0 : (x != x) = false := by rw [bne_self_eq_false]
  have e1 : (sgnI W v != sgnI W v) = false := by rw [bne_self_eq_false]
  go_enter Try.func12, Try.ntmps12
  go_wp2_with fail
  refine (HA.out _).mono ?_
  rintro e w1 ⟨rfl, hb1⟩
  have hz1 := hb1.size
  (try simp at hz1)
  have z1_0 : w.heap.size < w1.heap.size := (by omega)
  have c1_0_0 := hb1.get (b := w.heap.size) (o := 0) (v := .int .i64 (W)) (by first | (simp [go_sem]; done) | (simp [go_sem, *]; done))
  have c1_0_1 := hb1.get (b := w.heap.size) (o := 1) (v := .int .u64 (hi (v))) (by first | (simp [go_sem]; done) | (simp [go_sem, *]; done))
  have c1_0_2 := hb1.get (b := w.heap.size) (o := 2) (v := .int .u64 (lo (v))) (by first | (simp [go_sem]; done) | (simp [go_sem, *]; done))
  clear hz1
  go_wp2_with fail
  refine (normal_any _ _ v0 v1 _).mono ?_
  rintro e w2 ⟨rfl, hb2⟩
  have hz2 := hb2.size
  (try simp at hz2)
  have z2_0 : w.heap.size < w2.heap.size := (by omega)
  have c2_0_0 := hb2.get (b := w.heap.size) (o := 0) (v := .int .i64 (W)) (by first | with_reducible exact c1_0_0 | (simp [go_sem]; done) | (simp [go_sem, *]; done))
  have c2_0_1 := hb2.get (b := w.heap.size) (o := 1) (v := .int .u64 (hi (v))) (by first | with_reducible exact c1_0_1 | (simp [go_sem]; done) | (simp [go_sem, *]; done))
  have c2_0_2 := hb2.get (b := w.heap.size) (o := 2) (v := .int .u64 (lo (v))) (by first | with_reducible exact c1_0_2 | (simp [go_sem]; done) | (simp [go_sem, *]; done))
  clear hz2
  rw [H.out]
  go_wp2_with fail
  refine (sext_ok _ _ _ HN.out (by omega) (by omega) _).mono ?_
  rintro e w3 ⟨rfl, hb3⟩
  have hz3 := hb3.size
  (try simp at hz3)
  have z3_0 : w.heap.size < w3.heap.size := (by omega)
  have c3_0_0 := hb3.get (b := w.heap.size) (o := 0) (v := .int .i64 (W)) (by first | with_reducible exact c2_0_0 | (simp [go_sem]; done) | (simp [go_sem, *]; done))
  have c3_0_1 := hb3.get (b := w.heap.size) (o := 1) (v := .int .u64 (hi (v))) (by first | with_reducible exact c2_0_1 | (simp [go_sem]; done) | (simp [go_sem, *]; done))
  have c3_0_2 := hb3.get (b := w.heap.size) (o := 2) (v := .int .u64 (lo (v))) (by first | with_reducible exact c2_0_2 | (simp [go_sem]; done) | (simp [go_sem, *]; done))
  clear hz3
  go_wp2_with fail
  refine (I1.out _).mono ?_
  rintro e w4 ⟨rfl, hb4⟩
  have hz4 := hb4.size
  (try simp at hz4)
  have z4_0 : w.heap.size < w4.heap.size := (by omega)
  have c4_0_0 := hb4.get (b := w.heap.size) (o := 0) (v := .int .i64 (W)) (by first | with_reducible exact c3_0_0 | (simp [go_sem]; done) | (simp [go_sem, *]; done))
  have c4_0_1 := hb4.get (b := w.heap.size) (o := 1) (v := .int .u64 (hi (v))) (by first | with_reducible exact c3_0_1 | (simp [go_sem]; done) | (simp [go_sem, *]; done))
  have c4_0_2 := hb4.get (b := w.heap.size) (o := 2) (v := .int .u64 (lo (v))) (by first | with_reducible exact c3_0_2 | (simp [go_sem]; done) | (simp [go_sem, *]; done))
  have z4_1 : w3.heap.size < w4.heap.size := (by omega)
  have c4_1_0 := hb4.get (b := w3.heap.size) (o := 0) (v := .int .i64 (x)) (by first | with_reducible exact c3_1_0 | (simp [go_sem]; done) | (simp [go_sem, *]; done))
  have c4_1_1 := hb4.get (b := w3.heap.size) (o := 1) (v := .int .u64 (hi (cutI x.toNat (sgnI W v)))) (by first | with_reducible exact c3_1_1 | (simp [go_sem]; done) | (simp [go_sem, *]; done))
  have c4_1_2 := hb4.get (b := w3.heap.size) (o := 2) (v := .int .u64 (lo (cutI x.toNat (sgnI W v)))) (by first | with_reducible exact c3_1_2 | (simp [go_sem]; done) | (simp [go_sem, *]; done))
  clear hz4
  go_wp2_with fail
  refine (I2.out _).mono ?_
  rintro e w5 ⟨rfl, hb5⟩
  have hz5 := hb5.size
  (try simp at hz5)
  have z5_0 : w.heap.size < w5.heap.size := (by omega)
  have c5_0_0 := hb5.get (b := w.heap.size) (o := 0) (v := .int .i64 (W)) (by first | with_reducible exact c4_0_0 | (simp [go_sem]; done) | (simp [go_sem, *]; done))
  have c5_0_1 := hb5.get (b := w.heap.size) (o := 1) (v := .int .u64 (hi (v))) (by first | with_reducible exact c4_0_1 | (simp [go_sem]; done) | (simp [go_sem, *]; done))
  have c5_0_2 := hb5.get (b := w.heap.size) (o := 2) (v := .int .u64 (lo (v))) (by first | with_reducible exact c4_0_2 | (simp [go_sem]; done) | (simp [go_sem, *]; done))
  have z5_1 : w3.heap.size < w5.heap.size := (by omega)
  have c5_1_0 := hb5.get (b := w3.heap.size) (o := 0) (v := .int .i64 (x)) (by first | with_reducible exact c4_1_0 | (simp [go_sem]; done) | (simp [go_sem, *]; done))
  have c5_1_1 := hb5.get (b := w3.heap.size) (o := 1) (v := .int .u64 (hi (cutI x.toNat (sgnI W v)))) (by first | with_reducible exact c4_1_1 | (simp [go_sem]; done) | (simp [go_sem, *]; done))
  have c5_1_2 := hb5.get (b := w3.heap.size) (o := 2) (v := .int .u64 (lo (cutI x.toNat (sgnI W v)))) (by first | with_reducible exact c4_1_2 | (simp [go_sem]; done) | (simp [go_sem, *]; done))
  clear hz5
  go_wp2_with fail
  have xx5_0_0 := fun ex : Ext w5 => ex.get (b := w.heap.size) (o := 0) (v := .int .i64 (W)) c5_0_0
  have xx5_0_1 := fun ex : Ext w5 => ex.get (b := w.heap.size) (o := 1) (v := .int .u64 (hi (v))) c5_0_1
  have xx5_0_2 := fun ex : Ext w5 => ex.get (b := w.heap.size) (o := 2) (v := .int .u64 (lo (v))) c5_0_2
  have xx5_1_0 := fun ex : Ext w5 => ex.get (b := w3.heap.size) (o := 0) (v := .int .i64 (x)) c5_1_0
  have xx5_1_1 := fun ex : Ext w5 => ex.get (b := w3.heap.size) (o := 1) (v := .int .u64 (hi (cutI x.toNat (sgnI W v)))) c5_1_1
  have xx5_1_2 := fun ex : Ext w5 => ex.get (b := w3.heap.size) (o := 2) (v := .int .u64 (lo (cutI x.toNat (sgnI W v)))) c5_1_2
  refine wp_region_ext (by kernel_rfl) (by kernel_rfl) ?_
  repeat (go_big_quiet_step (first
    | (go_at_call 20; exact ext_of (ext_low _ _ _ HN.out hx hx2 _))
    | (go_at_call 30; exact ext_of (zext_back _ _ _ HN.out hx hx2 _))))
  refine wpQuiet_nil ?_
  intro w6 hw6
  obtain ⟨y6, hy6⟩ := hw6
  have hb6 : Fr w5 w6 := by rw [hy6]; exact y6.fr
  clear hy6 y6
  have hz6 := hb6.size
  (try simp at hz6)
  have z6_0 : w.heap.size < w6.heap.size := (by omega)
  have c6_0_0 := hb6.get (b := w.heap.size) (o := 0) (v := .int .i64 (W)) (by first | with_reducible exact c5_0_0 | (simp [go_sem]; done) | (simp [go_sem, *]; done))
  have c6_0_1 := hb6.get (b := w.heap.size) (o := 1) (v := .int .u64 (hi (v))) (by first | with_reducible exact c5_0_1 | (simp [go_sem]; done) | (simp [go_sem, *]; done))
  have c6_0_2 := hb6.get (b := w.heap.size) (o := 2) (v := .int .u64 (lo (v))) (by first | with_reducible exact c5_0_2 | (simp [go_sem]; done) | (simp [go_sem, *]; done))
  have z6_1 : w3.heap.size < w6.heap.size := (by omega)
  have c6_1_0 := hb6.get (b := w3.heap.size) (o := 0) (v := .int .i64 (x)) (by first | with_reducible exact c5_1_0 | (simp [go_sem]; done) | (simp [go_sem, *]; done))
  have c6_1_1 := hb6.get (b := w3.heap.size) (o := 1) (v := .int .u64 (hi (cutI x.toNat (sgnI W v)))) (by first | with_reducible exact c5_1_1 | (simp [go_sem]; done) | (simp [go_sem, *]; done))
  have c6_1_2 := hb6.get (b := w3.heap.size) (o := 2) (v := .int .u64 (lo (cutI x.toNat (sgnI W v)))) (by first | with_reducible exact c5_1_2 | (simp [go_sem]; done) | (simp [go_sem, *]; done))
  clear hz6
  go_wp2_with fail
  have xx6_0_0 := fun ex : Ext w6 => ex.get (b := w.heap.size) (o := 0) (v := .int .i64 (W)) c6_0_0
  have xx6_0_1 := fun ex : Ext w6 => ex.get (b := w.heap.size) (o := 1) (v := .int .u64 (hi (v))) c6_0_1
  have xx6_0_2 := fun ex : Ext w6 => ex.get (b := w.heap.size) (o := 2) (v := .int .u64 (lo (v))) c6_0_2
  have xx6_1_0 := fun ex : Ext w6 => ex.get (b := w3.heap.size) (o := 0) (v := .int .i64 (x)) c6_1_0
  have xx6_1_1 := fun ex : Ext w6 => ex.get (b := w3.heap.size) (o := 1) (v := .int .u64 (hi (cutI x.toNat (sgnI W v)))) c6_1_1
  have xx6_1_2 := fun ex : Ext w6 => ex.get (b := w3.heap.size) (o := 2) (v := .int .u64 (lo (cutI x.toNat (sgnI W v)))) c6_1_2
  refine wp_region_ext (by kernel_rfl) (by kernel_rfl) ?_
  repeat (go_big_quiet_step (first
    | (go_at_call_of 20 (Value.int IntKind.i64 c); exact ext_of (half_hi _ _ _ HN.out c1 c2 _))
    | (go_at_call 20; exact ext_of (half_lo _ _ _ HN.out c1 c2 _))
    | (go_at_call 14; exact ext_of (join_halves _ _ _ HN.out c1 c2 _))))
  refine wpQuiet_nil ?_
  intro w7 hw7
  obtain ⟨y7, hy7⟩ := hw7
  have hb7 : Fr w6 w7 := by rw [hy7]; exact y7.fr
  clear hy7 y7
  go_wp2
  go_ret
  exact ⟨rfl, by repeat (first | with_reducible exact Fr.refl _ | with_reducible apply Fr.drewN | with_reducible apply Fr.drew | with_reducible apply Fr.alloc | (with_reducible refine Fr.set ?_ (by simp; try omega) _) | (with_reducible refine Fr.call ?_ (by assumption)))⟩
set_option maxRecDepth 100000 in
set_option maxHeartbeats 4000000 in
theorem extends_out_no (HA : AliveC) (W v x c : Int) (h : Norm W v) (hx : W ≤ x) (hx2 : x ≤ 128) (s0 : sgnI W v < -9223372036854775808 ∨ 9223372036854775807 < sgnI W v) (hc : c < 1 ∨ (1 ≤ c ∧ W ≤ c)) (w : World) :
    Calls Try.prog 12 #[bv W v, .int .i64 x, .int .i64 c] w fun e w' => e = .returned (.bool true) ∧ Fr w w' := by
  have HA : Hid AliveC := Lib.hid HA
  have HN := Lib.hid h
  have HS := Lib.hid (norm_cut (by have := h.1; omega : 1 ≤ x) hx2 (sgnI W v))
  have HT := Lib.hid (sgn_wide h hx)
  have H := Lib.hid (norm_to h); have v1 := h.lt128; have v0 := h.2.2.1; have hw1 := h.1; have hw2 := h.2.1
  have I1 := Lib.hid (fun w => int_out W v h s0 w)
  have I2 : Hid (∀ w : World, Calls Try.prog 24 #[bv x (cutI x.toNat (sgnI W v))] w fun e w' => e = .returned (.tuple #[.int .i64 0, .bool false]) ∧ Fr w w') := fun w => int_out x (cutI x.toNat (sgnI W v)) HS.out (by rw [HT.out]; exact s0) w
  clear h s0
  have e0 : (x != x) = false := by rw [bne_self_eq_false]
  have e1 : (sgnI W v != sgnI W v) = false := by rw [bne_self_eq_false]
  rcases hc with c1 | ⟨c1, c2⟩
  all_goals
    go_enter Try.func12, Try.ntmps12
    go_wp2_with fail
    refine (HA.out _).mono ?_
    rintro e w1 ⟨rfl, hb1⟩
    have hz1 := hb1.size
    (try simp at hz1)
    have z1_0 : w.heap.size < w1.heap.size := (by omega)
    have c1_0_0 := hb1.get (b := w.heap.size) (o := 0) (v := .int .i64 (W)) (by first | (simp [go_sem]; done) | (simp [go_sem, *]; done))
    have c1_0_1 := hb1.get (b := w.heap.size) (o := 1) (v := .int .u64 (hi (v))) (by first | (simp [go_sem]; done) | (simp [go_sem, *]; done))
    have c1_0_2 := hb1.get (b := w.heap.size) (o := 2) (v := .int .u64 (lo (v))) (by first | (simp [go_sem]; done) | (simp [go_sem, *]; done))
    clear hz1
    go_wp2_with fail
    refine (normal_any _ _ v0 v1 _).mono ?_
    rintro e w2 ⟨rfl, hb2⟩
    have hz2 := hb2.size
    (try simp at hz2)
    have z2_0 : w.heap.size < w2.heap.size := (by omega)
    have c2_0_0 := hb2.get (b := w.heap.size) (o := 0) (v := .int .i64 (W)) (by first | with_reducible exact c1_0_0 | (simp [go_sem]; done) | (simp [go_sem, *]; done))
    have c2_0_1 := hb2.get (b := w.heap.size) (o := 1) (v := .int .u64 (hi (v))) (by first | with_reducible exact c1_0_1 | (simp [go_sem]; done) | (simp [go_sem, *]; done))
    have c2_0_2 := hb2.get (b := w.heap.size) (o := 2) (v := .int .u64 (lo (v))) (by first | with_reducible exact c1_0_2 | (simp [go_sem]; done) | (simp [go_sem, *]; done))
    clear hz2
    rw [H.out]
    go_wp2_with fail
    refine (sext_ok _ _ _ HN.out (by omega) (by omega) _).mono ?_
    rintro e w3 ⟨rfl, hb3⟩
    have hz3 := hb3.size
    (try simp at hz3)
    have z3_0 : w.heap.size < w3.heap.size := (by omega)
    have c3_0_0 := hb3.get (b := w.heap.size) (o := 0) (v := .int .i64 (W)) (by first | with_reducible exact c2_0_0 | (simp [go_sem]; done) | (simp [go_sem, *]; done))
    have c3_0_1 := hb3.get (b := w.heap.size) (o := 1) (v := .int .u64 (hi (v))) (by first | with_reducible exact c2_0_1 | (simp [go_sem]; done) | (simp [go_sem, *]; done))
    have c3_0_2 := hb3.get (b := w.heap.size) (o := 2) (v := .int .u64 (lo (v))) (by first | with_reducible exact c2_0_2 | (simp [go_sem]; done) | (simp [go_sem, *]; done))
    clear hz3
    go_wp2_with fail
    refine (I1.out _).mono ?_
    rintro e w4 ⟨rfl, hb4⟩
    have hz4 := hb4.size
    (try simp at hz4)
    have z4_0 : w.heap.size < w4.heap.size := (by omega)
    have c4_0_0 := hb4.get (b := w.heap.size) (o := 0) (v := .int .i64 (W)) (by first | with_reducible exact c3_0_0 | (simp [go_sem]; done) | (simp [go_sem, *]; done))
    have c4_0_1 := hb4.get (b := w.heap.size) (o := 1) (v := .int .u64 (hi (v))) (by first | with_reducible exact c3_0_1 | (simp [go_sem]; done) | (simp [go_sem, *]; done))
    have c4_0_2 := hb4.get (b := w.heap.size) (o := 2) (v := .int .u64 (lo (v))) (by first | with_reducible exact c3_0_2 | (simp [go_sem]; done) | (simp [go_sem, *]; done))
    have z4_1 : w3.heap.size < w4.heap.size := (by omega)
    have c4_1_0 := hb4.get (b := w3.heap.size) (o := 0) (v := .int .i64 (x)) (by first | with_reducible exact c3_1_0 | (simp [go_sem]; done) | (simp [go_sem, *]; done))
    have c4_1_1 := hb4.get (b := w3.heap.size) (o := 1) (v := .int .u64 (hi (cutI x.toNat (sgnI W v)))) (by first | with_reducible exact c3_1_1 | (simp [go_sem]; done) | (simp [go_sem, *]; done))
    have c4_1_2 := hb4.get (b := w3.heap.size) (o := 2) (v := .int .u64 (lo (cutI x.toNat (sgnI W v)))) (by first | with_reducible exact c3_1_2 | (simp [go_sem]; done) | (simp [go_sem, *]; done))
    clear hz4
    go_wp2_with fail
    refine (I2.out _).mono ?_
    rintro e w5 ⟨rfl, hb5⟩
    have hz5 := hb5.size
    (try simp at hz5)
    have z5_0 : w.heap.size < w5.heap.size := (by omega)
    have c5_0_0 := hb5.get (b := w.heap.size) (o := 0) (v := .int .i64 (W)) (by first | with_reducible exact c4_0_0 | (simp [go_sem]; done) | (simp [go_sem, *]; done))
    have c5_0_1 := hb5.get (b := w.heap.size) (o := 1) (v := .int .u64 (hi (v))) (by first | with_reducible exact c4_0_1 | (simp [go_sem]; done) | (simp [go_sem, *]; done))
    have c5_0_2 := hb5.get (b := w.heap.size) (o := 2) (v := .int .u64 (lo (v))) (by first | with_reducible exact c4_0_2 | (simp [go_sem]; done) | (simp [go_sem, *]; done))
    have z5_1 : w3.heap.size < w5.heap.size := (by omega)
    have c5_1_0 := hb5.get (b := w3.heap.size) (o := 0) (v := .int .i64 (x)) (by first | with_reducible exact c4_1_0 | (simp [go_sem]; done) | (simp [go_sem, *]; done))
    have c5_1_1 := hb5.get (b := w3.heap.size) (o := 1) (v := .int .u64 (hi (cutI x.toNat (sgnI W v)))) (by first | with_reducible exact c4_1_1 | (simp [go_sem]; done) | (simp [go_sem, *]; done))
    have c5_1_2 := hb5.get (b := w3.heap.size) (o := 2) (v := .int .u64 (lo (cutI x.toNat (sgnI W v)))) (by first | with_reducible exact c4_1_2 | (simp [go_sem]; done) | (simp [go_sem, *]; done))
    clear hz5
    go_wp2_with fail
    have xx5_0_0 := fun ex : Ext w5 => ex.get (b := w.heap.size) (o := 0) (v := .int .i64 (W)) c5_0_0
    have xx5_0_1 := fun ex : Ext w5 => ex.get (b := w.heap.size) (o := 1) (v := .int .u64 (hi (v))) c5_0_1
    have xx5_0_2 := fun ex : Ext w5 => ex.get (b := w.heap.size) (o := 2) (v := .int .u64 (lo (v))) c5_0_2
    have xx5_1_0 := fun ex : Ext w5 => ex.get (b := w3.heap.size) (o := 0) (v := .int .i64 (x)) c5_1_0
    have xx5_1_1 := fun ex : Ext w5 => ex.get (b := w3.heap.size) (o := 1) (v := .int .u64 (hi (cutI x.toNat (sgnI W v)))) c5_1_1
    have xx5_1_2 := fun ex : Ext w5 => ex.get (b := w3.heap.size) (o := 2) (v := .int .u64 (lo (cutI x.toNat (sgnI W v)))) c5_1_2
    refine wp_region_ext (by kernel_rfl) (by kernel_rfl) ?_
    repeat (go_big_quiet_step (first
      | (go_at_call 20; exact ext_of (ext_low _ _ _ HN.out hx hx2 _))
      | (go_at_call 30; exact ext_of (zext_back _ _ _ HN.out hx hx2 _))))
    refine wpQuiet_nil ?_
    intro w6 hw6
    obtain ⟨y6, hy6⟩ := hw6
    have hb6 : Fr w5 w6 := by rw [hy6]; exact y6.fr
    clear hy6 y6
    have hz6 := hb6.size
    (try simp at hz6)
    have z6_0 : w.heap.size < w6.heap.size := (by omega)
    have c6_0_0 := hb6.get (b := w.heap.size) (o := 0) (v := .int .i64 (W)) (by first | with_reducible exact c5_0_0 | (simp [go_sem]; done) | (simp [go_sem, *]; done))
    have c6_0_1 := hb6.get (b := w.heap.size) (o := 1) (v := .int .u64 (hi (v))) (by first | with_reducible exact c5_0_1 | (simp [go_sem]; done) | (simp [go_sem, *]; done))
    have c6_0_2 := hb6.get (b := w.heap.size) (o := 2) (v := .int .u64 (lo (v))) (by first | with_reducible exact c5_0_2 | (simp [go_sem]; done) | (simp [go_sem, *]; done))
    have z6_1 : w3.heap.size < w6.heap.size := (by omega)
    have c6_1_0 := hb6.get (b := w3.heap.size) (o := 0) (v := .int .i64 (x)) (by first | with_reducible exact c5_1_0 | (simp [go_sem]; done) | (simp [go_sem, *]; done))
    have c6_1_1 := hb6.get (b := w3.heap.size) (o := 1) (v := .int .u64 (hi (cutI x.toNat (sgnI W v)))) (by first | with_reducible exact c5_1_1 | (simp [go_sem]; done) | (simp [go_sem, *]; done))
    have c6_1_2 := hb6.get (b := w3.heap.size) (o := 2) (v := .int .u64 (lo (cutI x.toNat (sgnI W v)))) (by first | with_reducible exact c5_1_2 | (simp [go_sem]; done) | (simp [go_sem, *]; done))
    clear hz6
    go_wp2
    go_ret
    exact ⟨rfl, by repeat (first | with_reducible exact Fr.refl _ | with_reducible apply Fr.drewN | with_reducible apply Fr.drew | with_reducible apply Fr.alloc | (with_reducible refine Fr.set ?_ (by simp; try omega) _) | (with_reducible refine Fr.call ?_ (by assumption)))⟩
set_option maxRecDepth 100000 in
set_option maxHeartbeats 4000000 in
theorem extends_out_yes (HA : AliveC) (W v x c : Int) (h : Norm W v) (hx : W ≤ x) (hx2 : x ≤ 128) (s0 : sgnI W v < -9223372036854775808 ∨ 9223372036854775807 < sgnI W v) (c1 : 1 ≤ c) (c2 : c < W) (w : World) :
    Calls Try.prog 12 #[bv W v, .int .i64 x, .int .i64 c] w fun e w' => e = .returned (.bool true) ∧ Fr w w' := by
  have HA : Hid AliveC := Lib.hid HA
  have HN := Lib.hid h
  have HS := Lib.hid (norm_cut (by have := h.1; omega : 1 ≤ x) hx2 (sgnI W v))
  have HT := Lib.hid (sgn_wide h hx)
  have H := Lib.hid (norm_to h); have v1 := h.lt128; have v0 := h.2.2.1; have hw1 := h.1; have hw2 := h.2.1
  have I1 := Lib.hid (fun w => int_out W v h s0 w)
  have I2 : Hid (∀ w : World, Calls Try.prog 24 #[bv x (cutI x.toNat (sgnI W v))] w fun e w' => e = .returned (.tuple #[.int .i64 0, .bool false]) ∧ Fr w w') := fun w => int_out x (cutI x.toNat (sgnI W v)) HS.out (by rw [HT.out]; exact s0) w
  clear h s0
  have e0 : (x != x) = false := by rw [bne_self_eq_false]
  have e1 : (sgnI W v != sgnI W v) = false := by rw [bne_self_eq_false]
  go_enter Try.func12, Try.ntmps12
  go_wp2_with fail
  refine (HA.out _).mono ?_
  rintro e w1 ⟨rfl, hb1⟩
  have hz1 := hb1.size
  (try simp at hz1)
  have z1_0 : w.heap.size < w1.heap.size := (by omega)
  have c1_0_0 := hb1.get (b := w.heap.size) (o := 0) (v := .int .i64 (W)) (by first | (simp [go_sem]; done) | (simp [go_sem, *]; done))
  have c1_0_1 := hb1.get (b := w.heap.size) (o := 1) (v := .int .u64 (hi (v))) (by first | (simp [go_sem]; done) | (simp [go_sem, *]; done))
  have c1_0_2 := hb1.get (b := w.heap.size) (o := 2) (v := .int .u64 (lo (v))) (by first | (simp [go_sem]; done) | (simp [go_sem, *]; done))
  clear hz1
  go_wp2_with fail
  refine (normal_any _ _ v0 v1 _).mono ?_
  rintro e w2 ⟨rfl, hb2⟩
  have hz2 := hb2.size
  (try simp at hz2)
  have z2_0 : w.heap.size < w2.heap.size := (by omega)
  have c2_0_0 := hb2.get (b := w.heap.size) (o := 0) (v := .int .i64 (W)) (by first | with_reducible exact c1_0_0 | (simp [go_sem]; done) | (simp [go_sem, *]; done))
  have c2_0_1 := hb2.get (b := w.heap.size) (o := 1) (v := .int .u64 (hi (v))) (by first | with_reducible exact c1_0_1 | (simp [go_sem]; done) | (simp [go_sem, *]; done))
  have c2_0_2 := hb2.get (b := w.heap.size) (o := 2) (v := .int .u64 (lo (v))) (by first | with_reducible exact c1_0_2 | (simp [go_sem]; done) | (simp [go_sem, *]; done))
  clear hz2
  rw [H.out]
  go_wp2_with fail
  refine (sext_ok _ _ _ HN.out (by omega) (by omega) _).mono ?_
  rintro e w3 ⟨rfl, hb3⟩
  have hz3 := hb3.size
  (try simp at hz3)
  have z3_0 : w.heap.size < w3.heap.size := (by omega)
  have c3_0_0 := hb3.get (b := w.heap.size) (o := 0) (v := .int .i64 (W)) (by first | with_reducible exact c2_0_0 | (simp [go_sem]; done) | (simp [go_sem, *]; done))
  have c3_0_1 := hb3.get (b := w.heap.size) (o := 1) (v := .int .u64 (hi (v))) (by first | with_reducible exact c2_0_1 | (simp [go_sem]; done) | (simp [go_sem, *]; done))
  have c3_0_2 := hb3.get (b := w.heap.size) (o := 2) (v := .int .u64 (lo (v))) (by first | with_reducible exact c2_0_2 | (simp [go_sem]; done) | (simp [go_sem, *]; done))
  clear hz3
  go_wp2_with fail
  refine (I1.out _).mono ?_
  rintro e w4 ⟨rfl, hb4⟩
  have hz4 := hb4.size
  (try simp at hz4)
  have z4_0 : w.heap.size < w4.heap.size := (by omega)
  have c4_0_0 := hb4.get (b := w.heap.size) (o := 0) (v := .int .i64 (W)) (by first | with_reducible exact c3_0_0 | (simp [go_sem]; done) | (simp [go_sem, *]; done))
  have c4_0_1 := hb4.get (b := w.heap.size) (o := 1) (v := .int .u64 (hi (v))) (by first | with_reducible exact c3_0_1 | (simp [go_sem]; done) | (simp [go_sem, *]; done))
  have c4_0_2 := hb4.get (b := w.heap.size) (o := 2) (v := .int .u64 (lo (v))) (by first | with_reducible exact c3_0_2 | (simp [go_sem]; done) | (simp [go_sem, *]; done))
  have z4_1 : w3.heap.size < w4.heap.size := (by omega)
  have c4_1_0 := hb4.get (b := w3.heap.size) (o := 0) (v := .int .i64 (x)) (by first | with_reducible exact c3_1_0 | (simp [go_sem]; done) | (simp [go_sem, *]; done))
  have c4_1_1 := hb4.get (b := w3.heap.size) (o := 1) (v := .int .u64 (hi (cutI x.toNat (sgnI W v)))) (by first | with_reducible exact c3_1_1 | (simp [go_sem]; done) | (simp [go_sem, *]; done))
  have c4_1_2 := hb4.get (b := w3.heap.size) (o := 2) (v := .int .u64 (lo (cutI x.toNat (sgnI W v)))) (by first | with_reducible exact c3_1_2 | (simp [go_sem]; done) | (simp [go_sem, *]; done))
  clear hz4
  go_wp2_with fail
  refine (I2.out _).mono ?_
  rintro e w5 ⟨rfl, hb5⟩
  have hz5 := hb5.size
  (try simp at hz5)
  have z5_0 : w.heap.size < w5.heap.size := (by omega)
  have c5_0_0 := hb5.get (b := w.heap.size) (o := 0) (v := .int .i64 (W)) (by first | with_reducible exact c4_0_0 | (simp [go_sem]; done) | (simp [go_sem, *]; done))
  have c5_0_1 := hb5.get (b := w.heap.size) (o := 1) (v := .int .u64 (hi (v))) (by first | with_reducible exact c4_0_1 | (simp [go_sem]; done) | (simp [go_sem, *]; done))
  have c5_0_2 := hb5.get (b := w.heap.size) (o := 2) (v := .int .u64 (lo (v))) (by first | with_reducible exact c4_0_2 | (simp [go_sem]; done) | (simp [go_sem, *]; done))
  have z5_1 : w3.heap.size < w5.heap.size := (by omega)
  have c5_1_0 := hb5.get (b := w3.heap.size) (o := 0) (v := .int .i64 (x)) (by first | with_reducible exact c4_1_0 | (simp [go_sem]; done) | (simp [go_sem, *]; done))
  have c5_1_1 := hb5.get (b := w3.heap.size) (o := 1) (v := .int .u64 (hi (cutI x.toNat (sgnI W v)))) (by first | with_reducible exact c4_1_1 | (simp [go_sem]; done) | (simp [go_sem, *]; done))
  have c5_1_2 := hb5.get (b := w3.heap.size) (o := 2) (v := .int .u64 (lo (cutI x.toNat (sgnI W v)))) (by first | with_reducible exact c4_1_2 | (simp [go_sem]; done) | (simp [go_sem, *]; done))
  clear hz5
  go_wp2_with fail
  have xx5_0_0 := fun ex : Ext w5 => ex.get (b := w.heap.size) (o := 0) (v := .int .i64 (W)) c5_0_0
  have xx5_0_1 := fun ex : Ext w5 => ex.get (b := w.heap.size) (o := 1) (v := .int .u64 (hi (v))) c5_0_1
  have xx5_0_2 := fun ex : Ext w5 => ex.get (b := w.heap.size) (o := 2) (v := .int .u64 (lo (v))) c5_0_2
  have xx5_1_0 := fun ex : Ext w5 => ex.get (b := w3.heap.size) (o := 0) (v := .int .i64 (x)) c5_1_0
  have xx5_1_1 := fun ex : Ext w5 => ex.get (b := w3.heap.size) (o := 1) (v := .int .u64 (hi (cutI x.toNat (sgnI W v)))) c5_1_1
  have xx5_1_2 := fun ex : Ext w5 => ex.get (b := w3.heap.size) (o := 2) (v := .int .u64 (lo (cutI x.toNat (sgnI W v)))) c5_1_2
  refine wp_region_ext (by kernel_rfl) (by kernel_rfl) ?_
  repeat (go_big_quiet_step (first
    | (go_at_call 20; exact ext_of (ext_low _ _ _ HN.out hx hx2 _))
    | (go_at_call 30; exact ext_of (zext_back _ _ _ HN.out hx hx2 _))))
  refine wpQuiet_nil ?_
  intro w6 hw6
  obtain ⟨y6, hy6⟩ := hw6
  have hb6 : Fr w5 w6 := by rw [hy6]; exact y6.fr
  clear hy6 y6
  have hz6 := hb6.size
  (try simp at hz6)
  have z6_0 : w.heap.size < w6.heap.size := (by omega)
  have c6_0_0 := hb6.get (b := w.heap.size) (o := 0) (v := .int .i64 (W)) (by first | with_reducible exact c5_0_0 | (simp [go_sem]; done) | (simp [go_sem, *]; done))
  have c6_0_1 := hb6.get (b := w.heap.size) (o := 1) (v := .int .u64 (hi (v))) (by first | with_reducible exact c5_0_1 | (simp [go_sem]; done) | (simp [go_sem, *]; done))
  have c6_0_2 := hb6.get (b := w.heap.size) (o := 2) (v := .int .u64 (lo (v))) (by first | with_reducible exact c5_0_2 | (simp [go_sem]; done) | (simp [go_sem, *]; done))
  have z6_1 : w3.heap.size < w6.heap.size := (by omega)
  have c6_1_0 := hb6.get (b := w3.heap.size) (o := 0) (v := .int .i64 (x)) (by first | with_reducible exact c5_1_0 | (simp [go_sem]; done) | (simp [go_sem, *]; done))
  have c6_1_1 := hb6.get (b := w3.heap.size) (o := 1) (v := .int .u64 (hi (cutI x.toNat (sgnI W v)))) (by first | with_reducible exact c5_1_1 | (simp [go_sem]; done) | (simp [go_sem, *]; done))
  have c6_1_2 := hb6.get (b := w3.heap.size) (o := 2) (v := .int .u64 (lo (cutI x.toNat (sgnI W v)))) (by first | with_reducible exact c5_1_2 | (simp [go_sem]; done) | (simp [go_sem, *]; done))
  clear hz6
  go_wp2_with fail
  have xx6_0_0 := fun ex : Ext w6 => ex.get (b := w.heap.size) (o := 0) (v := .int .i64 (W)) c6_0_0
  have xx6_0_1 := fun ex : Ext w6 => ex.get (b := w.heap.size) (o := 1) (v := .int .u64 (hi (v))) c6_0_1
  have xx6_0_2 := fun ex : Ext w6 => ex.get (b := w.heap.size) (o := 2) (v := .int .u64 (lo (v))) c6_0_2
  have xx6_1_0 := fun ex : Ext w6 => ex.get (b := w3.heap.size) (o := 0) (v := .int .i64 (x)) c6_1_0
  have xx6_1_1 := fun ex : Ext w6 => ex.get (b := w3.heap.size) (o := 1) (v := .int .u64 (hi (cutI x.toNat (sgnI W v)))) c6_1_1
  have xx6_1_2 := fun ex : Ext w6 => ex.get (b := w3.heap.size) (o := 2) (v := .int .u64 (lo (cutI x.toNat (sgnI W v)))) c6_1_2
  refine wp_region_ext (by kernel_rfl) (by kernel_rfl) ?_
  repeat (go_big_quiet_step (first
    | (go_at_call_of 20 (Value.int IntKind.i64 c); exact ext_of (half_hi _ _ _ HN.out c1 c2 _))
    | (go_at_call 20; exact ext_of (half_lo _ _ _ HN.out c1 c2 _))
    | (go_at_call 14; exact ext_of (join_halves _ _ _ HN.out c1 c2 _))))
  refine wpQuiet_nil ?_
  intro w7 hw7
  obtain ⟨y7, hy7⟩ := hw7
  have hb7 : Fr w6 w7 := by rw [hy7]; exact y7.fr
  clear hy7 y7
  go_wp2
  go_ret
  exact ⟨rfl, by repeat (first | with_reducible exact Fr.refl _ | with_reducible apply Fr.drewN | with_reducible apply Fr.drew | with_reducible apply Fr.alloc | (with_reducible refine Fr.set ?_ (by simp; try omega) _) | (with_reducible refine Fr.call ?_ (by assumption)))⟩
end Go.Proofs.Ytpibkhkhbjeoiaa
