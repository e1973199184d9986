/- BvecBack's walk: what was put in is taken out, and the rest stays. -/
import Derived.Test.YtpibkhkhbjeoiaaRingm
import Derived.Test.YtpibkhkhbjeoiaaGa
import Derived.Test.YtpibkhkhbjeoiaaGc
import Derived.Test.YtpibkhkhbjeoiaaNumc
import Derived.IntWalk
namespace Go.Proofs.Ytpibkhkhbjeoiaa
open Go.RowKit

/-- What Insert answers. -/
def insI (v y X u : Int) : Int := ((insN v.toNat y.toNat X.toNat u.toNat : Nat) : Int)
theorem ins_to (W v y X u : Int) (h : Norm W v) (k : Norm X u) (h0 : 0 ≤ y) (h1 : y ≤ W - X) (w : World) : Calls Try.prog 22 #[bv W v, .int .i64 y, bv X u] w fun e w' => e = .returned (bv W (insI v y X u)) ∧ Fr w w' := by
  have hh := insert_ok W v y X u h k h0 h1 w
  rw [ins_eq W v y X u h k h0 h1] at hh
  exact hh
structure InsFacts (W v y X u : Int) : Prop where
  lt : Norm W (insI v y X u)
  mid : insI v y X u / 2 ^ y.toNat % 2 ^ X.toNat = u
  low : insI v y X u % 2 ^ y.toNat = v % 2 ^ y.toNat
  high : insI v y X u / 2 ^ (y + X).toNat = v / 2 ^ (y + X).toNat
theorem ins_facts (W v y X u : Int) (h : Norm W v) (k : Norm X u) (h0 : 0 ≤ y) (h1 : y ≤ W - X) : InsFacts W v y X u := by
  have hv := h.lt128
  obtain ⟨a1, a2, a3, a4⟩ := h
  obtain ⟨b1, b2, b3, b4⟩ := k
  obtain ⟨V, rfl⟩ := nat_of_int v a3
  obtain ⟨U, rfl⟩ := nat_of_int u b3
  obtain ⟨Y, rfl⟩ := nat_of_int y h0
  have c1 := two_pow_cast X.toNat; have c2 := two_pow_cast Y; have c3 := two_pow_cast W.toNat
  have hU : U < 2 ^ X.toNat := by omega
  have hV : V < 2 ^ W.toNat := by omega
  have hlt := insN_lt V Y X.toNat U W.toNat (by omega) (by omega) hU hV
  have e : ((Y : Int) + X).toNat = Y + X.toNat := by omega
  have c4 := two_pow_cast (Y + X.toNat)
  refine ⟨⟨a1, a2, by unfold insI; omega, by unfold insI; simp only [Int.toNat_natCast]; omega⟩, ?_, ?_, ?_⟩
  · show ((insN ((V : Int)).toNat ((Y : Int)).toNat X.toNat ((U : Int)).toNat : Nat) : Int) / 2 ^ ((Y : Int)).toNat % 2 ^ X.toNat = (U : Int)
    simp only [Int.toNat_natCast]
    rw [← c2, ← c1, ← Int.natCast_ediv, ← Int.natCast_emod, insN_mid V Y X.toNat U (by omega) hU (by omega)]
  · show ((insN ((V : Int)).toNat ((Y : Int)).toNat X.toNat ((U : Int)).toNat : Nat) : Int) % 2 ^ ((Y : Int)).toNat = (V : Int) % 2 ^ ((Y : Int)).toNat
    simp only [Int.toNat_natCast]
    rw [← c2, ← Int.natCast_emod, ← Int.natCast_emod, insN_low V Y X.toNat U (by omega) hU (by omega)]
  · show ((insN ((V : Int)).toNat ((Y : Int)).toNat X.toNat ((U : Int)).toNat : Nat) : Int) / 2 ^ ((Y : Int) + X).toNat = (V : Int) / 2 ^ ((Y : Int) + X).toNat
    simp only [Int.toNat_natCast]
    rw [e, ← c4, ← Int.natCast_ediv, ← Int.natCast_ediv, insN_high V Y X.toNat U (by omega) hU (by omega)]
/-- Three ways to take bits out. -/
theorem take_mid (W v y X u : Int) (h : Norm W v) (k : Norm X u) (h0 : 0 ≤ y) (h1 : y ≤ W - X) (w : World) : Calls Try.prog 20 #[bv W (insI v y X u), .int .i64 (y + X - 1), .int .i64 y] w fun e w' => e = .returned (bv X u) ∧ Fr w w' := by
  have F := ins_facts W v y X u h k h0 h1
  have hx := k.1
  have hh := extract_ok W (insI v y X u) (y + X - 1) y F.lt h0 (by omega) (by omega) w
  have e1 : y + X - 1 - y + 1 = X := by omega
  rw [e1, shrI_small _ _ F.lt.2.2.1 F.lt.lt128] at hh
  have e2 : cutI X.toNat (insI v y X u / 2 ^ y.toNat) = u := F.mid
  rw [e2] at hh
  exact hh
theorem take_low (W v y : Int) (h : Norm W v) (h0 : 1 ≤ y) (h1 : y ≤ W) (w : World) : Calls Try.prog 20 #[bv W v, .int .i64 (y - 1), .int .i64 0] w fun e w' => e = .returned (bv y (v % 2 ^ y.toNat)) ∧ Fr w w' := by
  have hh := extract_ok W v (y - 1) 0 h (by omega) (by omega) (by omega) w
  have e1 : y - 1 - 0 + 1 = y := by omega
  have e2 : cutI y.toNat (shrI v (0 : Int).toNat) = v % 2 ^ y.toNat := by
    rw [shrI_small _ _ h.2.2.1 h.lt128]
    have : v / 2 ^ (0 : Int).toNat = v := Int.ediv_one _
    rw [this]; rfl
  rw [e1, e2] at hh
  exact hh
theorem take_high (W v z : Int) (h : Norm W v) (h0 : 0 ≤ z) (h1 : z < W) (w : World) : Calls Try.prog 20 #[bv W v, .int .i64 (W - 1), .int .i64 z] w fun e w' => e = .returned (bv (W - z) (v / 2 ^ z.toNat)) ∧ Fr w w' := by
  have hh := extract_ok W v (W - 1) z h (by omega) (by omega) (by omega) w
  have e1 : W - 1 - z + 1 = W - z := by omega
  have hp := pow_pos' z.toNat
  have e2 : cutI (W - z).toNat (shrI v z.toNat) = v / 2 ^ z.toNat := by
    rw [shrI_small _ _ h.2.2.1 h.lt128]
    refine cutI_small _ _ (Int.ediv_nonneg h.2.2.1 (Int.le_of_lt hp)) (Int.ediv_lt_of_lt_mul hp ?_)
    rw [← Int.pow_add]
    have e : (W - z).toNat + z.toNat = W.toNat := by omega
    rw [e]; exact h.2.2.2
  rw [e1, e2] at hh
  exact hh
set_option maxHeartbeats 4000000 in
theorem back_bad1 (HA : AliveC) (W v X u y : Int) (v0 : 0 ≤ v) (v1 : v < 340282366920938463463374607431768211456) (_u0 : 0 ≤ u) (_u1 : u < 340282366920938463463374607431768211456) (h : normB W v = false) (w : World) :
    Calls Try.prog 9 #[bv W v, bv X u, .int .i64 y] w fun e w' => e = .returned (.bool true) ∧ Fr w w' := by
  have HA : Hid AliveC := Lib.hid HA
  have h2 := h
  have H2 := Lib.hid h2; clear h2
  have H := Lib.hid h; clear h
  go_enter Try.func9, Try.ntmps9
  go_wp2_with fail
  refine (HA.out _).mono ?_
  rintro e w1 ⟨rfl, hb1⟩
  have hz1 := hb1.size
  (try simp at hz1)
  have z1_0 : w.heap.size < w1.heap.size := (by omega)
  have c1_0_0 := hb1.get (b := w.heap.size) (o := 0) (v := .int .i64 (W)) (by first | (simp [go_sem]; done) | (simp [go_sem, *]; done))
  have c1_0_1 := hb1.get (b := w.heap.size) (o := 1) (v := .int .u64 (hi (v))) (by first | (simp [go_sem]; done) | (simp [go_sem, *]; done))
  have c1_0_2 := hb1.get (b := w.heap.size) (o := 2) (v := .int .u64 (lo (v))) (by first | (simp [go_sem]; done) | (simp [go_sem, *]; done))
  have z1_1 : w.heap.size + 1 < w1.heap.size := (by omega)
  have c1_1_0 := hb1.get (b := w.heap.size + 1) (o := 0) (v := .int .i64 (X)) (by first | (simp [go_sem]; done) | (simp [go_sem, *]; done))
  have c1_1_1 := hb1.get (b := w.heap.size + 1) (o := 1) (v := .int .u64 (hi (u))) (by first | (simp [go_sem]; done) | (simp [go_sem, *]; done))
  have c1_1_2 := hb1.get (b := w.heap.size + 1) (o := 2) (v := .int .u64 (lo (u))) (by first | (simp [go_sem]; done) | (simp [go_sem, *]; done))
  clear hz1
  go_wp2_with fail
  refine (insert_bad1 _ _ _ _ _ v0 v1 H2.out _).mono ?_
  rintro e w2 ⟨rfl, hb2⟩
  have hz2 := hb2.size
  (try simp at hz2)
  have z2_0 : w.heap.size < w2.heap.size := (by omega)
  have c2_0_0 := hb2.get (b := w.heap.size) (o := 0) (v := .int .i64 (W)) (by first | with_reducible exact c1_0_0 | (simp [go_sem]; done) | (simp [go_sem, *]; done))
  have c2_0_1 := hb2.get (b := w.heap.size) (o := 1) (v := .int .u64 (hi (v))) (by first | with_reducible exact c1_0_1 | (simp [go_sem]; done) | (simp [go_sem, *]; done))
  have c2_0_2 := hb2.get (b := w.heap.size) (o := 2) (v := .int .u64 (lo (v))) (by first | with_reducible exact c1_0_2 | (simp [go_sem]; done) | (simp [go_sem, *]; done))
  have z2_1 : w.heap.size + 1 < w2.heap.size := (by omega)
  have c2_1_0 := hb2.get (b := w.heap.size + 1) (o := 0) (v := .int .i64 (X)) (by first | with_reducible exact c1_1_0 | (simp [go_sem]; done) | (simp [go_sem, *]; done))
  have c2_1_1 := hb2.get (b := w.heap.size + 1) (o := 1) (v := .int .u64 (hi (u))) (by first | with_reducible exact c1_1_1 | (simp [go_sem]; done) | (simp [go_sem, *]; done))
  have c2_1_2 := hb2.get (b := w.heap.size + 1) (o := 2) (v := .int .u64 (lo (u))) (by first | with_reducible exact c1_1_2 | (simp [go_sem]; done) | (simp [go_sem, *]; done))
  clear hz2
  go_wp2_with fail
  refine (normal_any _ _ v0 v1 _).mono ?_
  rintro e w3 ⟨rfl, hb3⟩
  have hz3 := hb3.size
  (try simp at hz3)
  have z3_0 : w.heap.size < w3.heap.size := (by omega)
  have c3_0_0 := hb3.get (b := w.heap.size) (o := 0) (v := .int .i64 (W)) (by first | with_reducible exact c2_0_0 | (simp [go_sem]; done) | (simp [go_sem, *]; done))
  have c3_0_1 := hb3.get (b := w.heap.size) (o := 1) (v := .int .u64 (hi (v))) (by first | with_reducible exact c2_0_1 | (simp [go_sem]; done) | (simp [go_sem, *]; done))
  have c3_0_2 := hb3.get (b := w.heap.size) (o := 2) (v := .int .u64 (lo (v))) (by first | with_reducible exact c2_0_2 | (simp [go_sem]; done) | (simp [go_sem, *]; done))
  have z3_1 : w.heap.size + 1 < w3.heap.size := (by omega)
  have c3_1_0 := hb3.get (b := w.heap.size + 1) (o := 0) (v := .int .i64 (X)) (by first | with_reducible exact c2_1_0 | (simp [go_sem]; done) | (simp [go_sem, *]; done))
  have c3_1_1 := hb3.get (b := w.heap.size + 1) (o := 1) (v := .int .u64 (hi (u))) (by first | with_reducible exact c2_1_1 | (simp [go_sem]; done) | (simp [go_sem, *]; done))
  have c3_1_2 := hb3.get (b := w.heap.size + 1) (o := 2) (v := .int .u64 (lo (u))) (by first | with_reducible exact c2_1_2 | (simp [go_sem]; done) | (simp [go_sem, *]; done))
  clear hz3
  rw [H.out]
  go_wp2
  go_ret
  exact ⟨rfl, by repeat (first | with_reducible exact Fr.refl _ | with_reducible apply Fr.drewN | with_reducible apply Fr.drew | with_reducible apply Fr.alloc | (with_reducible refine Fr.set ?_ (by simp; try omega) _) | (with_reducible refine Fr.call ?_ (by assumption)))⟩
set_option maxHeartbeats 4000000 in
theorem back_bad2 (HA : AliveC) (W v X u y : Int) (v0 : 0 ≤ v) (v1 : v < 340282366920938463463374607431768211456) (u0 : 0 ≤ u) (u1 : u < 340282366920938463463374607431768211456) (h : normB W v = true) (k : normB X u = false) (w : World) :
    Calls Try.prog 9 #[bv W v, bv X u, .int .i64 y] w fun e w' => e = .returned (.bool true) ∧ Fr w w' := by
  have HA : Hid AliveC := Lib.hid HA
  have HN := Lib.hid (norm_of v0 h)
  have H := Lib.hid h; have K := Lib.hid k; clear h k
  go_enter Try.func9, Try.ntmps9
  go_wp2_with fail
  refine (HA.out _).mono ?_
  rintro e w1 ⟨rfl, hb1⟩
  have hz1 := hb1.size
  (try simp at hz1)
  have z1_0 : w.heap.size < w1.heap.size := (by omega)
  have c1_0_0 := hb1.get (b := w.heap.size) (o := 0) (v := .int .i64 (W)) (by first | (simp [go_sem]; done) | (simp [go_sem, *]; done))
  have c1_0_1 := hb1.get (b := w.heap.size) (o := 1) (v := .int .u64 (hi (v))) (by first | (simp [go_sem]; done) | (simp [go_sem, *]; done))
  have c1_0_2 := hb1.get (b := w.heap.size) (o := 2) (v := .int .u64 (lo (v))) (by first | (simp [go_sem]; done) | (simp [go_sem, *]; done))
  have z1_1 : w.heap.size + 1 < w1.heap.size := (by omega)
  have c1_1_0 := hb1.get (b := w.heap.size + 1) (o := 0) (v := .int .i64 (X)) (by first | (simp [go_sem]; done) | (simp [go_sem, *]; done))
  have c1_1_1 := hb1.get (b := w.heap.size + 1) (o := 1) (v := .int .u64 (hi (u))) (by first | (simp [go_sem]; done) | (simp [go_sem, *]; done))
  have c1_1_2 := hb1.get (b := w.heap.size + 1) (o := 2) (v := .int .u64 (lo (u))) (by first | (simp [go_sem]; done) | (simp [go_sem, *]; done))
  clear hz1
  go_wp2_with fail
  refine (insert_bad2 _ _ _ _ _ HN.out u0 u1 K.out _).mono ?_
  rintro e w2 ⟨rfl, hb2⟩
  have hz2 := hb2.size
  (try simp at hz2)
  have z2_0 : w.heap.size < w2.heap.size := (by omega)
  have c2_0_0 := hb2.get (b := w.heap.size) (o := 0) (v := .int .i64 (W)) (by first | with_reducible exact c1_0_0 | (simp [go_sem]; done) | (simp [go_sem, *]; done))
  have c2_0_1 := hb2.get (b := w.heap.size) (o := 1) (v := .int .u64 (hi (v))) (by first | with_reducible exact c1_0_1 | (simp [go_sem]; done) | (simp [go_sem, *]; done))
  have c2_0_2 := hb2.get (b := w.heap.size) (o := 2) (v := .int .u64 (lo (v))) (by first | with_reducible exact c1_0_2 | (simp [go_sem]; done) | (simp [go_sem, *]; done))
  have z2_1 : w.heap.size + 1 < w2.heap.size := (by omega)
  have c2_1_0 := hb2.get (b := w.heap.size + 1) (o := 0) (v := .int .i64 (X)) (by first | with_reducible exact c1_1_0 | (simp [go_sem]; done) | (simp [go_sem, *]; done))
  have c2_1_1 := hb2.get (b := w.heap.size + 1) (o := 1) (v := .int .u64 (hi (u))) (by first | with_reducible exact c1_1_1 | (simp [go_sem]; done) | (simp [go_sem, *]; done))
  have c2_1_2 := hb2.get (b := w.heap.size + 1) (o := 2) (v := .int .u64 (lo (u))) (by first | with_reducible exact c1_1_2 | (simp [go_sem]; done) | (simp [go_sem, *]; done))
  clear hz2
  go_wp2_with fail
  refine (normal_any _ _ v0 v1 _).mono ?_
  rintro e w3 ⟨rfl, hb3⟩
  have hz3 := hb3.size
  (try simp at hz3)
  have z3_0 : w.heap.size < w3.heap.size := (by omega)
  have c3_0_0 := hb3.get (b := w.heap.size) (o := 0) (v := .int .i64 (W)) (by first | with_reducible exact c2_0_0 | (simp [go_sem]; done) | (simp [go_sem, *]; done))
  have c3_0_1 := hb3.get (b := w.heap.size) (o := 1) (v := .int .u64 (hi (v))) (by first | with_reducible exact c2_0_1 | (simp [go_sem]; done) | (simp [go_sem, *]; done))
  have c3_0_2 := hb3.get (b := w.heap.size) (o := 2) (v := .int .u64 (lo (v))) (by first | with_reducible exact c2_0_2 | (simp [go_sem]; done) | (simp [go_sem, *]; done))
  have z3_1 : w.heap.size + 1 < w3.heap.size := (by omega)
  have c3_1_0 := hb3.get (b := w.heap.size + 1) (o := 0) (v := .int .i64 (X)) (by first | with_reducible exact c2_1_0 | (simp [go_sem]; done) | (simp [go_sem, *]; done))
  have c3_1_1 := hb3.get (b := w.heap.size + 1) (o := 1) (v := .int .u64 (hi (u))) (by first | with_reducible exact c2_1_1 | (simp [go_sem]; done) | (simp [go_sem, *]; done))
  have c3_1_2 := hb3.get (b := w.heap.size + 1) (o := 2) (v := .int .u64 (lo (u))) (by first | with_reducible exact c2_1_2 | (simp [go_sem]; done) | (simp [go_sem, *]; done))
  clear hz3
  rw [H.out]
  go_wp2_with fail
  refine (normal_any _ _ u0 u1 _).mono ?_
  rintro e w4 ⟨rfl, hb4⟩
  have hz4 := hb4.size
  (try simp at hz4)
  have z4_0 : w.heap.size < w4.heap.size := (by omega)
  have c4_0_0 := hb4.get (b := w.heap.size) (o := 0) (v := .int .i64 (W)) (by first | with_reducible exact c3_0_0 | (simp [go_sem]; done) | (simp [go_sem, *]; done))
  have c4_0_1 := hb4.get (b := w.heap.size) (o := 1) (v := .int .u64 (hi (v))) (by first | with_reducible exact c3_0_1 | (simp [go_sem]; done) | (simp [go_sem, *]; done))
  have c4_0_2 := hb4.get (b := w.heap.size) (o := 2) (v := .int .u64 (lo (v))) (by first | with_reducible exact c3_0_2 | (simp [go_sem]; done) | (simp [go_sem, *]; done))
  have z4_1 : w.heap.size + 1 < w4.heap.size := (by omega)
  have c4_1_0 := hb4.get (b := w.heap.size + 1) (o := 0) (v := .int .i64 (X)) (by first | with_reducible exact c3_1_0 | (simp [go_sem]; done) | (simp [go_sem, *]; done))
  have c4_1_1 := hb4.get (b := w.heap.size + 1) (o := 1) (v := .int .u64 (hi (u))) (by first | with_reducible exact c3_1_1 | (simp [go_sem]; done) | (simp [go_sem, *]; done))
  have c4_1_2 := hb4.get (b := w.heap.size + 1) (o := 2) (v := .int .u64 (lo (u))) (by first | with_reducible exact c3_1_2 | (simp [go_sem]; done) | (simp [go_sem, *]; done))
  clear hz4
  rw [K.out]
  go_wp2
  go_ret
  exact ⟨rfl, by repeat (first | with_reducible exact Fr.refl _ | with_reducible apply Fr.drewN | with_reducible apply Fr.drew | with_reducible apply Fr.alloc | (with_reducible refine Fr.set ?_ (by simp; try omega) _) | (with_reducible refine Fr.call ?_ (by assumption)))⟩
set_option maxHeartbeats 4000000 in
theorem back_bad3 (HA : AliveC) (W v X u y : Int) (v0 : 0 ≤ v) (v1 : v < 340282366920938463463374607431768211456) (u0 : 0 ≤ u) (u1 : u < 340282366920938463463374607431768211456) (h : normB W v = true) (k : normB X u = true) (hy : y < 0 ∨ (0 ≤ y ∧ W - X < y)) (w : World) :
    Calls Try.prog 9 #[bv W v, bv X u, .int .i64 y] w fun e w' => e = .returned (.bool true) ∧ Fr w w' := by
  have HA : Hid AliveC := Lib.hid HA
  have HN := Lib.hid (norm_of v0 h); have KN := Lib.hid (norm_of u0 k)
  have hw1 := (norm_of v0 h).1; have hw2 := (norm_of v0 h).2.1; have hx1 := (norm_of u0 k).1; have hx2 := (norm_of u0 k).2.1
  have H := Lib.hid h; have K := Lib.hid k; clear h k
  have HY := Lib.hid (show y < 0 ∨ W - X < y by omega)
  rcases hy with hy | ⟨hy, hy2⟩
  all_goals
    go_enter Try.func9, Try.ntmps9
    go_wp2_with fail
    refine (HA.out _).mono ?_
    rintro e w1 ⟨rfl, hb1⟩
    have hz1 := hb1.size
    (try simp at hz1)
    have z1_0 : w.heap.size < w1.heap.size := (by omega)
    have c1_0_0 := hb1.get (b := w.heap.size) (o := 0) (v := .int .i64 (W)) (by first | (simp [go_sem]; done) | (simp [go_sem, *]; done))
    have c1_0_1 := hb1.get (b := w.heap.size) (o := 1) (v := .int .u64 (hi (v))) (by first | (simp [go_sem]; done) | (simp [go_sem, *]; done))
    have c1_0_2 := hb1.get (b := w.heap.size) (o := 2) (v := .int .u64 (lo (v))) (by first | (simp [go_sem]; done) | (simp [go_sem, *]; done))
    have z1_1 : w.heap.size + 1 < w1.heap.size := (by omega)
    have c1_1_0 := hb1.get (b := w.heap.size + 1) (o := 0) (v := .int .i64 (X)) (by first | (simp [go_sem]; done) | (simp [go_sem, *]; done))
    have c1_1_1 := hb1.get (b := w.heap.size + 1) (o := 1) (v := .int .u64 (hi (u))) (by first | (simp [go_sem]; done) | (simp [go_sem, *]; done))
    have c1_1_2 := hb1.get (b := w.heap.size + 1) (o := 2) (v := .int .u64 (lo (u))) (by first | (simp [go_sem]; done) | (simp [go_sem, *]; done))
    clear hz1
    go_wp2_with fail
    refine (insert_no _ _ _ _ _ HN.out KN.out HY.out _).mono ?_
    rintro e w2 ⟨rfl, hb2⟩
    have hz2 := hb2.size
    (try simp at hz2)
    have z2_0 : w.heap.size < w2.heap.size := (by omega)
    have c2_0_0 := hb2.get (b := w.heap.size) (o := 0) (v := .int .i64 (W)) (by first | with_reducible exact c1_0_0 | (simp [go_sem]; done) | (simp [go_sem, *]; done))
    have c2_0_1 := hb2.get (b := w.heap.size) (o := 1) (v := .int .u64 (hi (v))) (by first | with_reducible exact c1_0_1 | (simp [go_sem]; done) | (simp [go_sem, *]; done))
    have c2_0_2 := hb2.get (b := w.heap.size) (o := 2) (v := .int .u64 (lo (v))) (by first | with_reducible exact c1_0_2 | (simp [go_sem]; done) | (simp [go_sem, *]; done))
    have z2_1 : w.heap.size + 1 < w2.heap.size := (by omega)
    have c2_1_0 := hb2.get (b := w.heap.size + 1) (o := 0) (v := .int .i64 (X)) (by first | with_reducible exact c1_1_0 | (simp [go_sem]; done) | (simp [go_sem, *]; done))
    have c2_1_1 := hb2.get (b := w.heap.size + 1) (o := 1) (v := .int .u64 (hi (u))) (by first | with_reducible exact c1_1_1 | (simp [go_sem]; done) | (simp [go_sem, *]; done))
    have c2_1_2 := hb2.get (b := w.heap.size + 1) (o := 2) (v := .int .u64 (lo (u))) (by first | with_reducible exact c1_1_2 | (simp [go_sem]; done) | (simp [go_sem, *]; done))
    clear hz2
    go_wp2_with fail
    refine (normal_any _ _ v0 v1 _).mono ?_
    rintro e w3 ⟨rfl, hb3⟩
    have hz3 := hb3.size
    (try simp at hz3)
    have z3_0 : w.heap.size < w3.heap.size := (by omega)
    have c3_0_0 := hb3.get (b := w.heap.size) (o := 0) (v := .int .i64 (W)) (by first | with_reducible exact c2_0_0 | (simp [go_sem]; done) | (simp [go_sem, *]; done))
    have c3_0_1 := hb3.get (b := w.heap.size) (o := 1) (v := .int .u64 (hi (v))) (by first | with_reducible exact c2_0_1 | (simp [go_sem]; done) | (simp [go_sem, *]; done))
    have c3_0_2 := hb3.get (b := w.heap.size) (o := 2) (v := .int .u64 (lo (v))) (by first | with_reducible exact c2_0_2 | (simp [go_sem]; done) | (simp [go_sem, *]; done))
    have z3_1 : w.heap.size + 1 < w3.heap.size := (by omega)
    have c3_1_0 := hb3.get (b := w.heap.size + 1) (o := 0) (v := .int .i64 (X)) (by first | with_reducible exact c2_1_0 | (simp [go_sem]; done) | (simp [go_sem, *]; done))
    have c3_1_1 := hb3.get (b := w.heap.size + 1) (o := 1) (v := .int .u64 (hi (u))) (by first | with_reducible exact c2_1_1 | (simp [go_sem]; done) | (simp [go_sem, *]; done))
    have c3_1_2 := hb3.get (b := w.heap.size + 1) (o := 2) (v := .int .u64 (lo (u))) (by first | with_reducible exact c2_1_2 | (simp [go_sem]; done) | (simp [go_sem, *]; done))
    clear hz3
    rw [H.out]
    go_wp2_with fail
    refine (normal_any _ _ u0 u1 _).mono ?_
    rintro e w4 ⟨rfl, hb4⟩
    have hz4 := hb4.size
    (try simp at hz4)
    have z4_0 : w.heap.size < w4.heap.size := (by omega)
    have c4_0_0 := hb4.get (b := w.heap.size) (o := 0) (v := .int .i64 (W)) (by first | with_reducible exact c3_0_0 | (simp [go_sem]; done) | (simp [go_sem, *]; done))
    have c4_0_1 := hb4.get (b := w.heap.size) (o := 1) (v := .int .u64 (hi (v))) (by first | with_reducible exact c3_0_1 | (simp [go_sem]; done) | (simp [go_sem, *]; done))
    have c4_0_2 := hb4.get (b := w.heap.size) (o := 2) (v := .int .u64 (lo (v))) (by first | with_reducible exact c3_0_2 | (simp [go_sem]; done) | (simp [go_sem, *]; done))
    have z4_1 : w.heap.size + 1 < w4.heap.size := (by omega)
    have c4_1_0 := hb4.get (b := w.heap.size + 1) (o := 0) (v := .int .i64 (X)) (by first | with_reducible exact c3_1_0 | (simp [go_sem]; done) | (simp [go_sem, *]; done))
    have c4_1_1 := hb4.get (b := w.heap.size + 1) (o := 1) (v := .int .u64 (hi (u))) (by first | with_reducible exact c3_1_1 | (simp [go_sem]; done) | (simp [go_sem, *]; done))
    have c4_1_2 := hb4.get (b := w.heap.size + 1) (o := 2) (v := .int .u64 (lo (u))) (by first | with_reducible exact c3_1_2 | (simp [go_sem]; done) | (simp [go_sem, *]; done))
    clear hz4
    rw [K.out]
    go_wp2
    go_ret
    exact ⟨rfl, by repeat (first | with_reducible exact Fr.refl _ | with_reducible apply Fr.drewN | with_reducible apply Fr.drew | with_reducible apply Fr.alloc | (with_reducible refine Fr.set ?_ (by simp; try omega) _) | (with_reducible refine Fr.call ?_ (by assumption)))⟩
set_option maxRecDepth 100000 in
set_option maxHeartbeats 4000000 in
theorem back_0W (HA : AliveC) (W v X u y : Int) (h : Norm W v) (k : Norm X u) (y0 : 0 ≤ y) (y1 : y ≤ W - X) (c1 : (y == 0) = true) (c2 : (y + X == W) = true) (w : World) :
    Calls Try.prog 9 #[bv W v, bv X u, .int .i64 y] w fun e w' => e = .returned (.bool true) ∧ Fr w w' := by
  have HA : Hid AliveC := Lib.hid HA
  have HN := Lib.hid h; have KN := Lib.hid k
  have HI := Lib.hid (ins_facts W v y X u h k y0 y1).lt
  obtain ⟨f1, f2⟩ := beq_hi (ins_facts W v y X u h k y0 y1).low
  obtain ⟨f3, f4⟩ := beq_hi (ins_facts W v y X u h k y0 y1).high
  have g3 := Lib.hid (ins_facts W v y X u h k y0 y1).low
  have g4 := Lib.hid (ins_facts W v y X u h k y0 y1).high
  have hw1 := h.1; have hw2 := h.2.1; have hx1 := k.1; have hx2 := k.2.1
  have d1 : IntKind.i64.wrap (y + X) = y + X := IntWalk.i64_in _ (by omega)
  have d2 : IntKind.i64.wrap (y + X - 1) = y + X - 1 := IntWalk.i64_in _ (by omega)
  have d3 : IntKind.i64.wrap (y - 1) = y - 1 := IntWalk.i64_in _ (by omega)
  have d4 : IntKind.i64.wrap (W - 1) = W - 1 := IntWalk.i64_in _ (by omega)
  have d5 : (W == 0) = false := beq_eq_false_iff_ne.2 (by omega)
  have d6 : (W != W) = false := by rw [bne_self_eq_false]
  have d7 : 0 ≤ y + X := by omega
  have d8 : y ≤ W := by omega
  clear h k
  go_enter Try.func9, Try.ntmps9
  go_wp2_with fail
  refine (HA.out _).mono ?_
  rintro e w1 ⟨rfl, hb1⟩
  have hz1 := hb1.size
  (try simp at hz1)
  have z1_0 : w.heap.size < w1.heap.size := (by omega)
  have c1_0_0 := hb1.get (b := w.heap.size) (o := 0) (v := .int .i64 (W)) (by first | (simp [go_sem]; done) | (simp [go_sem, *]; done))
  have c1_0_1 := hb1.get (b := w.heap.size) (o := 1) (v := .int .u64 (hi (v))) (by first | (simp [go_sem]; done) | (simp [go_sem, *]; done))
  have c1_0_2 := hb1.get (b := w.heap.size) (o := 2) (v := .int .u64 (lo (v))) (by first | (simp [go_sem]; done) | (simp [go_sem, *]; done))
  have z1_1 : w.heap.size + 1 < w1.heap.size := (by omega)
  have c1_1_0 := hb1.get (b := w.heap.size + 1) (o := 0) (v := .int .i64 (X)) (by first | (simp [go_sem]; done) | (simp [go_sem, *]; done))
  have c1_1_1 := hb1.get (b := w.heap.size + 1) (o := 1) (v := .int .u64 (hi (u))) (by first | (simp [go_sem]; done) | (simp [go_sem, *]; done))
  have c1_1_2 := hb1.get (b := w.heap.size + 1) (o := 2) (v := .int .u64 (lo (u))) (by first | (simp [go_sem]; done) | (simp [go_sem, *]; done))
  clear hz1
  go_wp2_with fail
  refine (ins_to _ _ _ _ _ HN.out KN.out y0 y1 _).mono ?_
  rintro e w2 ⟨rfl, hb2⟩
  have hz2 := hb2.size
  (try simp at hz2)
  have z2_0 : w.heap.size < w2.heap.size := (by omega)
  have c2_0_0 := hb2.get (b := w.heap.size) (o := 0) (v := .int .i64 (W)) (by first | with_reducible exact c1_0_0 | (simp [go_sem]; done) | (simp [go_sem, *]; done))
  have c2_0_1 := hb2.get (b := w.heap.size) (o := 1) (v := .int .u64 (hi (v))) (by first | with_reducible exact c1_0_1 | (simp [go_sem]; done) | (simp [go_sem, *]; done))
  have c2_0_2 := hb2.get (b := w.heap.size) (o := 2) (v := .int .u64 (lo (v))) (by first | with_reducible exact c1_0_2 | (simp [go_sem]; done) | (simp [go_sem, *]; done))
  have z2_1 : w.heap.size + 1 < w2.heap.size := (by omega)
  have c2_1_0 := hb2.get (b := w.heap.size + 1) (o := 0) (v := .int .i64 (X)) (by first | with_reducible exact c1_1_0 | (simp [go_sem]; done) | (simp [go_sem, *]; done))
  have c2_1_1 := hb2.get (b := w.heap.size + 1) (o := 1) (v := .int .u64 (hi (u))) (by first | with_reducible exact c1_1_1 | (simp [go_sem]; done) | (simp [go_sem, *]; done))
  have c2_1_2 := hb2.get (b := w.heap.size + 1) (o := 2) (v := .int .u64 (lo (u))) (by first | with_reducible exact c1_1_2 | (simp [go_sem]; done) | (simp [go_sem, *]; done))
  clear hz2
  go_wp2_with fail
  have xc0 : (w2.alloc (.cells #[.int .i64 W, .int .u64 (hi (insI v y X u)), .int .u64 (lo (insI v y X u))] 25)).cell? ⟨w2.heap.size, 0, none⟩ = some (.int .i64 W) := by simp [go_sem]
  generalize hw3 : w2.alloc (.cells #[.int .i64 W, .int .u64 (hi (insI v y X u)), .int .u64 (lo (insI v y X u))] 25) = w3
  have hb3 : Fr w2 w3 := by rw [← hw3]; exact (Fr.refl _).alloc _
  have c3_0_0 : w3.cell? ⟨w.heap.size, 0, none⟩ = some (.int .i64 (W)) := by rw [← hw3]; simp [go_sem, c2_0_0, z2_0]
  have c3_0_1 : w3.cell? ⟨w.heap.size, 1, none⟩ = some (.int .u64 (hi (v))) := by rw [← hw3]; simp [go_sem, c2_0_1, z2_0]
  have c3_0_2 : w3.cell? ⟨w.heap.size, 2, none⟩ = some (.int .u64 (lo (v))) := by rw [← hw3]; simp [go_sem, c2_0_2, z2_0]
  have c3_1_0 : w3.cell? ⟨w.heap.size + 1, 0, none⟩ = some (.int .i64 (X)) := by rw [← hw3]; simp [go_sem, c2_1_0, z2_1]
  have c3_1_1 : w3.cell? ⟨w.heap.size + 1, 1, none⟩ = some (.int .u64 (hi (u))) := by rw [← hw3]; simp [go_sem, c2_1_1, z2_1]
  have c3_1_2 : w3.cell? ⟨w.heap.size + 1, 2, none⟩ = some (.int .u64 (lo (u))) := by rw [← hw3]; simp [go_sem, c2_1_2, z2_1]
  have c3_2_0 : w3.cell? ⟨w2.heap.size, 0, none⟩ = some (.int .i64 (W)) := by rw [← hw3]; simp [go_sem]
  have c3_2_1 : w3.cell? ⟨w2.heap.size, 1, none⟩ = some (.int .u64 (hi (insI v y X u))) := by rw [← hw3]; simp [go_sem]
  have c3_2_2 : w3.cell? ⟨w2.heap.size, 2, none⟩ = some (.int .u64 (lo (insI v y X u))) := by rw [← hw3]; simp [go_sem]
  have z3_0 : w.heap.size < w3.heap.size := lt_of_cell c3_0_0
  have z3_1 : w.heap.size + 1 < w3.heap.size := lt_of_cell c3_1_0
  have z3_2 : w2.heap.size < w3.heap.size := lt_of_cell c3_2_0
  clear hw3 xc0
  have xx3_0_0 := fun ex : Ext w3 => ex.get (b := w.heap.size) (o := 0) (v := .int .i64 (W)) c3_0_0
  have xx3_0_1 := fun ex : Ext w3 => ex.get (b := w.heap.size) (o := 1) (v := .int .u64 (hi (v))) c3_0_1
  have xx3_0_2 := fun ex : Ext w3 => ex.get (b := w.heap.size) (o := 2) (v := .int .u64 (lo (v))) c3_0_2
  have xx3_1_0 := fun ex : Ext w3 => ex.get (b := w.heap.size + 1) (o := 0) (v := .int .i64 (X)) c3_1_0
  have xx3_1_1 := fun ex : Ext w3 => ex.get (b := w.heap.size + 1) (o := 1) (v := .int .u64 (hi (u))) c3_1_1
  have xx3_1_2 := fun ex : Ext w3 => ex.get (b := w.heap.size + 1) (o := 2) (v := .int .u64 (lo (u))) c3_1_2
  have xx3_2_0 := fun ex : Ext w3 => ex.get (b := w2.heap.size) (o := 0) (v := .int .i64 (W)) c3_2_0
  have xx3_2_1 := fun ex : Ext w3 => ex.get (b := w2.heap.size) (o := 1) (v := .int .u64 (hi (insI v y X u))) c3_2_1
  have xx3_2_2 := fun ex : Ext w3 => ex.get (b := w2.heap.size) (o := 2) (v := .int .u64 (lo (insI v y X u))) c3_2_2
  refine wp_region_ext (by kernel_rfl) (by kernel_rfl) ?_
  repeat (go_big_quiet_step (first
    | (go_at_call 20; exact ext_of (take_mid _ _ _ _ _ HN.out KN.out y0 y1 _))))
  refine wpQuiet_nil ?_
  intro w4 hw4
  obtain ⟨y4, hy4⟩ := hw4
  have hb4 : Fr w3 w4 := by rw [hy4]; exact y4.fr
  clear hy4 y4
  have hz4 := hb4.size
  (try simp at hz4)
  have z4_0 : w.heap.size < w4.heap.size := (by omega)
  have c4_0_0 := hb4.get (b := w.heap.size) (o := 0) (v := .int .i64 (W)) (by first | with_reducible exact c3_0_0 | (simp [go_sem]; done) | (simp [go_sem, *]; done))
  have c4_0_1 := hb4.get (b := w.heap.size) (o := 1) (v := .int .u64 (hi (v))) (by first | with_reducible exact c3_0_1 | (simp [go_sem]; done) | (simp [go_sem, *]; done))
  have c4_0_2 := hb4.get (b := w.heap.size) (o := 2) (v := .int .u64 (lo (v))) (by first | with_reducible exact c3_0_2 | (simp [go_sem]; done) | (simp [go_sem, *]; done))
  have z4_1 : w.heap.size + 1 < w4.heap.size := (by omega)
  have c4_1_0 := hb4.get (b := w.heap.size + 1) (o := 0) (v := .int .i64 (X)) (by first | with_reducible exact c3_1_0 | (simp [go_sem]; done) | (simp [go_sem, *]; done))
  have c4_1_1 := hb4.get (b := w.heap.size + 1) (o := 1) (v := .int .u64 (hi (u))) (by first | with_reducible exact c3_1_1 | (simp [go_sem]; done) | (simp [go_sem, *]; done))
  have c4_1_2 := hb4.get (b := w.heap.size + 1) (o := 2) (v := .int .u64 (lo (u))) (by first | with_reducible exact c3_1_2 | (simp [go_sem]; done) | (simp [go_sem, *]; done))
  have z4_2 : w2.heap.size < w4.heap.size := (by omega)
  have c4_2_0 := hb4.get (b := w2.heap.size) (o := 0) (v := .int .i64 (W)) (by first | with_reducible exact c3_2_0 | (simp [go_sem]; done) | (simp [go_sem, *]; done))
  have c4_2_1 := hb4.get (b := w2.heap.size) (o := 1) (v := .int .u64 (hi (insI v y X u))) (by first | with_reducible exact c3_2_1 | (simp [go_sem]; done) | (simp [go_sem, *]; done))
  have c4_2_2 := hb4.get (b := w2.heap.size) (o := 2) (v := .int .u64 (lo (insI v y X u))) (by first | with_reducible exact c3_2_2 | (simp [go_sem]; done) | (simp [go_sem, *]; done))
  clear hz4
  go_wp2_with fail
  have xx4_0_0 := fun ex : Ext w4 => ex.get (b := w.heap.size) (o := 0) (v := .int .i64 (W)) c4_0_0
  have xx4_0_1 := fun ex : Ext w4 => ex.get (b := w.heap.size) (o := 1) (v := .int .u64 (hi (v))) c4_0_1
  have xx4_0_2 := fun ex : Ext w4 => ex.get (b := w.heap.size) (o := 2) (v := .int .u64 (lo (v))) c4_0_2
  have xx4_1_0 := fun ex : Ext w4 => ex.get (b := w.heap.size + 1) (o := 0) (v := .int .i64 (X)) c4_1_0
  have xx4_1_1 := fun ex : Ext w4 => ex.get (b := w.heap.size + 1) (o := 1) (v := .int .u64 (hi (u))) c4_1_1
  have xx4_1_2 := fun ex : Ext w4 => ex.get (b := w.heap.size + 1) (o := 2) (v := .int .u64 (lo (u))) c4_1_2
  have xx4_2_0 := fun ex : Ext w4 => ex.get (b := w2.heap.size) (o := 0) (v := .int .i64 (W)) c4_2_0
  have xx4_2_1 := fun ex : Ext w4 => ex.get (b := w2.heap.size) (o := 1) (v := .int .u64 (hi (insI v y X u))) c4_2_1
  have xx4_2_2 := fun ex : Ext w4 => ex.get (b := w2.heap.size) (o := 2) (v := .int .u64 (lo (insI v y X u))) c4_2_2
  refine wp_region_ext (by kernel_rfl) (by kernel_rfl) ?_
  repeat (go_big_quiet_step (first
    | (go_at_call 20; exact ext_of (take_mid _ _ _ _ _ HN.out KN.out y0 y1 _))))
  refine wpQuiet_nil ?_
  intro w5 hw5
  obtain ⟨y5, hy5⟩ := hw5
  have hb5 : Fr w4 w5 := by rw [hy5]; exact y5.fr
  clear hy5 y5
  go_wp2
  go_ret
  exact ⟨rfl, by repeat (first | with_reducible exact Fr.refl _ | with_reducible apply Fr.drewN | with_reducible apply Fr.drew | with_reducible apply Fr.alloc | (with_reducible refine Fr.set ?_ (by simp; try omega) _) | (with_reducible refine Fr.call ?_ (by assumption)))⟩
set_option maxRecDepth 100000 in
set_option maxHeartbeats 4000000 in
theorem back_0r (HA : AliveC) (W v X u y : Int) (h : Norm W v) (k : Norm X u) (y0 : 0 ≤ y) (y1 : y ≤ W - X) (c1 : (y == 0) = true) (c2 : (y + X == W) = false) (c4 : y + X < W) (w : World) :
    Calls Try.prog 9 #[bv W v, bv X u, .int .i64 y] w fun e w' => e = .returned (.bool true) ∧ Fr w w' := by
  have HA : Hid AliveC := Lib.hid HA
  have HN := Lib.hid h; have KN := Lib.hid k
  have HI := Lib.hid (ins_facts W v y X u h k y0 y1).lt
  obtain ⟨f1, f2⟩ := beq_hi (ins_facts W v y X u h k y0 y1).low
  obtain ⟨f3, f4⟩ := beq_hi (ins_facts W v y X u h k y0 y1).high
  have g3 := Lib.hid (ins_facts W v y X u h k y0 y1).low
  have g4 := Lib.hid (ins_facts W v y X u h k y0 y1).high
  have hw1 := h.1; have hw2 := h.2.1; have hx1 := k.1; have hx2 := k.2.1
  have d1 : IntKind.i64.wrap (y + X) = y + X := IntWalk.i64_in _ (by omega)
  have d2 : IntKind.i64.wrap (y + X - 1) = y + X - 1 := IntWalk.i64_in _ (by omega)
  have d3 : IntKind.i64.wrap (y - 1) = y - 1 := IntWalk.i64_in _ (by omega)
  have d4 : IntKind.i64.wrap (W - 1) = W - 1 := IntWalk.i64_in _ (by omega)
  have d5 : (W == 0) = false := beq_eq_false_iff_ne.2 (by omega)
  have d6 : (W != W) = false := by rw [bne_self_eq_false]
  have d7 : 0 ≤ y + X := by omega
  have d8 : y ≤ W := by omega
  clear h k
  go_enter Try.func9, Try.ntmps9
  go_wp2_with fail
  refine (HA.out _).mono ?_
  rintro e w1 ⟨rfl, hb1⟩
  have hz1 := hb1.size
  (try simp at hz1)
  have z1_0 : w.heap.size < w1.heap.size := (by omega)
  have c1_0_0 := hb1.get (b := w.heap.size) (o := 0) (v := .int .i64 (W)) (by first | (simp [go_sem]; done) | (simp [go_sem, *]; done))
  have c1_0_1 := hb1.get (b := w.heap.size) (o := 1) (v := .int .u64 (hi (v))) (by first | (simp [go_sem]; done) | (simp [go_sem, *]; done))
  have c1_0_2 := hb1.get (b := w.heap.size) (o := 2) (v := .int .u64 (lo (v))) (by first | (simp [go_sem]; done) | (simp [go_sem, *]; done))
  have z1_1 : w.heap.size + 1 < w1.heap.size := (by omega)
  have c1_1_0 := hb1.get (b := w.heap.size + 1) (o := 0) (v := .int .i64 (X)) (by first | (simp [go_sem]; done) | (simp [go_sem, *]; done))
  have c1_1_1 := hb1.get (b := w.heap.size + 1) (o := 1) (v := .int .u64 (hi (u))) (by first | (simp [go_sem]; done) | (simp [go_sem, *]; done))
  have c1_1_2 := hb1.get (b := w.heap.size + 1) (o := 2) (v := .int .u64 (lo (u))) (by first | (simp [go_sem]; done) | (simp [go_sem, *]; done))
  clear hz1
  go_wp2_with fail
  refine (ins_to _ _ _ _ _ HN.out KN.out y0 y1 _).mono ?_
  rintro e w2 ⟨rfl, hb2⟩
  have hz2 := hb2.size
  (try simp at hz2)
  have z2_0 : w.heap.size < w2.heap.size := (by omega)
  have c2_0_0 := hb2.get (b := w.heap.size) (o := 0) (v := .int .i64 (W)) (by first | with_reducible exact c1_0_0 | (simp [go_sem]; done) | (simp [go_sem, *]; done))
  have c2_0_1 := hb2.get (b := w.heap.size) (o := 1) (v := .int .u64 (hi (v))) (by first | with_reducible exact c1_0_1 | (simp [go_sem]; done) | (simp [go_sem, *]; done))
  have c2_0_2 := hb2.get (b := w.heap.size) (o := 2) (v := .int .u64 (lo (v))) (by first | with_reducible exact c1_0_2 | (simp [go_sem]; done) | (simp [go_sem, *]; done))
  have z2_1 : w.heap.size + 1 < w2.heap.size := (by omega)
  have c2_1_0 := hb2.get (b := w.heap.size + 1) (o := 0) (v := .int .i64 (X)) (by first | with_reducible exact c1_1_0 | (simp [go_sem]; done) | (simp [go_sem, *]; done))
  have c2_1_1 := hb2.get (b := w.heap.size + 1) (o := 1) (v := .int .u64 (hi (u))) (by first | with_reducible exact c1_1_1 | (simp [go_sem]; done) | (simp [go_sem, *]; done))
  have c2_1_2 := hb2.get (b := w.heap.size + 1) (o := 2) (v := .int .u64 (lo (u))) (by first | with_reducible exact c1_1_2 | (simp [go_sem]; done) | (simp [go_sem, *]; done))
  clear hz2
  go_wp2_with fail
  have xc0 : (w2.alloc (.cells #[.int .i64 W, .int .u64 (hi (insI v y X u)), .int .u64 (lo (insI v y X u))] 25)).cell? ⟨w2.heap.size, 0, none⟩ = some (.int .i64 W) := by simp [go_sem]
  generalize hw3 : w2.alloc (.cells #[.int .i64 W, .int .u64 (hi (insI v y X u)), .int .u64 (lo (insI v y X u))] 25) = w3
  have hb3 : Fr w2 w3 := by rw [← hw3]; exact (Fr.refl _).alloc _
  have c3_0_0 : w3.cell? ⟨w.heap.size, 0, none⟩ = some (.int .i64 (W)) := by rw [← hw3]; simp [go_sem, c2_0_0, z2_0]
  have c3_0_1 : w3.cell? ⟨w.heap.size, 1, none⟩ = some (.int .u64 (hi (v))) := by rw [← hw3]; simp [go_sem, c2_0_1, z2_0]
  have c3_0_2 : w3.cell? ⟨w.heap.size, 2, none⟩ = some (.int .u64 (lo (v))) := by rw [← hw3]; simp [go_sem, c2_0_2, z2_0]
  have c3_1_0 : w3.cell? ⟨w.heap.size + 1, 0, none⟩ = some (.int .i64 (X)) := by rw [← hw3]; simp [go_sem, c2_1_0, z2_1]
  have c3_1_1 : w3.cell? ⟨w.heap.size + 1, 1, none⟩ = some (.int .u64 (hi (u))) := by rw [← hw3]; simp [go_sem, c2_1_1, z2_1]
  have c3_1_2 : w3.cell? ⟨w.heap.size + 1, 2, none⟩ = some (.int .u64 (lo (u))) := by rw [← hw3]; simp [go_sem, c2_1_2, z2_1]
  have c3_2_0 : w3.cell? ⟨w2.heap.size, 0, none⟩ = some (.int .i64 (W)) := by rw [← hw3]; simp [go_sem]
  have c3_2_1 : w3.cell? ⟨w2.heap.size, 1, none⟩ = some (.int .u64 (hi (insI v y X u))) := by rw [← hw3]; simp [go_sem]
  have c3_2_2 : w3.cell? ⟨w2.heap.size, 2, none⟩ = some (.int .u64 (lo (insI v y X u))) := by rw [← hw3]; simp [go_sem]
  have z3_0 : w.heap.size < w3.heap.size := lt_of_cell c3_0_0
  have z3_1 : w.heap.size + 1 < w3.heap.size := lt_of_cell c3_1_0
  have z3_2 : w2.heap.size < w3.heap.size := lt_of_cell c3_2_0
  clear hw3 xc0
  have xx3_0_0 := fun ex : Ext w3 => ex.get (b := w.heap.size) (o := 0) (v := .int .i64 (W)) c3_0_0
  have xx3_0_1 := fun ex : Ext w3 => ex.get (b := w.heap.size) (o := 1) (v := .int .u64 (hi (v))) c3_0_1
  have xx3_0_2 := fun ex : Ext w3 => ex.get (b := w.heap.size) (o := 2) (v := .int .u64 (lo (v))) c3_0_2
  have xx3_1_0 := fun ex : Ext w3 => ex.get (b := w.heap.size + 1) (o := 0) (v := .int .i64 (X)) c3_1_0
  have xx3_1_1 := fun ex : Ext w3 => ex.get (b := w.heap.size + 1) (o := 1) (v := .int .u64 (hi (u))) c3_1_1
  have xx3_1_2 := fun ex : Ext w3 => ex.get (b := w.heap.size + 1) (o := 2) (v := .int .u64 (lo (u))) c3_1_2
  have xx3_2_0 := fun ex : Ext w3 => ex.get (b := w2.heap.size) (o := 0) (v := .int .i64 (W)) c3_2_0
  have xx3_2_1 := fun ex : Ext w3 => ex.get (b := w2.heap.size) (o := 1) (v := .int .u64 (hi (insI v y X u))) c3_2_1
  have xx3_2_2 := fun ex : Ext w3 => ex.get (b := w2.heap.size) (o := 2) (v := .int .u64 (lo (insI v y X u))) c3_2_2
  refine wp_region_ext (by kernel_rfl) (by kernel_rfl) ?_
  repeat (go_big_quiet_step (first
    | (go_at_call 20; exact ext_of (take_mid _ _ _ _ _ HN.out KN.out y0 y1 _))))
  refine wpQuiet_nil ?_
  intro w4 hw4
  obtain ⟨y4, hy4⟩ := hw4
  have hb4 : Fr w3 w4 := by rw [hy4]; exact y4.fr
  clear hy4 y4
  have hz4 := hb4.size
  (try simp at hz4)
  have z4_0 : w.heap.size < w4.heap.size := (by omega)
  have c4_0_0 := hb4.get (b := w.heap.size) (o := 0) (v := .int .i64 (W)) (by first | with_reducible exact c3_0_0 | (simp [go_sem]; done) | (simp [go_sem, *]; done))
  have c4_0_1 := hb4.get (b := w.heap.size) (o := 1) (v := .int .u64 (hi (v))) (by first | with_reducible exact c3_0_1 | (simp [go_sem]; done) | (simp [go_sem, *]; done))
  have c4_0_2 := hb4.get (b := w.heap.size) (o := 2) (v := .int .u64 (lo (v))) (by first | with_reducible exact c3_0_2 | (simp [go_sem]; done) | (simp [go_sem, *]; done))
  have z4_1 : w.heap.size + 1 < w4.heap.size := (by omega)
  have c4_1_0 := hb4.get (b := w.heap.size + 1) (o := 0) (v := .int .i64 (X)) (by first | with_reducible exact c3_1_0 | (simp [go_sem]; done) | (simp [go_sem, *]; done))
  have c4_1_1 := hb4.get (b := w.heap.size + 1) (o := 1) (v := .int .u64 (hi (u))) (by first | with_reducible exact c3_1_1 | (simp [go_sem]; done) | (simp [go_sem, *]; done))
  have c4_1_2 := hb4.get (b := w.heap.size + 1) (o := 2) (v := .int .u64 (lo (u))) (by first | with_reducible exact c3_1_2 | (simp [go_sem]; done) | (simp [go_sem, *]; done))
  have z4_2 : w2.heap.size < w4.heap.size := (by omega)
  have c4_2_0 := hb4.get (b := w2.heap.size) (o := 0) (v := .int .i64 (W)) (by first | with_reducible exact c3_2_0 | (simp [go_sem]; done) | (simp [go_sem, *]; done))
  have c4_2_1 := hb4.get (b := w2.heap.size) (o := 1) (v := .int .u64 (hi (insI v y X u))) (by first | with_reducible exact c3_2_1 | (simp [go_sem]; done) | (simp [go_sem, *]; done))
  have c4_2_2 := hb4.get (b := w2.heap.size) (o := 2) (v := .int .u64 (lo (insI v y X u))) (by first | with_reducible exact c3_2_2 | (simp [go_sem]; done) | (simp [go_sem, *]; done))
  clear hz4
  go_wp2_with fail
  have xx4_0_0 := fun ex : Ext w4 => ex.get (b := w.heap.size) (o := 0) (v := .int .i64 (W)) c4_0_0
  have xx4_0_1 := fun ex : Ext w4 => ex.get (b := w.heap.size) (o := 1) (v := .int .u64 (hi (v))) c4_0_1
  have xx4_0_2 := fun ex : Ext w4 => ex.get (b := w.heap.size) (o := 2) (v := .int .u64 (lo (v))) c4_0_2
  have xx4_1_0 := fun ex : Ext w4 => ex.get (b := w.heap.size + 1) (o := 0) (v := .int .i64 (X)) c4_1_0
  have xx4_1_1 := fun ex : Ext w4 => ex.get (b := w.heap.size + 1) (o := 1) (v := .int .u64 (hi (u))) c4_1_1
  have xx4_1_2 := fun ex : Ext w4 => ex.get (b := w.heap.size + 1) (o := 2) (v := .int .u64 (lo (u))) c4_1_2
  have xx4_2_0 := fun ex : Ext w4 => ex.get (b := w2.heap.size) (o := 0) (v := .int .i64 (W)) c4_2_0
  have xx4_2_1 := fun ex : Ext w4 => ex.get (b := w2.heap.size) (o := 1) (v := .int .u64 (hi (insI v y X u))) c4_2_1
  have xx4_2_2 := fun ex : Ext w4 => ex.get (b := w2.heap.size) (o := 2) (v := .int .u64 (lo (insI v y X u))) c4_2_2
  refine wp_region_ext (by kernel_rfl) (by kernel_rfl) ?_
  repeat (go_big_quiet_step (first
    | (go_at_call 20; with_reducible exact ext_of (take_high _ _ _ HI.out d7 c4 _))
    | (go_at_call 20; with_reducible exact ext_of (take_high _ _ _ HN.out d7 c4 _))))
  refine wpQuiet_nil ?_
  intro w5 hw5
  obtain ⟨y5, hy5⟩ := hw5
  have hb5 : Fr w4 w5 := by rw [hy5]; exact y5.fr
  clear hy5 y5
  go_wp2
  go_ret
  exact ⟨rfl, by repeat (first | with_reducible exact Fr.refl _ | with_reducible apply Fr.drewN | with_reducible apply Fr.drew | with_reducible apply Fr.alloc | (with_reducible refine Fr.set ?_ (by simp; try omega) _) | (with_reducible refine Fr.call ?_ (by assumption)))⟩
set_option maxRecDepth 100000 in
set_option maxHeartbeats 4000000 in
theorem back_yW (HA : AliveC) (W v X u y : Int) (h : Norm W v) (k : Norm X u) (y0 : 0 ≤ y) (y1 : y ≤ W - X) (c1 : (y == 0) = false) (c3 : 1 ≤ y) (c2 : (y + X == W) = true) (w : World) :
    Calls Try.prog 9 #[bv W v, bv X u, .int .i64 y] w fun e w' => e = .returned (.bool true) ∧ Fr w w' := by
  have HA : Hid AliveC := Lib.hid HA
  have HN := Lib.hid h; have KN := Lib.hid k
  have HI := Lib.hid (ins_facts W v y X u h k y0 y1).lt
  obtain ⟨f1, f2⟩ := beq_hi (ins_facts W v y X u h k y0 y1).low
  obtain ⟨f3, f4⟩ := beq_hi (ins_facts W v y X u h k y0 y1).high
  have g3 := Lib.hid (ins_facts W v y X u h k y0 y1).low
  have g4 := Lib.hid (ins_facts W v y X u h k y0 y1).high
  have hw1 := h.1; have hw2 := h.2.1; have hx1 := k.1; have hx2 := k.2.1
  have d1 : IntKind.i64.wrap (y + X) = y + X := IntWalk.i64_in _ (by omega)
  have d2 : IntKind.i64.wrap (y + X - 1) = y + X - 1 := IntWalk.i64_in _ (by omega)
  have d3 : IntKind.i64.wrap (y - 1) = y - 1 := IntWalk.i64_in _ (by omega)
  have d4 : IntKind.i64.wrap (W - 1) = W - 1 := IntWalk.i64_in _ (by omega)
  have d5 : (W == 0) = false := beq_eq_false_iff_ne.2 (by omega)
  have d6 : (W != W) = false := by rw [bne_self_eq_false]
  have d7 : 0 ≤ y + X := by omega
  have d8 : y ≤ W := by omega
  clear h k
  go_enter Try.func9, Try.ntmps9
  go_wp2_with fail
  refine (HA.out _).mono ?_
  rintro e w1 ⟨rfl, hb1⟩
  have hz1 := hb1.size
  (try simp at hz1)
  have z1_0 : w.heap.size < w1.heap.size := (by omega)
  have c1_0_0 := hb1.get (b := w.heap.size) (o := 0) (v := .int .i64 (W)) (by first | (simp [go_sem]; done) | (simp [go_sem, *]; done))
  have c1_0_1 := hb1.get (b := w.heap.size) (o := 1) (v := .int .u64 (hi (v))) (by first | (simp [go_sem]; done) | (simp [go_sem, *]; done))
  have c1_0_2 := hb1.get (b := w.heap.size) (o := 2) (v := .int .u64 (lo (v))) (by first | (simp [go_sem]; done) | (simp [go_sem, *]; done))
  have z1_1 : w.heap.size + 1 < w1.heap.size := (by omega)
  have c1_1_0 := hb1.get (b := w.heap.size + 1) (o := 0) (v := .int .i64 (X)) (by first | (simp [go_sem]; done) | (simp [go_sem, *]; done))
  have c1_1_1 := hb1.get (b := w.heap.size + 1) (o := 1) (v := .int .u64 (hi (u))) (by first | (simp [go_sem]; done) | (simp [go_sem, *]; done))
  have c1_1_2 := hb1.get (b := w.heap.size + 1) (o := 2) (v := .int .u64 (lo (u))) (by first | (simp [go_sem]; done) | (simp [go_sem, *]; done))
  clear hz1
  go_wp2_with fail
  refine (ins_to _ _ _ _ _ HN.out KN.out y0 y1 _).mono ?_
  rintro e w2 ⟨rfl, hb2⟩
  have hz2 := hb2.size
  (try simp at hz2)
  have z2_0 : w.heap.size < w2.heap.size := (by omega)
  have c2_0_0 := hb2.get (b := w.heap.size) (o := 0) (v := .int .i64 (W)) (by first | with_reducible exact c1_0_0 | (simp [go_sem]; done) | (simp [go_sem, *]; done))
  have c2_0_1 := hb2.get (b := w.heap.size) (o := 1) (v := .int .u64 (hi (v))) (by first | with_reducible exact c1_0_1 | (simp [go_sem]; done) | (simp [go_sem, *]; done))
  have c2_0_2 := hb2.get (b := w.heap.size) (o := 2) (v := .int .u64 (lo (v))) (by first | with_reducible exact c1_0_2 | (simp [go_sem]; done) | (simp [go_sem, *]; done))
  have z2_1 : w.heap.size + 1 < w2.heap.size := (by omega)
  have c2_1_0 := hb2.get (b := w.heap.size + 1) (o := 0) (v := .int .i64 (X)) (by first | with_reducible exact c1_1_0 | (simp [go_sem]; done) | (simp [go_sem, *]; done))
  have c2_1_1 := hb2.get (b := w.heap.size + 1) (o := 1) (v := .int .u64 (hi (u))) (by first | with_reducible exact c1_1_1 | (simp [go_sem]; done) | (simp [go_sem, *]; done))
  have c2_1_2 := hb2.get (b := w.heap.size + 1) (o := 2) (v := .int .u64 (lo (u))) (by first | with_reducible exact c1_1_2 | (simp [go_sem]; done) | (simp [go_sem, *]; done))
  clear hz2
  go_wp2_with fail
  have xc0 : (w2.alloc (.cells #[.int .i64 W, .int .u64 (hi (insI v y X u)), .int .u64 (lo (insI v y X u))] 25)).cell? ⟨w2.heap.size, 0, none⟩ = some (.int .i64 W) := by simp [go_sem]
  generalize hw3 : w2.alloc (.cells #[.int .i64 W, .int .u64 (hi (insI v y X u)), .int .u64 (lo (insI v y X u))] 25) = w3
  have hb3 : Fr w2 w3 := by rw [← hw3]; exact (Fr.refl _).alloc _
  have c3_0_0 : w3.cell? ⟨w.heap.size, 0, none⟩ = some (.int .i64 (W)) := by rw [← hw3]; simp [go_sem, c2_0_0, z2_0]
  have c3_0_1 : w3.cell? ⟨w.heap.size, 1, none⟩ = some (.int .u64 (hi (v))) := by rw [← hw3]; simp [go_sem, c2_0_1, z2_0]
  have c3_0_2 : w3.cell? ⟨w.heap.size, 2, none⟩ = some (.int .u64 (lo (v))) := by rw [← hw3]; simp [go_sem, c2_0_2, z2_0]
  have c3_1_0 : w3.cell? ⟨w.heap.size + 1, 0, none⟩ = some (.int .i64 (X)) := by rw [← hw3]; simp [go_sem, c2_1_0, z2_1]
  have c3_1_1 : w3.cell? ⟨w.heap.size + 1, 1, none⟩ = some (.int .u64 (hi (u))) := by rw [← hw3]; simp [go_sem, c2_1_1, z2_1]
  have c3_1_2 : w3.cell? ⟨w.heap.size + 1, 2, none⟩ = some (.int .u64 (lo (u))) := by rw [← hw3]; simp [go_sem, c2_1_2, z2_1]
  have c3_2_0 : w3.cell? ⟨w2.heap.size, 0, none⟩ = some (.int .i64 (W)) := by rw [← hw3]; simp [go_sem]
  have c3_2_1 : w3.cell? ⟨w2.heap.size, 1, none⟩ = some (.int .u64 (hi (insI v y X u))) := by rw [← hw3]; simp [go_sem]
  have c3_2_2 : w3.cell? ⟨w2.heap.size, 2, none⟩ = some (.int .u64 (lo (insI v y X u))) := by rw [← hw3]; simp [go_sem]
  have z3_0 : w.heap.size < w3.heap.size := lt_of_cell c3_0_0
  have z3_1 : w.heap.size + 1 < w3.heap.size := lt_of_cell c3_1_0
  have z3_2 : w2.heap.size < w3.heap.size := lt_of_cell c3_2_0
  clear hw3 xc0
  have xx3_0_0 := fun ex : Ext w3 => ex.get (b := w.heap.size) (o := 0) (v := .int .i64 (W)) c3_0_0
  have xx3_0_1 := fun ex : Ext w3 => ex.get (b := w.heap.size) (o := 1) (v := .int .u64 (hi (v))) c3_0_1
  have xx3_0_2 := fun ex : Ext w3 => ex.get (b := w.heap.size) (o := 2) (v := .int .u64 (lo (v))) c3_0_2
  have xx3_1_0 := fun ex : Ext w3 => ex.get (b := w.heap.size + 1) (o := 0) (v := .int .i64 (X)) c3_1_0
  have xx3_1_1 := fun ex : Ext w3 => ex.get (b := w.heap.size + 1) (o := 1) (v := .int .u64 (hi (u))) c3_1_1
  have xx3_1_2 := fun ex : Ext w3 => ex.get (b := w.heap.size + 1) (o := 2) (v := .int .u64 (lo (u))) c3_1_2
  have xx3_2_0 := fun ex : Ext w3 => ex.get (b := w2.heap.size) (o := 0) (v := .int .i64 (W)) c3_2_0
  have xx3_2_1 := fun ex : Ext w3 => ex.get (b := w2.heap.size) (o := 1) (v := .int .u64 (hi (insI v y X u))) c3_2_1
  have xx3_2_2 := fun ex : Ext w3 => ex.get (b := w2.heap.size) (o := 2) (v := .int .u64 (lo (insI v y X u))) c3_2_2
  refine wp_region_ext (by kernel_rfl) (by kernel_rfl) ?_
  repeat (go_big_quiet_step (first
    | (go_at_call 20; exact ext_of (take_mid _ _ _ _ _ HN.out KN.out y0 y1 _))))
  refine wpQuiet_nil ?_
  intro w4 hw4
  obtain ⟨y4, hy4⟩ := hw4
  have hb4 : Fr w3 w4 := by rw [hy4]; exact y4.fr
  clear hy4 y4
  have hz4 := hb4.size
  (try simp at hz4)
  have z4_0 : w.heap.size < w4.heap.size := (by omega)
  have c4_0_0 := hb4.get (b := w.heap.size) (o := 0) (v := .int .i64 (W)) (by first | with_reducible exact c3_0_0 | (simp [go_sem]; done) | (simp [go_sem, *]; done))
  have c4_0_1 := hb4.get (b := w.heap.size) (o := 1) (v := .int .u64 (hi (v))) (by first | with_reducible exact c3_0_1 | (simp [go_sem]; done) | (simp [go_sem, *]; done))
  have c4_0_2 := hb4.get (b := w.heap.size) (o := 2) (v := .int .u64 (lo (v))) (by first | with_reducible exact c3_0_2 | (simp [go_sem]; done) | (simp [go_sem, *]; done))
  have z4_1 : w.heap.size + 1 < w4.heap.size := (by omega)
  have c4_1_0 := hb4.get (b := w.heap.size + 1) (o := 0) (v := .int .i64 (X)) (by first | with_reducible exact c3_1_0 | (simp [go_sem]; done) | (simp [go_sem, *]; done))
  have c4_1_1 := hb4.get (b := w.heap.size + 1) (o := 1) (v := .int .u64 (hi (u))) (by first | with_reducible exact c3_1_1 | (simp [go_sem]; done) | (simp [go_sem, *]; done))
  have c4_1_2 := hb4.get (b := w.heap.size + 1) (o := 2) (v := .int .u64 (lo (u))) (by first | with_reducible exact c3_1_2 | (simp [go_sem]; done) | (simp [go_sem, *]; done))
  have z4_2 : w2.heap.size < w4.heap.size := (by omega)
  have c4_2_0 := hb4.get (b := w2.heap.size) (o := 0) (v := .int .i64 (W)) (by first | with_reducible exact c3_2_0 | (simp [go_sem]; done) | (simp [go_sem, *]; done))
  have c4_2_1 := hb4.get (b := w2.heap.size) (o := 1) (v := .int .u64 (hi (insI v y X u))) (by first | with_reducible exact c3_2_1 | (simp [go_sem]; done) | (simp [go_sem, *]; done))
  have c4_2_2 := hb4.get (b := w2.heap.size) (o := 2) (v := .int .u64 (lo (insI v y X u))) (by first | with_reducible exact c3_2_2 | (simp [go_sem]; done) | (simp [go_sem, *]; done))
  clear hz4
  go_wp2_with fail
  have xx4_0_0 := fun ex : Ext w4 => ex.get (b := w.heap.size) (o := 0) (v := .int .i64 (W)) c4_0_0
  have xx4_0_1 := fun ex : Ext w4 => ex.get (b := w.heap.size) (o := 1) (v := .int .u64 (hi (v))) c4_0_1
  have xx4_0_2 := fun ex : Ext w4 => ex.get (b := w.heap.size) (o := 2) (v := .int .u64 (lo (v))) c4_0_2
  have xx4_1_0 := fun ex : Ext w4 => ex.get (b := w.heap.size + 1) (o := 0) (v := .int .i64 (X)) c4_1_0
  have xx4_1_1 := fun ex : Ext w4 => ex.get (b := w.heap.size + 1) (o := 1) (v := .int .u64 (hi (u))) c4_1_1
  have xx4_1_2 := fun ex : Ext w4 => ex.get (b := w.heap.size + 1) (o := 2) (v := .int .u64 (lo (u))) c4_1_2
  have xx4_2_0 := fun ex : Ext w4 => ex.get (b := w2.heap.size) (o := 0) (v := .int .i64 (W)) c4_2_0
  have xx4_2_1 := fun ex : Ext w4 => ex.get (b := w2.heap.size) (o := 1) (v := .int .u64 (hi (insI v y X u))) c4_2_1
  have xx4_2_2 := fun ex : Ext w4 => ex.get (b := w2.heap.size) (o := 2) (v := .int .u64 (lo (insI v y X u))) c4_2_2
  refine wp_region_ext (by kernel_rfl) (by kernel_rfl) ?_
  repeat (go_big_quiet_step (first
    | (go_at_call 20; with_reducible exact ext_of (take_low _ _ _ HI.out c3 d8 _))
    | (go_at_call 20; with_reducible exact ext_of (take_low _ _ _ HN.out c3 d8 _))))
  refine wpQuiet_nil ?_
  intro w5 hw5
  obtain ⟨y5, hy5⟩ := hw5
  have hb5 : Fr w4 w5 := by rw [hy5]; exact y5.fr
  clear hy5 y5
  go_wp2
  go_ret
  exact ⟨rfl, by repeat (first | with_reducible exact Fr.refl _ | with_reducible apply Fr.drewN | with_reducible apply Fr.drew | with_reducible apply Fr.alloc | (with_reducible refine Fr.set ?_ (by simp; try omega) _) | (with_reducible refine Fr.call ?_ (by assumption)))⟩
set_option maxRecDepth 100000 in
set_option maxHeartbeats 4000000 in
theorem back_yr (HA : AliveC) (W v X u y : Int) (h : Norm W v) (k : Norm X u) (y0 : 0 ≤ y) (y1 : y ≤ W - X) (c1 : (y == 0) = false) (c3 : 1 ≤ y) (c2 : (y + X == W) = false) (c4 : y + X < W) (w : World) :
    Calls Try.prog 9 #[bv W v, bv X u, .int .i64 y] w fun e w' => e = .returned (.bool true) ∧ Fr w w' := by
  have HA : Hid AliveC := Lib.hid HA
  have HN := Lib.hid h; have KN := Lib.hid k
  have HI := Lib.hid (ins_facts W v y X u h k y0 y1).lt
  obtain ⟨f1, f2⟩ := beq_hi (ins_facts W v y X u h k y0 y1).low
  obtain ⟨f3, f4⟩ := beq_hi (ins_facts W v y X u h k y0 y1).high
  have g3 := Lib.hid (ins_facts W v y X u h k y0 y1).low
  have g4 := Lib.hid (ins_facts W v y X u h k y0 y1).high
  have hw1 := h.1; have hw2 := h.2.1; have hx1 := k.1; have hx2 := k.2.1
  have d1 : IntKind.i64.wrap (y + X) = y + X := IntWalk.i64_in _ (by omega)
  have d2 : IntKind.i64.wrap (y + X - 1) = y + X - 1 := IntWalk.i64_in _ (by omega)
  have d3 : IntKind.i64.wrap (y - 1) = y - 1 := IntWalk.i64_in _ (by omega)
  have d4 : IntKind.i64.wrap (W - 1) = W - 1 := IntWalk.i64_in _ (by omega)
  have d5 : (W == 0) = false := beq_eq_false_iff_ne.2 (by omega)
  have d6 : (W != W) = false := by rw [bne_self_eq_false]
  have d7 : 0 ≤ y + X := by omega
  have d8 : y ≤ W := by omega
  clear h k
  go_enter Try.func9, Try.ntmps9
  go_wp2_with fail
  refine (HA.out _).mono ?_
  rintro e w1 ⟨rfl, hb1⟩
  have hz1 := hb1.size
  (try simp at hz1)
  have z1_0 : w.heap.size < w1.heap.size := (by omega)
  have c1_0_0 := hb1.get (b := w.heap.size) (o := 0) (v := .int .i64 (W)) (by first | (simp [go_sem]; done) | (simp [go_sem, *]; done))
  have c1_0_1 := hb1.get (b := w.heap.size) (o := 1) (v := .int .u64 (hi (v))) (by first | (simp [go_sem]; done) | (simp [go_sem, *]; done))
  have c1_0_2 := hb1.get (b := w.heap.size) (o := 2) (v := .int .u64 (lo (v))) (by first | (simp [go_sem]; done) | (simp [go_sem, *]; done))
  have z1_1 : w.heap.size + 1 < w1.heap.size := (by omega)
  have c1_1_0 := hb1.get (b := w.heap.size + 1) (o := 0) (v := .int .i64 (X)) (by first | (simp [go_sem]; done) | (simp [go_sem, *]; done))
  have c1_1_1 := hb1.get (b := w.heap.size + 1) (o := 1) (v := .int .u64 (hi (u))) (by first | (simp [go_sem]; done) | (simp [go_sem, *]; done))
  have c1_1_2 := hb1.get (b := w.heap.size + 1) (o := 2) (v := .int .u64 (lo (u))) (by first | (simp [go_sem]; done) | (simp [go_sem, *]; done))
  clear hz1
  go_wp2_with fail
  refine (ins_to _ _ _ _ _ HN.out KN.out y0 y1 _).mono ?_
  rintro e w2 ⟨rfl, hb2⟩
  have hz2 := hb2.size
  (try simp at hz2)
  have z2_0 : w.heap.size < w2.heap.size := (by omega)
  have c2_0_0 := hb2.get (b := w.heap.size) (o := 0) (v := .int .i64 (W)) (by first | with_reducible exact c1_0_0 | (simp [go_sem]; done) | (simp [go_sem, *]; done))
  have c2_0_1 := hb2.get (b := w.heap.size) (o := 1) (v := .int .u64 (hi (v))) (by first | with_reducible exact c1_0_1 | (simp [go_sem]; done) | (simp [go_sem, *]; done))
  have c2_0_2 := hb2.get (b := w.heap.size) (o := 2) (v := .int .u64 (lo (v))) (by first | with_reducible exact c1_0_2 | (simp [go_sem]; done) | (simp [go_sem, *]; done))
  have z2_1 : w.heap.size + 1 < w2.heap.size := (by omega)
  have c2_1_0 := hb2.get (b := w.heap.size + 1) (o := 0) (v := .int .i64 (X)) (by first | with_reducible exact c1_1_0 | (simp [go_sem]; done) | (simp [go_sem, *]; done))
  have c2_1_1 := hb2.get (b := w.heap.size + 1) (o := 1) (v := .int .u64 (hi (u))) (by first | with_reducible exact c1_1_1 | (simp [go_sem]; done) | (simp [go_sem, *]; done))
  have c2_1_2 := hb2.get (b := w.heap.size + 1) (o := 2) (v := .int .u64 (lo (u))) (by first | with_reducible exact c1_1_2 | (simp [go_sem]; done) | (simp [go_sem, *]; done))
  clear hz2
  go_wp2_with fail
  have xc0 : (w2.alloc (.cells #[.int .i64 W, .int .u64 (hi (insI v y X u)), .int .u64 (lo (insI v y X u))] 25)).cell? ⟨w2.heap.size, 0, none⟩ = some (.int .i64 W) := by simp [go_sem]
  generalize hw3 : w2.alloc (.cells #[.int .i64 W, .int .u64 (hi (insI v y X u)), .int .u64 (lo (insI v y X u))] 25) = w3
  have hb3 : Fr w2 w3 := by rw [← hw3]; exact (Fr.refl _).alloc _
  have c3_0_0 : w3.cell? ⟨w.heap.size, 0, none⟩ = some (.int .i64 (W)) := by rw [← hw3]; simp [go_sem, c2_0_0, z2_0]
  have c3_0_1 : w3.cell? ⟨w.heap.size, 1, none⟩ = some (.int .u64 (hi (v))) := by rw [← hw3]; simp [go_sem, c2_0_1, z2_0]
  have c3_0_2 : w3.cell? ⟨w.heap.size, 2, none⟩ = some (.int .u64 (lo (v))) := by rw [← hw3]; simp [go_sem, c2_0_2, z2_0]
  have c3_1_0 : w3.cell? ⟨w.heap.size + 1, 0, none⟩ = some (.int .i64 (X)) := by rw [← hw3]; simp [go_sem, c2_1_0, z2_1]
  have c3_1_1 : w3.cell? ⟨w.heap.size + 1, 1, none⟩ = some (.int .u64 (hi (u))) := by rw [← hw3]; simp [go_sem, c2_1_1, z2_1]
  have c3_1_2 : w3.cell? ⟨w.heap.size + 1, 2, none⟩ = some (.int .u64 (lo (u))) := by rw [← hw3]; simp [go_sem, c2_1_2, z2_1]
  have c3_2_0 : w3.cell? ⟨w2.heap.size, 0, none⟩ = some (.int .i64 (W)) := by rw [← hw3]; simp [go_sem]
  have c3_2_1 : w3.cell? ⟨w2.heap.size, 1, none⟩ = some (.int .u64 (hi (insI v y X u))) := by rw [← hw3]; simp [go_sem]
  have c3_2_2 : w3.cell? ⟨w2.heap.size, 2, none⟩ = some (.int .u64 (lo (insI v y X u))) := by rw [← hw3]; simp [go_sem]
  have z3_0 : w.heap.size < w3.heap.size := lt_of_cell c3_0_0
  have z3_1 : w.heap.size + 1 < w3.heap.size := lt_of_cell c3_1_0
  have z3_2 : w2.heap.size < w3.heap.size := lt_of_cell c3_2_0
  clear hw3 xc0
  have xx3_0_0 := fun ex : Ext w3 => ex.get (b := w.heap.size) (o := 0) (v := .int .i64 (W)) c3_0_0
  have xx3_0_1 := fun ex : Ext w3 => ex.get (b := w.heap.size) (o := 1) (v := .int .u64 (hi (v))) c3_0_1
  have xx3_0_2 := fun ex : Ext w3 => ex.get (b := w.heap.size) (o := 2) (v := .int .u64 (lo (v))) c3_0_2
  have xx3_1_0 := fun ex : Ext w3 => ex.get (b := w.heap.size + 1) (o := 0) (v := .int .i64 (X)) c3_1_0
  have xx3_1_1 := fun ex : Ext w3 => ex.get (b := w.heap.size + 1) (o := 1) (v := .int .u64 (hi (u))) c3_1_1
  have xx3_1_2 := fun ex : Ext w3 => ex.get (b := w.heap.size + 1) (o := 2) (v := .int .u64 (lo (u))) c3_1_2
  have xx3_2_0 := fun ex : Ext w3 => ex.get (b := w2.heap.size) (o := 0) (v := .int .i64 (W)) c3_2_0
  have xx3_2_1 := fun ex : Ext w3 => ex.get (b := w2.heap.size) (o := 1) (v := .int .u64 (hi (insI v y X u))) c3_2_1
  have xx3_2_2 := fun ex : Ext w3 => ex.get (b := w2.heap.size) (o := 2) (v := .int .u64 (lo (insI v y X u))) c3_2_2
  refine wp_region_ext (by kernel_rfl) (by kernel_rfl) ?_
  repeat (go_big_quiet_step (first
    | (go_at_call 20; exact ext_of (take_mid _ _ _ _ _ HN.out KN.out y0 y1 _))))
  refine wpQuiet_nil ?_
  intro w4 hw4
  obtain ⟨y4, hy4⟩ := hw4
  have hb4 : Fr w3 w4 := by rw [hy4]; exact y4.fr
  clear hy4 y4
  have hz4 := hb4.size
  (try simp at hz4)
  have z4_0 : w.heap.size < w4.heap.size := (by omega)
  have c4_0_0 := hb4.get (b := w.heap.size) (o := 0) (v := .int .i64 (W)) (by first | with_reducible exact c3_0_0 | (simp [go_sem]; done) | (simp [go_sem, *]; done))
  have c4_0_1 := hb4.get (b := w.heap.size) (o := 1) (v := .int .u64 (hi (v))) (by first | with_reducible exact c3_0_1 | (simp [go_sem]; done) | (simp [go_sem, *]; done))
  have c4_0_2 := hb4.get (b := w.heap.size) (o := 2) (v := .int .u64 (lo (v))) (by first | with_reducible exact c3_0_2 | (simp [go_sem]; done) | (simp [go_sem, *]; done))
  have z4_1 : w.heap.size + 1 < w4.heap.size := (by omega)
  have c4_1_0 := hb4.get (b := w.heap.size + 1) (o := 0) (v := .int .i64 (X)) (by first | with_reducible exact c3_1_0 | (simp [go_sem]; done) | (simp [go_sem, *]; done))
  have c4_1_1 := hb4.get (b := w.heap.size + 1) (o := 1) (v := .int .u64 (hi (u))) (by first | with_reducible exact c3_1_1 | (simp [go_sem]; done) | (simp [go_sem, *]; done))
  have c4_1_2 := hb4.get (b := w.heap.size + 1) (o := 2) (v := .int .u64 (lo (u))) (by first | with_reducible exact c3_1_2 | (simp [go_sem]; done) | (simp [go_sem, *]; done))
  have z4_2 : w2.heap.size < w4.heap.size := (by omega)
  have c4_2_0 := hb4.get (b := w2.heap.size) (o := 0) (v := .int .i64 (W)) (by first | with_reducible exact c3_2_0 | (simp [go_sem]; done) | (simp [go_sem, *]; done))
  have c4_2_1 := hb4.get (b := w2.heap.size) (o := 1) (v := .int .u64 (hi (insI v y X u))) (by first | with_reducible exact c3_2_1 | (simp [go_sem]; done) | (simp [go_sem, *]; done))
  have c4_2_2 := hb4.get (b := w2.heap.size) (o := 2) (v := .int .u64 (lo (insI v y X u))) (by first | with_reducible exact c3_2_2 | (simp [go_sem]; done) | (simp [go_sem, *]; done))
  clear hz4
  go_wp2_with fail
  have xx4_0_0 := fun ex : Ext w4 => ex.get (b := w.heap.size) (o := 0) (v := .int .i64 (W)) c4_0_0
  have xx4_0_1 := fun ex : Ext w4 => ex.get (b := w.heap.size) (o := 1) (v := .int .u64 (hi (v))) c4_0_1
  have xx4_0_2 := fun ex : Ext w4 => ex.get (b := w.heap.size) (o := 2) (v := .int .u64 (lo (v))) c4_0_2
  have xx4_1_0 := fun ex : Ext w4 => ex.get (b := w.heap.size + 1) (o := 0) (v := .int .i64 (X)) c4_1_0
  have xx4_1_1 := fun ex : Ext w4 => ex.get (b := w.heap.size + 1) (o := 1) (v := .int .u64 (hi (u))) c4_1_1
  have xx4_1_2 := fun ex : Ext w4 => ex.get (b := w.heap.size + 1) (o := 2) (v := .int .u64 (lo (u))) c4_1_2
  have xx4_2_0 := fun ex : Ext w4 => ex.get (b := w2.heap.size) (o := 0) (v := .int .i64 (W)) c4_2_0
  have xx4_2_1 := fun ex : Ext w4 => ex.get (b := w2.heap.size) (o := 1) (v := .int .u64 (hi (insI v y X u))) c4_2_1
  have xx4_2_2 := fun ex : Ext w4 => ex.get (b := w2.heap.size) (o := 2) (v := .int .u64 (lo (insI v y X u))) c4_2_2
  refine wp_region_ext (by kernel_rfl) (by kernel_rfl) ?_
  repeat (go_big_quiet_step (first
    | (go_at_call 20; with_reducible exact ext_of (take_low _ _ _ HI.out c3 d8 _))
    | (go_at_call 20; with_reducible exact ext_of (take_low _ _ _ HN.out c3 d8 _))
    | (go_at_call 20; with_reducible exact ext_of (take_high _ _ _ HI.out d7 c4 _))
    | (go_at_call 20; with_reducible exact ext_of (take_high _ _ _ HN.out d7 c4 _))))
  refine wpQuiet_nil ?_
  intro w5 hw5
  obtain ⟨y5, hy5⟩ := hw5
  have hb5 : Fr w4 w5 := by rw [hy5]; exact y5.fr
  clear hy5 y5
  go_wp2
  go_ret
  exact ⟨rfl, by repeat (first | with_reducible exact Fr.refl _ | with_reducible apply Fr.drewN | with_reducible apply Fr.drew | with_reducible apply Fr.alloc | (with_reducible refine Fr.set ?_ (by simp; try omega) _) | (with_reducible refine Fr.call ?_ (by assumption)))⟩
end Go.Proofs.Ytpibkhkhbjeoiaa
