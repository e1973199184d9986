/- Contracts of the smallest functions of package bvec on 128-bit numbers (wide): no condition but that words are words. -/
import Derived.Test.YtglgbhlnfafhjaaRows
import Derived.Test.YtglgbhlnfafhjaaShelf
import Derived.Test.YtglgbhlnfafhjaaNum
import Derived.WalkSpells
import Derived.WalkLawsBesides
import Derived.Laws.Externs
import Derived.Deep.RegionHeld3
import Derived.Lib.Hide
import Derived.Shelf.Spec.BitsCarry
namespace Go.Proofs.Ytglgbhlnfafhjaa
open Go.RowKit

/-! math/bits.Add64 and Sub64 over integers. -/
theorem add64 (x y c : Int) (hx : 0 ≤ x) (hy : 0 ≤ y) (hc0 : 0 ≤ c) (hc : c ≤ 1) (w : World) : (callFunc 53 #[.int .u64 x, .int .u64 y, .int .u64 c]).run Try.prog w =
    .ok (.value (.tuple #[.int .u64 ((x + y + c) % 18446744073709551616), .int .u64 ((x + y + c) / 18446744073709551616)])) w := by
  rw [run_callFunc_extern Try.func53 (by kernel_rfl) (by kernel_rfl) (by kernel_rfl) (e := add64Entry) (by kernel_rfl), run_add64 x y c hx hy hc0 hc]
  rfl
theorem sub64 (x y b : Int) (hx : 0 ≤ x) (hy : 0 ≤ y) (hy' : y < 18446744073709551616) (hb0 : 0 ≤ b) (hb : b ≤ 1) (w : World) : (callFunc 54 #[.int .u64 x, .int .u64 y, .int .u64 b]).run Try.prog w =
    .ok (.value (.tuple #[.int .u64 ((x - y - b) % 18446744073709551616), .int .u64 (if x < y + b then 1 else 0)])) w := by
  obtain ⟨x, rfl⟩ := Int.eq_ofNat_of_zero_le hx
  obtain ⟨y, rfl⟩ := Int.eq_ofNat_of_zero_le hy
  obtain ⟨b, rfl⟩ := Int.eq_ofNat_of_zero_le hb0
  have e1 : (((x + 18446744073709551616 - y - b) % 18446744073709551616 : Nat) : Int) = ((x : Int) - y - b) % 18446744073709551616 := by omega
  have e2 : ((if x < y + b then 1 else 0 : Nat) : Int) = if (x : Int) < y + b then 1 else 0 := by split <;> split <;> omega
  rw [← e1, ← e2]
  rw [run_callFunc_extern Try.func54 (by kernel_rfl) (by kernel_rfl) (by kernel_rfl) (e := sub64Entry) (by kernel_rfl), run_sub64 x y b (by omega)]
  rfl
theorem add64_0 (x y : Int) (hx : 0 ≤ x) (hy : 0 ≤ y) (w : World) : (callFunc 53 #[.int .u64 x, .int .u64 y, .int .u64 0]).run Try.prog w =
    .ok (.value (.tuple #[.int .u64 ((x + y) % 18446744073709551616), .int .u64 ((x + y) / 18446744073709551616)])) w := by
  simpa using add64 x y 0 hx hy (Int.le_refl 0) (by decide) w
theorem sub64_0 (x y : Int) (hx : 0 ≤ x) (hy : 0 ≤ y) (hy' : y < 18446744073709551616) (w : World) : (callFunc 54 #[.int .u64 x, .int .u64 y, .int .u64 0]).run Try.prog w =
    .ok (.value (.tuple #[.int .u64 ((x - y) % 18446744073709551616), .int .u64 (bor x y)])) w := by
  simpa [bor] using sub64 x y 0 hx hy hy' (Int.le_refl 0) (by decide) w
theorem sub64_1 (x y b : Int) (hx : 0 ≤ x) (hy : 0 ≤ y) (hy' : y < 18446744073709551616) (hb0 : 0 ≤ b) (hb : b ≤ 1) (w : World) : (callFunc 54 #[.int .u64 x, .int .u64 y, .int .u64 b]).run Try.prog w =
    .ok (.value (.tuple #[.int .u64 ((x - y - b) % 18446744073709551616), .int .u64 (bor x (y + b))])) w := sub64 x y b hx hy hy' hb0 hb w
theorem bor_01 (x y : Int) : 0 ≤ bor x y ∧ bor x y ≤ 1 := by unfold bor; split <;> decide

/-! and, or, xor, not -/
theorem wand_any (a b : Int) (w : World) :
    Calls Try.prog 40 #[wv a, wv b] w fun e w' => e = .returned (wv (landI a b)) ∧ Fr w w' := by
  go_enter Try.func40, Try.ntmps40
  go_wp2
  exact bodyPost_ret (v := wv (landI a b)) (by simp [results, Try.results40, go_sem, hi_and, lo_and]) rfl ⟨rfl, by repeat (first | exact Fr.refl _ | apply Fr.alloc)⟩
theorem wor_any (a b : Int) (w : World) :
    Calls Try.prog 37 #[wv a, wv b] w fun e w' => e = .returned (wv (lorI a b)) ∧ Fr w w' := by
  go_enter Try.func37, Try.ntmps37
  go_wp2
  exact bodyPost_ret (v := wv (lorI a b)) (by simp [results, Try.results37, go_sem, hi_or, lo_or]) rfl ⟨rfl, by repeat (first | exact Fr.refl _ | apply Fr.alloc)⟩
theorem wxor_any (a b : Int) (w : World) :
    Calls Try.prog 44 #[wv a, wv b] w fun e w' => e = .returned (wv (lxorI a b)) ∧ Fr w w' := by
  go_enter Try.func44, Try.ntmps44
  go_wp2
  exact bodyPost_ret (v := wv (lxorI a b)) (by simp [results, Try.results44, go_sem, hi_xor, lo_xor]) rfl ⟨rfl, by repeat (first | exact Fr.refl _ | apply Fr.alloc)⟩
theorem wnot_any (a : Int) (w : World) :
    Calls Try.prog 39 #[wv a] w fun e w' => e = .returned (wv (-1 - a)) ∧ Fr w w' := by
  go_enter Try.func39, Try.ntmps39
  go_wp2
  exact bodyPost_ret (v := wv (-1 - a)) (by simp [results, Try.results39, go_sem, bits_not _ (hi_word a), bits_not _ (lo_word a), hi_not, lo_not]) rfl ⟨rfl, by repeat (first | exact Fr.refl _ | apply Fr.alloc)⟩
/-! add, sub, neg -/
theorem wadd_any (a b : Int) (w : World) :
    Calls Try.prog 41 #[wv a, wv b] w fun e w' => e = .returned (wv (a + b)) ∧ Fr w w' := by
  obtain ⟨a1, a2⟩ := hi_word a; obtain ⟨b1, b2⟩ := lo_word a; obtain ⟨c1, c2⟩ := hi_word b; obtain ⟨d1, d2⟩ := lo_word b
  have k0 : 0 ≤ (lo a + lo b) / 18446744073709551616 := by omega
  have k1 : (lo a + lo b) / 18446744073709551616 ≤ 1 := by omega
  go_enter Try.func41, Try.ntmps41
  go_wp2_with (first | simp only [add64_0 (lo a) (lo b) b1 d1] | simp only [add64 (hi a) (hi b) _ a1 c1 k0 k1])
  exact bodyPost_ret (v := wv (a + b)) (by simp [results, Try.results41, go_sem, hi_add, lo_add]) rfl ⟨rfl, by repeat (first | exact Fr.refl _ | apply Fr.alloc)⟩
theorem wsub_any (a b : Int) (w : World) :
    Calls Try.prog 42 #[wv a, wv b] w fun e w' => e = .returned (wv (a - b)) ∧ Fr w w' := by
  obtain ⟨a1, a2⟩ := hi_word a; obtain ⟨b1, b2⟩ := lo_word a; obtain ⟨c1, c2⟩ := hi_word b; obtain ⟨d1, d2⟩ := lo_word b
  obtain ⟨k0, k1⟩ := bor_01 (lo a) (lo b)
  go_enter Try.func42, Try.ntmps42
  go_wp2_with (first | simp only [sub64_0 (lo a) (lo b) b1 d1 d2] | simp only [sub64_1 (hi a) (hi b) _ a1 c1 c2 k0 k1])
  exact bodyPost_ret (v := wv (a - b)) (by simp [results, Try.results42, go_sem, hi_sub, lo_sub]) rfl ⟨rfl, by repeat (first | exact Fr.refl _ | apply Fr.alloc)⟩
theorem below0_any (a : Int) (w : World) :
    Calls Try.prog 36 #[wv a] w fun e w' => e = .returned (.bool (negB a)) ∧ Fr w w' := by
  go_enter Try.func36, Try.ntmps36
  go_wp2
  go_ret
  exact ⟨by rw [negB_of_div]; rfl, by repeat (first | exact Fr.refl _ | apply Fr.alloc)⟩
theorem wless_any (a b : Int) (w : World) :
    Calls Try.prog 18 #[wv a, wv b] w fun e w' => e = .returned (.bool (ltB a b)) ∧ Fr w w' := by
  go_enter Try.func18, Try.ntmps18
  go_wp2
  all_goals go_ret
  · exact ⟨by rw [ltB_hi _ _ (by assumption)]; rfl, by repeat (first | exact Fr.refl _ | apply Fr.alloc)⟩
  · exact ⟨by rw [ltB_lo _ _ (by assumption)]; rfl, by repeat (first | exact Fr.refl _ | apply Fr.alloc)⟩
theorem wshl_small (a n : Int) (h0 : 0 ≤ n) (h1 : n < 64) (w : World) :
    Calls Try.prog 34 #[wv a, .int .i64 n] w fun e w' => e = .returned (wv (a * 2 ^ n.toNat)) ∧ Fr w w' := by
  obtain ⟨k1, k2⟩ := shl_words a n.toNat (by omega)
  have k3 : (64 - n).toNat = 64 - n.toNat := by omega
  rw [← k3] at k1
  have K1 := Lib.hid k1; have K2 := Lib.hid k2; clear k1 k2 k3
  go_enter Try.func34, Try.ntmps34
  go_wp2
  go_region
  go_wp2
  exact bodyPost_ret (v := wv (a * 2 ^ n.toNat)) (by simp [results, Try.results34, go_sem, IntKind.wrap_u64, K1.out, K2.out]) rfl ⟨rfl, by repeat (first | exact Fr.refl _ | apply Fr.drew | apply Fr.alloc)⟩
theorem wshl_big (a n : Int) (h0 : 64 ≤ n) (h1 : n ≤ 128) (w : World) :
    Calls Try.prog 34 #[wv a, .int .i64 n] w fun e w' => e = .returned (wv (a * 2 ^ n.toNat)) ∧ Fr w w' := by
  obtain ⟨k1, k2⟩ := shl_big a (n - 64).toNat
  have k3 : n.toNat = (n - 64).toNat + 64 := by omega
  rw [← k3] at k1 k2
  have K1 := Lib.hid k1; have K2 := Lib.hid k2; clear k1 k2 k3
  go_enter Try.func34, Try.ntmps34
  go_wp2
  exact bodyPost_ret (v := wv (a * 2 ^ n.toNat)) (by simp [results, Try.results34, go_sem, IntKind.wrap_u64, K1.out, K2.out]) rfl ⟨rfl, by repeat (first | exact Fr.refl _ | apply Fr.drew | apply Fr.alloc)⟩
theorem wshr_small (a n : Int) (h0 : 0 ≤ n) (h1 : n < 64) (w : World) :
    Calls Try.prog 35 #[wv a, .int .i64 n] w fun e w' => e = .returned (wv (shrI a n.toNat)) ∧ Fr w w' := by
  obtain ⟨k1, k2⟩ := shr_words a n.toNat (by omega)
  have k3 : (64 - n).toNat = 64 - n.toNat := by omega
  rw [← k3] at k2
  have K1 := Lib.hid k1; have K2 := Lib.hid k2; clear k1 k2 k3
  go_enter Try.func35, Try.ntmps35
  go_wp2
  go_region
  go_wp2
  exact bodyPost_ret (v := wv (shrI a n.toNat)) (by simp [results, Try.results35, go_sem, IntKind.wrap_u64, K1.out, K2.out]) rfl ⟨rfl, by repeat (first | exact Fr.refl _ | apply Fr.drew | apply Fr.alloc)⟩
theorem wshr_big (a n : Int) (h0 : 64 ≤ n) (h1 : n ≤ 128) (w : World) :
    Calls Try.prog 35 #[wv a, .int .i64 n] w fun e w' => e = .returned (wv (shrI a n.toNat)) ∧ Fr w w' := by
  obtain ⟨k1, k2⟩ := shr_big a (n - 64).toNat
  have k3 : n.toNat = (n - 64).toNat + 64 := by omega
  rw [← k3] at k1 k2
  have K1 := Lib.hid k1; have K2 := Lib.hid k2; clear k1 k2 k3
  go_enter Try.func35, Try.ntmps35
  go_wp2
  exact bodyPost_ret (v := wv (shrI a n.toNat)) (by simp [results, Try.results35, go_sem, K1.out, K2.out]) rfl ⟨rfl, by repeat (first | exact Fr.refl _ | apply Fr.drew | apply Fr.alloc)⟩
theorem wsub_zero (a : Int) (w : World) :
    Calls Try.prog 42 #[.agg #[.int .u64 0, .int .u64 0], wv a] w fun e w' => e = .returned (wv (-a)) ∧ Fr w w' := by
  have h := wsub_any 0 a w
  rw [Int.zero_sub] at h
  exact h
theorem wnot_zero (w : World) :
    Calls Try.prog 39 #[.agg #[.int .u64 0, .int .u64 0]] w fun e w' => e = .returned (wv (-1)) ∧ Fr w w' := wnot_any 0 w
theorem wneg_any (a : Int) (w : World) :
    Calls Try.prog 47 #[wv a] w fun e w' => e = .returned (wv (-a)) ∧ Fr w w' := by
  go_enter Try.func47, Try.ntmps47
  go_wp2_with fail
  refine (wsub_zero _ _).mono ?_
  rintro e w1 ⟨rfl, hb⟩
  obtain ⟨hc, hf, hz⟩ := hb.cells
  go_wp2
  exact bodyPost_ret (v := wv (-a)) (by simp [results, Try.results47, go_sem, hc]) rfl ⟨rfl, by repeat (first | exact Fr.refl _ | apply Fr.drew | apply Fr.alloc | (refine Fr.set ?_ (by simp; try omega) _) | (refine Fr.call ?_ (by assumption)))⟩
theorem wshr_any (a n : Int) (h0 : 0 ≤ n) (h1 : n ≤ 128) (w : World) :
    Calls Try.prog 35 #[wv a, .int .i64 n] w fun e w' => e = .returned (wv (shrI a n.toNat)) ∧ Fr w w' := by
  by_cases h : n < 64
  · exact wshr_small a n h0 h w
  · exact wshr_big a n (by omega) h1 w
theorem wshl_any (a n : Int) (h0 : 0 ≤ n) (h1 : n ≤ 128) (w : World) :
    Calls Try.prog 34 #[wv a, .int .i64 n] w fun e w' => e = .returned (wv (a * 2 ^ n.toNat)) ∧ Fr w w' := by
  by_cases h : n < 64
  · exact wshl_small a n h0 h w
  · exact wshl_big a n (by omega) h1 w
theorem mul64 (x y : Int) (hx : Word x) (hy : Word y) (w : World) :
    Calls Try.prog 55 #[.int .u64 x, .int .u64 y] w fun e w' => e = .returned (.tuple #[.int .u64 (x * y / 18446744073709551616), .int .u64 (x * y % 18446744073709551616)]) ∧ w = w' := by
  obtain ⟨h0, h1⟩ := hx; obtain ⟨k0, k1⟩ := hy
  obtain ⟨n, rfl⟩ := Int.eq_ofNat_of_zero_le h0
  obtain ⟨m, rfl⟩ := Int.eq_ofNat_of_zero_le k0
  refine (Try.bits_Mul64 n m (by omega) (by omega) w).mono ?_
  rintro e w' ⟨rfl, rfl⟩
  exact ⟨by congr 5, rfl⟩
theorem wmul_any (a b : Int) (w : World) :
    Calls Try.prog 43 #[wv a, wv b] w fun e w' => e = .returned (wv (a * b)) ∧ Fr w w' := by
  go_enter Try.func43, Try.ntmps43
  go_wp2_with fail
  refine (mul64 _ _ (lo_word a) (lo_word b) _).mono ?_
  rintro e w1 ⟨rfl, rfl⟩
  go_wp2
  exact bodyPost_ret (v := wv (a * b)) (by simp [results, Try.results43, go_sem, hi_mul', lo_mul]) rfl ⟨rfl, by repeat (first | exact Fr.refl _ | apply Fr.drew | apply Fr.alloc)⟩
end Go.Proofs.Ytglgbhlnfafhjaa
