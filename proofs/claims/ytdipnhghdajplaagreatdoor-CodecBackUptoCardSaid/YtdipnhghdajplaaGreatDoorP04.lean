/- Contracts of the smallest functions of package bvec on 128-bit numbers (wide): no condition but that words are words. -/
import Derived.Test.YtdipnhghdajplaaGreatDoorP03
import Derived.WalkSpells
import Derived.WalkLawsBesides
import Derived.Deep.RegionHeld3
import Derived.Lib.Hide
import Derived.Deep.RegionWith
import Derived.Deep.QuietTactic
import Derived.BigQuiet
namespace Go.Proofs.YtdipnhghdajplaaGreatDoor
open Go.RowKit
theorem wand_any (a b : Int) (w : World) :
   Calls Tryz.prog 154 #[wv a, wv b] w fun e w' => e = .returned (wv (landI a b)) ∧ Fr w w' := by
 go_enter Tryz.func154, Tryz.ntmps154
 go_wp2
 exact bodyPost_ret (v := wv (landI a b)) (by simp [results, Tryz.results154, go_sem, hi_and, lo_and]) rfl ⟨rfl, by repeat (first | exact Fr.refl _ | apply Fr.alloc)⟩
theorem wor_any (a b : Int) (w : World) :
   Calls Tryz.prog 151 #[wv a, wv b] w fun e w' => e = .returned (wv (lorI a b)) ∧ Fr w w' := by
 go_enter Tryz.func151, Tryz.ntmps151
 go_wp2
 exact bodyPost_ret (v := wv (lorI a b)) (by simp [results, Tryz.results151, go_sem, hi_or, lo_or]) rfl ⟨rfl, by repeat (first | exact Fr.refl _ | apply Fr.alloc)⟩
theorem wnot_any (a : Int) (w : World) :
   Calls Tryz.prog 153 #[wv a] w fun e w' => e = .returned (wv (-1 - a)) ∧ Fr w w' := by
 go_enter Tryz.func153, Tryz.ntmps153
 go_wp2
 exact bodyPost_ret (v := wv (-1 - a)) (by simp [results, Tryz.results153, go_sem, bits_not _ (hi_word a), bits_not _ (lo_word a), hi_not, lo_not]) rfl ⟨rfl, by repeat (first | exact Fr.refl _ | apply Fr.alloc)⟩
theorem below0_any (a : Int) (w : World) :
   Calls Tryz.prog 150 #[wv a] w fun e w' => e = .returned (.bool (negB a)) ∧ Fr w w' := by
 go_enter Tryz.func150, Tryz.ntmps150
 go_wp2
 go_ret
 exact ⟨by rw [negB_of_div]; rfl, by repeat (first | exact Fr.refl _ | apply Fr.alloc)⟩
theorem wshl_small (a n : Int) (h0 : 0 ≤ n) (h1 : n < 64) (w : World) :
   Calls Tryz.prog 149 #[wv a, .int .i64 n] w fun e w' => e = .returned (wv (a * 2 ^ n.toNat)) ∧ Fr w w' := by
 obtain ⟨k1, k2⟩ := shl_words a n.toNat (by omega)
 have k3 : (64 - n).toNat = 64 - n.toNat := by omega
 rw [← k3] at k1
 have K1 := Lib.hid k1; have K2 := Lib.hid k2; clear k1 k2 k3
 go_enter Tryz.func149, Tryz.ntmps149
 go_wp2
 go_region
 go_wp2
 exact bodyPost_ret (v := wv (a * 2 ^ n.toNat)) (by simp [results, Tryz.results149, go_sem, IntKind.wrap_u64, K1.out, K2.out]) rfl ⟨rfl, by repeat (first | exact Fr.refl _ | apply Fr.drew | apply Fr.alloc)⟩
theorem wshl_big (a n : Int) (h0 : 64 ≤ n) (h1 : n ≤ 128) (w : World) :
   Calls Tryz.prog 149 #[wv a, .int .i64 n] w fun e w' => e = .returned (wv (a * 2 ^ n.toNat)) ∧ Fr w w' := by
 obtain ⟨k1, k2⟩ := shl_big a (n - 64).toNat
 have k3 : n.toNat = (n - 64).toNat + 64 := by omega
 rw [← k3] at k1 k2
 have K1 := Lib.hid k1; have K2 := Lib.hid k2; clear k1 k2 k3
 go_enter Tryz.func149, Tryz.ntmps149
 go_wp2
 exact bodyPost_ret (v := wv (a * 2 ^ n.toNat)) (by simp [results, Tryz.results149, go_sem, IntKind.wrap_u64, K1.out, K2.out]) rfl ⟨rfl, by repeat (first | exact Fr.refl _ | apply Fr.drew | apply Fr.alloc)⟩
theorem wshr_small (a n : Int) (h0 : 0 ≤ n) (h1 : n < 64) (w : World) :
   Calls Tryz.prog 163 #[wv a, .int .i64 n] w fun e w' => e = .returned (wv (shrI a n.toNat)) ∧ Fr w w' := by
 obtain ⟨k1, k2⟩ := shr_words a n.toNat (by omega)
 have k3 : (64 - n).toNat = 64 - n.toNat := by omega
 rw [← k3] at k2
 have K1 := Lib.hid k1; have K2 := Lib.hid k2; clear k1 k2 k3
 go_enter Tryz.func163, Tryz.ntmps163
 go_wp2
 go_region
 go_wp2
 exact bodyPost_ret (v := wv (shrI a n.toNat)) (by simp [results, Tryz.results163, go_sem, IntKind.wrap_u64, K1.out, K2.out]) rfl ⟨rfl, by repeat (first | exact Fr.refl _ | apply Fr.drew | apply Fr.alloc)⟩
theorem wshr_big (a n : Int) (h0 : 64 ≤ n) (h1 : n ≤ 128) (w : World) :
   Calls Tryz.prog 163 #[wv a, .int .i64 n] w fun e w' => e = .returned (wv (shrI a n.toNat)) ∧ Fr w w' := by
 obtain ⟨k1, k2⟩ := shr_big a (n - 64).toNat
 have k3 : n.toNat = (n - 64).toNat + 64 := by omega
 rw [← k3] at k1 k2
 have K1 := Lib.hid k1; have K2 := Lib.hid k2; clear k1 k2 k3
 go_enter Tryz.func163, Tryz.ntmps163
 go_wp2
 exact bodyPost_ret (v := wv (shrI a n.toNat)) (by simp [results, Tryz.results163, go_sem, K1.out, K2.out]) rfl ⟨rfl, by repeat (first | exact Fr.refl _ | apply Fr.drew | apply Fr.alloc)⟩
theorem wnot_zero (w : World) :
   Calls Tryz.prog 153 #[.agg #[.int .u64 0, .int .u64 0]] w fun e w' => e = .returned (wv (-1)) ∧ Fr w w' := wnot_any 0 w
theorem wshr_any (a n : Int) (h0 : 0 ≤ n) (h1 : n ≤ 128) (w : World) :
   Calls Tryz.prog 163 #[wv a, .int .i64 n] w fun e w' => e = .returned (wv (shrI a n.toNat)) ∧ Fr w w' := by
 by_cases h : n < 64
 · exact wshr_small a n h0 h w
 · exact wshr_big a n (by omega) h1 w
theorem wshl_any (a n : Int) (h0 : 0 ≤ n) (h1 : n ≤ 128) (w : World) :
   Calls Tryz.prog 149 #[wv a, .int .i64 n] w fun e w' => e = .returned (wv (a * 2 ^ n.toNat)) ∧ Fr w w' := by
 by_cases h : n < 64
 · exact wshl_small a n h0 h w
 · exact wshl_big a n (by omega) h1 w
set_option maxHeartbeats 4000000 in
theorem wones_any (n : Int) (h0 : 0 ≤ n) (h1 : n ≤ 128) (w : World) :
   Calls Tryz.prog 152 #[.int .i64 n] w fun e w' => e = .returned (wv (2 ^ n.toNat - 1)) ∧ Fr w w' := by
 have k := shrI_ones n.toNat (by omega)
 have k2 : (128 - n).toNat = 128 - n.toNat := by omega
 rw [← k2] at k
 have K := Lib.hid k; clear k k2
 go_enter Tryz.func152, Tryz.ntmps152
 go_wp2_with fail
 refine (wnot_zero _).mono ?_
 rintro e w1 ⟨rfl, hb1⟩
 have hz1 := hb1.size
 (try simp at hz1)
 have z1_0 : w.heap.size < w1.heap.size := (by omega)
 have c1_0_0 := hb1.get (b := w.heap.size) (o := 0) (v := .int .u64 0) (by first | (simp [go_sem]; done) | (simp [go_sem, *]; done))
 have f1_0_0 := hb1.free (b := w.heap.size) (o := 0) (v := .int .u64 0) (by first | (simp [go_sem]; done) | (simp [go_sem, *]; done)) (by first | (simp [go_sem]; done) | (simp [go_sem, *]; done))
 have c1_0_1 := hb1.get (b := w.heap.size) (o := 1) (v := .int .u64 0) (by first | (simp [go_sem]; done) | (simp [go_sem, *]; done))
 have f1_0_1 := hb1.free (b := w.heap.size) (o := 1) (v := .int .u64 0) (by first | (simp [go_sem]; done) | (simp [go_sem, *]; done)) (by first | (simp [go_sem]; done) | (simp [go_sem, *]; done))
 clear hz1
 go_wp2_with fail
 refine (wshr_any _ _ (by omega) (by omega) _).mono ?_
 rintro e w2 ⟨rfl, hb2⟩
 have hz2 := hb2.size
 (try simp at hz2)
 have z2_0 : w.heap.size < w2.heap.size := (by omega)
 have c2_0_0 := hb2.get (b := w.heap.size) (o := 0) (v := .int .u64 0) (by first | (simp [go_sem]; done) | (simp [go_sem, *]; done))
 have f2_0_0 := hb2.free (b := w.heap.size) (o := 0) (v := .int .u64 0) (by first | (simp [go_sem]; done) | (simp [go_sem, *]; done)) (by first | (simp [go_sem]; done) | (simp [go_sem, *]; done))
 have c2_0_1 := hb2.get (b := w.heap.size) (o := 1) (v := .int .u64 0) (by first | (simp [go_sem]; done) | (simp [go_sem, *]; done))
 have f2_0_1 := hb2.free (b := w.heap.size) (o := 1) (v := .int .u64 0) (by first | (simp [go_sem]; done) | (simp [go_sem, *]; done)) (by first | (simp [go_sem]; done) | (simp [go_sem, *]; done))
 clear hz2
 rw [K.out]
 go_wp2
 exact bodyPost_ret (v := wv (2 ^ n.toNat - 1)) (by simp [results, Tryz.results152, go_sem, *]) rfl ⟨rfl, by repeat (first | with_reducible exact Fr.refl _ | with_reducible apply Fr.drewN | with_reducible apply Fr.drew | with_reducible apply Fr.alloc | (with_reducible refine Fr.set ?_ (by simp; try omega) _) | (with_reducible refine Fr.call ?_ (by assumption)))⟩
set_option maxHeartbeats 4000000 in
theorem value_any (W v : Int) (w : World) :
   Calls Tryz.prog 148 #[bv W v] w fun e w' => e = .returned (wv v) ∧ Fr w w' := by
 go_enter Tryz.func148, Tryz.ntmps148
 go_wp2
 exact bodyPost_ret (v := wv v) (by simp [results, Tryz.results148, go_sem, *]) rfl ⟨rfl, by repeat (first | with_reducible exact Fr.refl _ | with_reducible apply Fr.drewN | with_reducible apply Fr.drew | with_reducible apply Fr.alloc | (with_reducible refine Fr.set ?_ (by simp; try omega) _) | (with_reducible refine Fr.call ?_ (by assumption)))⟩
set_option maxHeartbeats 4000000 in
theorem cut_any (W v : Int) (h0 : 1 ≤ W) (h1 : W ≤ 128) (w : World) :
   Calls Tryz.prog 133 #[.int .i64 W, wv v] w fun e w' => e = .returned (bv W (landI v (2 ^ W.toNat - 1))) ∧ Fr w w' := by
 go_enter Tryz.func133, Tryz.ntmps133
 go_wp2_with fail
 go_region_with (first
     | (go_at_call 152; refine (wones_any _ (by omega) (by omega) _).mono ?_; rintro e w1 ⟨rfl, hb1⟩; have hz1 := hb1.size; (try simp at hz1); have z1_0 : w.heap.size < w1.heap.size := (by omega); have c1_0_0 := hb1.get (b := w.heap.size) (o := 0) (v := .int .u64 (hi (v))) (by first | (simp [go_sem]; done) | (simp [go_sem, *]; done)); have f1_0_0 := hb1.free (b := w.heap.size) (o := 0) (v := .int .u64 (hi (v))) (by first | (simp [go_sem]; done) | (simp [go_sem, *]; done)) (by first | (simp [go_sem]; done) | (simp [go_sem, *]; done)); have c1_0_1 := hb1.get (b := w.heap.size) (o := 1) (v := .int .u64 (lo (v))) (by first | (simp [go_sem]; done) | (simp [go_sem, *]; done)); have f1_0_1 := hb1.free (b := w.heap.size) (o := 1) (v := .int .u64 (lo (v))) (by first | (simp [go_sem]; done) | (simp [go_sem, *]; done)) (by first | (simp [go_sem]; done) | (simp [go_sem, *]; done)); have z1_1 : w.heap.size + 1 < w1.heap.size := (by omega); have c1_1_0 := hb1.get (b := w.heap.size + 1) (o := 0) (v := .int .i64 0) (by first | (simp [go_sem]; done) | (simp [go_sem, *]; done)); have f1_1_0 := hb1.free (b := w.heap.size + 1) (o := 0) (v := .int .i64 0) (by first | (simp [go_sem]; done) | (simp [go_sem, *]; done)) (by first | (simp [go_sem]; done) | (simp [go_sem, *]; done)); have c1_1_1 := hb1.get (b := w.heap.size + 1) (o := 1) (v := .int .u64 0) (by first | (simp [go_sem]; done) | (simp [go_sem, *]; done)); have f1_1_1 := hb1.free (b := w.heap.size + 1) (o := 1) (v := .int .u64 0) (by first | (simp [go_sem]; done) | (simp [go_sem, *]; done)) (by first | (simp [go_sem]; done) | (simp [go_sem, *]; done)); have c1_1_2 := hb1.get (b := w.heap.size + 1) (o := 2) (v := .int .u64 0) (by first | (simp [go_sem]; done) | (simp [go_sem, *]; done)); have f1_1_2 := hb1.free (b := w.heap.size + 1) (o := 2) (v := .int .u64 0) (by first | (simp [go_sem]; done) | (simp [go_sem, *]; done)) (by first | (simp [go_sem]; done) | (simp [go_sem, *]; done)); clear hz1)
     | (go_at_call 154; refine (wand_any _ _ _).mono ?_; rintro e w2 ⟨rfl, hb2⟩; have hz2 := hb2.size; (try simp at hz2); have z2_0 : w.heap.size < w2.heap.size := (by omega); have c2_0_0 := hb2.get (b := w.heap.size) (o := 0) (v := .int .u64 (hi (v))) (by first | (simp [go_sem]; done) | (simp [go_sem, *]; done)); have f2_0_0 := hb2.free (b := w.heap.size) (o := 0) (v := .int .u64 (hi (v))) (by first | (simp [go_sem]; done) | (simp [go_sem, *]; done)) (by first | (simp [go_sem]; done) | (simp [go_sem, *]; done)); have c2_0_1 := hb2.get (b := w.heap.size) (o := 1) (v := .int .u64 (lo (v))) (by first | (simp [go_sem]; done) | (simp [go_sem, *]; done)); have f2_0_1 := hb2.free (b := w.heap.size) (o := 1) (v := .int .u64 (lo (v))) (by first | (simp [go_sem]; done) | (simp [go_sem, *]; done)) (by first | (simp [go_sem]; done) | (simp [go_sem, *]; done)); have z2_1 : w.heap.size + 1 < w2.heap.size := (by omega); have c2_1_0 := hb2.get (b := w.heap.size + 1) (o := 0) (v := .int .i64 0) (by first | (simp [go_sem]; done) | (simp [go_sem, *]; done)); have f2_1_0 := hb2.free (b := w.heap.size + 1) (o := 0) (v := .int .i64 0) (by first | (simp [go_sem]; done) | (simp [go_sem, *]; done)) (by first | (simp [go_sem]; done) | (simp [go_sem, *]; done)); have c2_1_1 := hb2.get (b := w.heap.size + 1) (o := 1) (v := .int .u64 0) (by first | (simp [go_sem]; done) | (simp [go_sem, *]; done)); have f2_1_1 := hb2.free (b := w.heap.size + 1) (o := 1) (v := .int .u64 0) (by first | (simp [go_sem]; done) | (simp [go_sem, *]; done)) (by first | (simp [go_sem]; done) | (simp [go_sem, *]; done)); have c2_1_2 := hb2.get (b := w.heap.size + 1) (o := 2) (v := .int .u64 0) (by first | (simp [go_sem]; done) | (simp [go_sem, *]; done)); have f2_1_2 := hb2.free (b := w.heap.size + 1) (o := 2) (v := .int .u64 0) (by first | (simp [go_sem]; done) | (simp [go_sem, *]; done)) (by first | (simp [go_sem]; done) | (simp [go_sem, *]; done)); clear hz2))
 all_goals go_wp2
 all_goals exact bodyPost_ret (v := bv W (landI v (2 ^ W.toNat - 1))) (by simp [results, Tryz.results133, go_sem, *]) rfl ⟨rfl, by repeat (first | with_reducible exact Fr.refl _ | with_reducible apply Fr.drewN | with_reducible apply Fr.drew | with_reducible apply Fr.alloc | (with_reducible refine Fr.set ?_ (by simp; try omega) _) | (with_reducible refine Fr.call ?_ (by assumption)))⟩
theorem cut_to (W v : Int) (h0 : 1 ≤ W) (h1 : W ≤ 128) (w : World) :
   Calls Tryz.prog 133 #[.int .i64 W, wv v] w fun e w' => e = .returned (bv W (cutI W.toNat v)) ∧ Fr w w' := by
 have h := cut_any W v h0 h1 w
 rw [landI_ones _ (by omega)] at h
 exact h
set_option maxHeartbeats 4000000 in
theorem signed_any (W v : Int) (h : Norm W v) (w : World) :
   Calls Tryz.prog 131 #[bv W v] w fun e w' => e = .returned (wv (sgnI W v)) ∧ Fr w w' := by
 have H1 := Lib.hid (negB_shl W v h)
 have HN := Lib.hid h
 obtain ⟨h1, h2, h3, h4⟩ := h
 clear h4
 by_cases k : v < 2 ^ (W.toNat - 1)
 · have HK := Lib.hid k
   have H4 : Hid (negB (v * 2 ^ (128 - W).toNat) = false) := by have := H1.out; rw [decide_eq_false (by omega)] at this; exact this
   have H2 : Hid (sgnI W v = v) := by unfold sgnI; rw [if_pos k]; rfl
   clear k
   go_enter Tryz.func131, Tryz.ntmps131
   go_wp2_with fail
   refine (value_any _ _ _).mono ?_
   rintro e w1 ⟨rfl, hb1⟩
   have hz1 := hb1.size
   (try simp at hz1)
   have z1_0 : w.heap.size < w1.heap.size := (by omega)
   have c1_0_0 := hb1.get (b := w.heap.size) (o := 0) (v := .int .i64 (W)) (by first | (simp [go_sem]; done) | (simp [go_sem, *]; done))
   have c1_0_1 := hb1.get (b := w.heap.size) (o := 1) (v := .int .u64 (hi (v))) (by first | (simp [go_sem]; done) | (simp [go_sem, *]; done))
   have c1_0_2 := hb1.get (b := w.heap.size) (o := 2) (v := .int .u64 (lo (v))) (by first | (simp [go_sem]; done) | (simp [go_sem, *]; done))
   have z1_1 : w.heap.size + 1 < w1.heap.size := (by omega)
   have c1_1_0 := hb1.get (b := w.heap.size + 1) (o := 0) (v := .int .u64 0) (by first | (simp [go_sem]; done) | (simp [go_sem, *]; done))
   have f1_1_0 := hb1.free (b := w.heap.size + 1) (o := 0) (v := .int .u64 0) (by first | (simp [go_sem]; done) | (simp [go_sem, *]; done)) (by first | (simp [go_sem]; done) | (simp [go_sem, *]; done))
   have c1_1_1 := hb1.get (b := w.heap.size + 1) (o := 1) (v := .int .u64 0) (by first | (simp [go_sem]; done) | (simp [go_sem, *]; done))
   have f1_1_1 := hb1.free (b := w.heap.size + 1) (o := 1) (v := .int .u64 0) (by first | (simp [go_sem]; done) | (simp [go_sem, *]; done)) (by first | (simp [go_sem]; done) | (simp [go_sem, *]; done))
   clear hz1
   go_wp2_with fail
   refine (wshl_any _ _ (by omega) (by omega) _).mono ?_
   rintro e w2 ⟨rfl, hb2⟩
   have hz2 := hb2.size
   (try simp at hz2)
   have z2_0 : w.heap.size < w2.heap.size := (by omega)
   have c2_0_0 := hb2.get (b := w.heap.size) (o := 0) (v := .int .i64 (W)) (by first | (simp [go_sem]; done) | (simp [go_sem, *]; done))
   have c2_0_1 := hb2.get (b := w.heap.size) (o := 1) (v := .int .u64 (hi (v))) (by first | (simp [go_sem]; done) | (simp [go_sem, *]; done))
   have c2_0_2 := hb2.get (b := w.heap.size) (o := 2) (v := .int .u64 (lo (v))) (by first | (simp [go_sem]; done) | (simp [go_sem, *]; done))
   have z2_1 : w.heap.size + 1 < w2.heap.size := (by omega)
   have c2_1_0 := hb2.get (b := w.heap.size + 1) (o := 0) (v := .int .u64 0) (by first | (simp [go_sem]; done) | (simp [go_sem, *]; done))
   have f2_1_0 := hb2.free (b := w.heap.size + 1) (o := 0) (v := .int .u64 0) (by first | (simp [go_sem]; done) | (simp [go_sem, *]; done)) (by first | (simp [go_sem]; done) | (simp [go_sem, *]; done))
   have c2_1_1 := hb2.get (b := w.heap.size + 1) (o := 1) (v := .int .u64 0) (by first | (simp [go_sem]; done) | (simp [go_sem, *]; done))
   have f2_1_1 := hb2.free (b := w.heap.size + 1) (o := 1) (v := .int .u64 0) (by first | (simp [go_sem]; done) | (simp [go_sem, *]; done)) (by first | (simp [go_sem]; done) | (simp [go_sem, *]; done))
   have z2_2 : w1.heap.size < w2.heap.size := (by omega)
   have c2_2_0 := hb2.get (b := w1.heap.size) (o := 0) (v := .int .u64 (hi (v))) (by first | (simp [go_sem]; done) | (simp [go_sem, *]; done))
   have c2_2_1 := hb2.get (b := w1.heap.size) (o := 1) (v := .int .u64 (lo (v))) (by first | (simp [go_sem]; done) | (simp [go_sem, *]; done))
   clear hz2
   go_wp2_with fail
   refine (below0_any _ _).mono ?_
   rintro e w3 ⟨rfl, hb3⟩
   have hz3 := hb3.size
   (try simp at hz3)
   have z3_0 : w.heap.size < w3.heap.size := (by omega)
   have c3_0_0 := hb3.get (b := w.heap.size) (o := 0) (v := .int .i64 (W)) (by first | (simp [go_sem]; done) | (simp [go_sem, *]; done))
   have c3_0_1 := hb3.get (b := w.heap.size) (o := 1) (v := .int .u64 (hi (v))) (by first | (simp [go_sem]; done) | (simp [go_sem, *]; done))
   have c3_0_2 := hb3.get (b := w.heap.size) (o := 2) (v := .int .u64 (lo (v))) (by first | (simp [go_sem]; done) | (simp [go_sem, *]; done))
   have z3_1 : w.heap.size + 1 < w3.heap.size := (by omega)
   have c3_1_0 := hb3.get (b := w.heap.size + 1) (o := 0) (v := .int .u64 0) (by first | (simp [go_sem]; done) | (simp [go_sem, *]; done))
   have f3_1_0 := hb3.free (b := w.heap.size + 1) (o := 0) (v := .int .u64 0) (by first | (simp [go_sem]; done) | (simp [go_sem, *]; done)) (by first | (simp [go_sem]; done) | (simp [go_sem, *]; done))
   have c3_1_1 := hb3.get (b := w.heap.size + 1) (o := 1) (v := .int .u64 0) (by first | (simp [go_sem]; done) | (simp [go_sem, *]; done))
   have f3_1_1 := hb3.free (b := w.heap.size + 1) (o := 1) (v := .int .u64 0) (by first | (simp [go_sem]; done) | (simp [go_sem, *]; done)) (by first | (simp [go_sem]; done) | (simp [go_sem, *]; done))
   have z3_2 : w1.heap.size < w3.heap.size := (by omega)
   have c3_2_0 := hb3.get (b := w1.heap.size) (o := 0) (v := .int .u64 (hi (v))) (by first | (simp [go_sem]; done) | (simp [go_sem, *]; done))
   have c3_2_1 := hb3.get (b := w1.heap.size) (o := 1) (v := .int .u64 (lo (v))) (by first | (simp [go_sem]; done) | (simp [go_sem, *]; done))
   clear hz3
   rw [H4.out]
   go_wp2
   rw [H2.out]
   exact bodyPost_ret (v := wv v) (by simp [results, Tryz.results131, go_sem, *]) rfl ⟨rfl, by repeat (first | with_reducible exact Fr.refl _ | with_reducible apply Fr.drewN | with_reducible apply Fr.drew | with_reducible apply Fr.alloc | (with_reducible refine Fr.set ?_ (by simp; try omega) _) | (with_reducible refine Fr.call ?_ (by assumption)))⟩
 · have HK := Lib.hid k
   have H4 : Hid (negB (v * 2 ^ (128 - W).toNat) = true) := by have := H1.out; rw [decide_eq_true (by omega)] at this; exact this
   obtain ⟨e1, e2⟩ := hi_sgn W v HN.out k
   have E1 := Lib.hid e1; have E2 := Lib.hid e2; clear e1 e2
   clear k
   go_enter Tryz.func131, Tryz.ntmps131
   go_wp2_with fail
   refine (value_any _ _ _).mono ?_
   rintro e w1 ⟨rfl, hb1⟩
   have hz1 := hb1.size
   (try simp at hz1)
   have z1_0 : w.heap.size < w1.heap.size := (by omega)
   have c1_0_0 := hb1.get (b := w.heap.size) (o := 0) (v := .int .i64 (W)) (by first | (simp [go_sem]; done) | (simp [go_sem, *]; done))
   have c1_0_1 := hb1.get (b := w.heap.size) (o := 1) (v := .int .u64 (hi (v))) (by first | (simp [go_sem]; done) | (simp [go_sem, *]; done))
   have c1_0_2 := hb1.get (b := w.heap.size) (o := 2) (v := .int .u64 (lo (v))) (by first | (simp [go_sem]; done) | (simp [go_sem, *]; done))
   have z1_1 : w.heap.size + 1 < w1.heap.size := (by omega)
   have c1_1_0 := hb1.get (b := w.heap.size + 1) (o := 0) (v := .int .u64 0) (by first | (simp [go_sem]; done) | (simp [go_sem, *]; done))
   have f1_1_0 := hb1.free (b := w.heap.size + 1) (o := 0) (v := .int .u64 0) (by first | (simp [go_sem]; done) | (simp [go_sem, *]; done)) (by first | (simp [go_sem]; done) | (simp [go_sem, *]; done))
   have c1_1_1 := hb1.get (b := w.heap.size + 1) (o := 1) (v := .int .u64 0) (by first | (simp [go_sem]; done) | (simp [go_sem, *]; done))
   have f1_1_1 := hb1.free (b := w.heap.size + 1) (o := 1) (v := .int .u64 0) (by first | (simp [go_sem]; done) | (simp [go_sem, *]; done)) (by first | (simp [go_sem]; done) | (simp [go_sem, *]; done))
   clear hz1
   go_wp2_with fail
   refine (wshl_any _ _ (by omega) (by omega) _).mono ?_
   rintro e w2 ⟨rfl, hb2⟩
   have hz2 := hb2.size
   (try simp at hz2)
   have z2_0 : w.heap.size < w2.heap.size := (by omega)
   have c2_0_0 := hb2.get (b := w.heap.size) (o := 0) (v := .int .i64 (W)) (by first | (simp [go_sem]; done) | (simp [go_sem, *]; done))
   have c2_0_1 := hb2.get (b := w.heap.size) (o := 1) (v := .int .u64 (hi (v))) (by first | (simp [go_sem]; done) | (simp [go_sem, *]; done))
   have c2_0_2 := hb2.get (b := w.heap.size) (o := 2) (v := .int .u64 (lo (v))) (by first | (simp [go_sem]; done) | (simp [go_sem, *]; done))
   have z2_1 : w.heap.size + 1 < w2.heap.size := (by omega)
   have c2_1_0 := hb2.get (b := w.heap.size + 1) (o := 0) (v := .int .u64 0) (by first | (simp [go_sem]; done) | (simp [go_sem, *]; done))
   have f2_1_0 := hb2.free (b := w.heap.size + 1) (o := 0) (v := .int .u64 0) (by first | (simp [go_sem]; done) | (simp [go_sem, *]; done)) (by first | (simp [go_sem]; done) | (simp [go_sem, *]; done))
   have c2_1_1 := hb2.get (b := w.heap.size + 1) (o := 1) (v := .int .u64 0) (by first | (simp [go_sem]; done) | (simp [go_sem, *]; done))
   have f2_1_1 := hb2.free (b := w.heap.size + 1) (o := 1) (v := .int .u64 0) (by first | (simp [go_sem]; done) | (simp [go_sem, *]; done)) (by first | (simp [go_sem]; done) | (simp [go_sem, *]; done))
   have z2_2 : w1.heap.size < w2.heap.size := (by omega)
   have c2_2_0 := hb2.get (b := w1.heap.size) (o := 0) (v := .int .u64 (hi (v))) (by first | (simp [go_sem]; done) | (simp [go_sem, *]; done))
   have c2_2_1 := hb2.get (b := w1.heap.size) (o := 1) (v := .int .u64 (lo (v))) (by first | (simp [go_sem]; done) | (simp [go_sem, *]; done))
   clear hz2
   go_wp2_with fail
   refine (below0_any _ _).mono ?_
   rintro e w3 ⟨rfl, hb3⟩
   have hz3 := hb3.size
   (try simp at hz3)
   have z3_0 : w.heap.size < w3.heap.size := (by omega)
   have c3_0_0 := hb3.get (b := w.heap.size) (o := 0) (v := .int .i64 (W)) (by first | (simp [go_sem]; done) | (simp [go_sem, *]; done))
   have c3_0_1 := hb3.get (b := w.heap.size) (o := 1) (v := .int .u64 (hi (v))) (by first | (simp [go_sem]; done) | (simp [go_sem, *]; done))
   have c3_0_2 := hb3.get (b := w.heap.size) (o := 2) (v := .int .u64 (lo (v))) (by first | (simp [go_sem]; done) | (simp [go_sem, *]; done))
   have z3_1 : w.heap.size + 1 < w3.heap.size := (by omega)
   have c3_1_0 := hb3.get (b := w.heap.size + 1) (o := 0) (v := .int .u64 0) (by first | (simp [go_sem]; done) | (simp [go_sem, *]; done))
   have f3_1_0 := hb3.free (b := w.heap.size + 1) (o := 0) (v := .int .u64 0) (by first | (simp [go_sem]; done) | (simp [go_sem, *]; done)) (by first | (simp [go_sem]; done) | (simp [go_sem, *]; done))
   have c3_1_1 := hb3.get (b := w.heap.size + 1) (o := 1) (v := .int .u64 0) (by first | (simp [go_sem]; done) | (simp [go_sem, *]; done))
   have f3_1_1 := hb3.free (b := w.heap.size + 1) (o := 1) (v := .int .u64 0) (by first | (simp [go_sem]; done) | (simp [go_sem, *]; done)) (by first | (simp [go_sem]; done) | (simp [go_sem, *]; done))
   have z3_2 : w1.heap.size < w3.heap.size := (by omega)
   have c3_2_0 := hb3.get (b := w1.heap.size) (o := 0) (v := .int .u64 (hi (v))) (by first | (simp [go_sem]; done) | (simp [go_sem, *]; done))
   have c3_2_1 := hb3.get (b := w1.heap.size) (o := 1) (v := .int .u64 (lo (v))) (by first | (simp [go_sem]; done) | (simp [go_sem, *]; done))
   clear hz3
   rw [H4.out]
   go_wp2_with fail
   go_region_with (first
     | (go_at_call 152; refine (wones_any _ (by omega) (by omega) _).mono ?_; rintro e w4 ⟨rfl, hb4⟩; have hz4 := hb4.size; (try simp at hz4); have z4_0 : w.heap.size < w4.heap.size := (by omega); have c4_0_0 := hb4.get (b := w.heap.size) (o := 0) (v := .int .i64 (W)) (by first | (simp [go_sem]; done) | (simp [go_sem, *]; done)); have c4_0_1 := hb4.get (b := w.heap.size) (o := 1) (v := .int .u64 (hi (v))) (by first | (simp [go_sem]; done) | (simp [go_sem, *]; done)); have c4_0_2 := hb4.get (b := w.heap.size) (o := 2) (v := .int .u64 (lo (v))) (by first | (simp [go_sem]; done) | (simp [go_sem, *]; done)); have z4_1 : w.heap.size + 1 < w4.heap.size := (by omega); have c4_1_0 := hb4.get (b := w.heap.size + 1) (o := 0) (v := .int .u64 0) (by first | (simp [go_sem]; done) | (simp [go_sem, *]; done)); have f4_1_0 := hb4.free (b := w.heap.size + 1) (o := 0) (v := .int .u64 0) (by first | (simp [go_sem]; done) | (simp [go_sem, *]; done)) (by first | (simp [go_sem]; done) | (simp [go_sem, *]; done)); have c4_1_1 := hb4.get (b := w.heap.size + 1) (o := 1) (v := .int .u64 0) (by first | (simp [go_sem]; done) | (simp [go_sem, *]; done)); have f4_1_1 := hb4.free (b := w.heap.size + 1) (o := 1) (v := .int .u64 0) (by first | (simp [go_sem]; done) | (simp [go_sem, *]; done)) (by first | (simp [go_sem]; done) | (simp [go_sem, *]; done)); have z4_2 : w1.heap.size < w4.heap.size := (by omega); have c4_2_0 := hb4.get (b := w1.heap.size) (o := 0) (v := .int .u64 (hi (v))) (by first | (simp [go_sem]; done) | (simp [go_sem, *]; done)); have c4_2_1 := hb4.get (b := w1.heap.size) (o := 1) (v := .int .u64 (lo (v))) (by first | (simp [go_sem]; done) | (simp [go_sem, *]; done)); clear hz4)
     | (go_at_call 153; refine (wnot_any _ _).mono ?_; rintro e w5 ⟨rfl, hb5⟩; have hz5 := hb5.size; (try simp at hz5); have z5_0 : w.heap.size < w5.heap.size := (by omega); have c5_0_0 := hb5.get (b := w.heap.size) (o := 0) (v := .int .i64 (W)) (by first | (simp [go_sem]; done) | (simp [go_sem, *]; done)); have c5_0_1 := hb5.get (b := w.heap.size) (o := 1) (v := .int .u64 (hi (v))) (by first | (simp [go_sem]; done) | (simp [go_sem, *]; done)); have c5_0_2 := hb5.get (b := w.heap.size) (o := 2) (v := .int .u64 (lo (v))) (by first | (simp [go_sem]; done) | (simp [go_sem, *]; done)); have z5_1 : w.heap.size + 1 < w5.heap.size := (by omega); have c5_1_0 := hb5.get (b := w.heap.size + 1) (o := 0) (v := .int .u64 0) (by first | (simp [go_sem]; done) | (simp [go_sem, *]; done)); have f5_1_0 := hb5.free (b := w.heap.size + 1) (o := 0) (v := .int .u64 0) (by first | (simp [go_sem]; done) | (simp [go_sem, *]; done)) (by first | (simp [go_sem]; done) | (simp [go_sem, *]; done)); have c5_1_1 := hb5.get (b := w.heap.size + 1) (o := 1) (v := .int .u64 0) (by first | (simp [go_sem]; done) | (simp [go_sem, *]; done)); have f5_1_1 := hb5.free (b := w.heap.size + 1) (o := 1) (v := .int .u64 0) (by first | (simp [go_sem]; done) | (simp [go_sem, *]; done)) (by first | (simp [go_sem]; done) | (simp [go_sem, *]; done)); have z5_2 : w1.heap.size < w5.heap.size := (by omega); have c5_2_0 := hb5.get (b := w1.heap.size) (o := 0) (v := .int .u64 (hi (v))) (by first | (simp [go_sem]; done) | (simp [go_sem, *]; done)); have c5_2_1 := hb5.get (b := w1.heap.size) (o := 1) (v := .int .u64 (lo (v))) (by first | (simp [go_sem]; done) | (simp [go_sem, *]; done)); clear hz5)
     | (go_at_call 151; refine (wor_any _ _ _).mono ?_; rintro e w6 ⟨rfl, hb6⟩; have hz6 := hb6.size; (try simp at hz6); have z6_0 : w.heap.size < w6.heap.size := (by omega); have c6_0_0 := hb6.get (b := w.heap.size) (o := 0) (v := .int .i64 (W)) (by first | (simp [go_sem]; done) | (simp [go_sem, *]; done)); have c6_0_1 := hb6.get (b := w.heap.size) (o := 1) (v := .int .u64 (hi (v))) (by first | (simp [go_sem]; done) | (simp [go_sem, *]; done)); have c6_0_2 := hb6.get (b := w.heap.size) (o := 2) (v := .int .u64 (lo (v))) (by first | (simp [go_sem]; done) | (simp [go_sem, *]; done)); have z6_1 : w.heap.size + 1 < w6.heap.size := (by omega); have c6_1_0 := hb6.get (b := w.heap.size + 1) (o := 0) (v := .int .u64 0) (by first | (simp [go_sem]; done) | (simp [go_sem, *]; done)); have f6_1_0 := hb6.free (b := w.heap.size + 1) (o := 0) (v := .int .u64 0) (by first | (simp [go_sem]; done) | (simp [go_sem, *]; done)) (by first | (simp [go_sem]; done) | (simp [go_sem, *]; done)); have c6_1_1 := hb6.get (b := w.heap.size + 1) (o := 1) (v := .int .u64 0) (by first | (simp [go_sem]; done) | (simp [go_sem, *]; done)); have f6_1_1 := hb6.free (b := w.heap.size + 1) (o := 1) (v := .int .u64 0) (by first | (simp [go_sem]; done) | (simp [go_sem, *]; done)) (by first | (simp [go_sem]; done) | (simp [go_sem, *]; done)); have z6_2 : w1.heap.size < w6.heap.size := (by omega); have c6_2_0 := hb6.get (b := w1.heap.size) (o := 0) (v := .int .u64 (hi (v))) (by first | (simp [go_sem]; done) | (simp [go_sem, *]; done)); have c6_2_1 := hb6.get (b := w1.heap.size) (o := 1) (v := .int .u64 (lo (v))) (by first | (simp [go_sem]; done) | (simp [go_sem, *]; done)); clear hz6))
   all_goals go_wp2
   all_goals exact bodyPost_ret (v := wv (sgnI W v)) (by simp [results, Tryz.results131, go_sem, ← E1.out, ← E2.out, *]) rfl ⟨rfl, by repeat (first | with_reducible exact Fr.refl _ | with_reducible apply Fr.drewN | with_reducible apply Fr.drew | with_reducible apply Fr.alloc | (with_reducible refine Fr.set ?_ (by simp; try omega) _) | (with_reducible refine Fr.call ?_ (by assumption)))⟩
set_option maxHeartbeats 4000000 in
theorem fromInt_any (n : Int) (h0 : -9223372036854775808 ≤ n) (h1 : n ≤ 9223372036854775807) (w : World) :
   Calls Tryz.prog 132 #[.int .i64 n] w fun e w' => e = .returned (wv n) ∧ Fr w w' := by
 obtain ⟨e1, e2⟩ := hi_int n h0 h1
 have E1 := Lib.hid e1; have E2 := Lib.hid e2; clear e1 e2
 go_enter Tryz.func132, Tryz.ntmps132
 go_wp2
 exact bodyPost_ret (v := wv n) (by simp [results, Tryz.results132, go_sem, IntKind.wrap_u64, E1.out, E2.out, *]) rfl ⟨rfl, by repeat (first | with_reducible exact Fr.refl _ | with_reducible apply Fr.drewN | with_reducible apply Fr.drew | with_reducible apply Fr.alloc | (with_reducible refine Fr.set ?_ (by simp; try omega) _) | (with_reducible refine Fr.call ?_ (by assumption)))⟩
set_option maxHeartbeats 4000000 in
theorem normal_in (W v : Int) (h0 : 1 ≤ W) (h1 : W ≤ 128) (v0 : 0 ≤ v) (v1 : v < 340282366920938463463374607431768211456) (w : World) :
   Calls Tryz.prog 130 #[bv W v] w fun e w' => e = .returned (.bool (normB W v)) ∧ Fr w w' := by
 have H := Lib.hid (normB_eq W v h0 h1 v0 v1)
 clear v0 v1
 cases e1 : (hi v == hi (cutI W.toNat v)) <;> cases e2 : (lo v == lo (cutI W.toNat v))
 all_goals
   have HH : Hid (normB W v = _) := H.out.symm
   rw [e1, e2] at HH
   clear H
   go_enter Tryz.func130, Tryz.ntmps130
   go_wp2_with fail
   go_region_held3 (fun w' => w'.cell? ⟨w.heap.size, 0, none⟩ = some (.int .i64 W) ∧ w'.cell? ⟨w.heap.size, 1, none⟩ = some (.int .u64 (hi v)) ∧ w'.cell? ⟨w.heap.size, 2, none⟩ = some (.int .u64 (lo v))) (simp [go_sem, *])
    (first
     | (go_at_call 148; refine (value_any _ _ _).mono ?_; rintro e w1 ⟨rfl, hb1⟩; have hz1 := hb1.size; (try simp at hz1); have z1_0 : w.heap.size < w1.heap.size := (by omega); have c1_0_0 := hb1.get (b := w.heap.size) (o := 0) (v := .int .i64 (W)) (by first | (simp [go_sem]; done) | (simp [go_sem, *]; done)); have c1_0_1 := hb1.get (b := w.heap.size) (o := 1) (v := .int .u64 (hi (v))) (by first | (simp [go_sem]; done) | (simp [go_sem, *]; done)); have c1_0_2 := hb1.get (b := w.heap.size) (o := 2) (v := .int .u64 (lo (v))) (by first | (simp [go_sem]; done) | (simp [go_sem, *]; done)); clear hz1)
     | (go_at_call 133; refine (cut_to _ _ (by omega) (by omega) _).mono ?_; rintro e w2 ⟨rfl, hb2⟩; have hz2 := hb2.size; (try simp at hz2); have z2_0 : w.heap.size < w2.heap.size := (by omega); have c2_0_0 := hb2.get (b := w.heap.size) (o := 0) (v := .int .i64 (W)) (by first | (simp [go_sem]; done) | (simp [go_sem, *]; done)); have c2_0_1 := hb2.get (b := w.heap.size) (o := 1) (v := .int .u64 (hi (v))) (by first | (simp [go_sem]; done) | (simp [go_sem, *]; done)); have c2_0_2 := hb2.get (b := w.heap.size) (o := 2) (v := .int .u64 (lo (v))) (by first | (simp [go_sem]; done) | (simp [go_sem, *]; done)); clear hz2))
   go_wp2
   go_ret
   exact ⟨by rw [HH.out]; rfl, by repeat (first | with_reducible exact Fr.refl _ | with_reducible apply Fr.drewN | with_reducible apply Fr.drew | with_reducible apply Fr.alloc | (with_reducible refine Fr.set ?_ (by simp; try omega) _) | (with_reducible refine Fr.call ?_ (by assumption)))⟩
set_option maxHeartbeats 4000000 in
theorem normal_out (W v : Int) (h0 : W < 1 ∨ 128 < W) (w : World) :
   Calls Tryz.prog 130 #[bv W v] w fun e w' => e = .returned (.bool false) ∧ Fr w w' := by
 rcases h0 with h0 | h0
 · have g : decide (1 ≤ W) = false := by simp; omega
   go_enter Tryz.func130, Tryz.ntmps130
   go_wp2_with fail
   go_quiet (fail)
   go_wp2
   go_ret
   exact ⟨rfl, by repeat (first | with_reducible exact Fr.refl _ | with_reducible apply Fr.drewN | with_reducible apply Fr.drew | with_reducible apply Fr.alloc | (with_reducible refine Fr.set ?_ (by simp; try omega) _) | (with_reducible refine Fr.call ?_ (by assumption)))⟩
 · have g : decide (1 ≤ W) = true := by simp; omega
   have g2 : decide (W ≤ 128) = false := by simp; omega
   go_enter Tryz.func130, Tryz.ntmps130
   go_wp2_with fail
   go_quiet (fail)
   go_wp2
   go_ret
   exact ⟨rfl, by repeat (first | with_reducible exact Fr.refl _ | with_reducible apply Fr.drewN | with_reducible apply Fr.drew | with_reducible apply Fr.alloc | (with_reducible refine Fr.set ?_ (by simp; try omega) _) | (with_reducible refine Fr.call ?_ (by assumption)))⟩
theorem normal_any (W v : Int) (v0 : 0 ≤ v) (v1 : v < 340282366920938463463374607431768211456) (w : World) :
   Calls Tryz.prog 130 #[bv W v] w fun e w' => e = .returned (.bool (normB W v)) ∧ Fr w w' := by
 by_cases h : 1 ≤ W ∧ W ≤ 128
 · exact normal_in W v h.1 h.2 v0 v1 w
 · have e : normB W v = false := by unfold normB; exact decide_eq_false (by omega)
   rw [e]
   exact normal_out W v (by omega) w
set_option maxHeartbeats 4000000 in
theorem int_ok (W v : Int) (h : Norm W v) (s0 : -9223372036854775808 ≤ sgnI W v) (s1 : sgnI W v ≤ 9223372036854775807) (w : World) :
   Calls Tryz.prog 103 #[bv W v] w fun e w' => e = .returned (.tuple #[.int .i64 (sgnI W v), .bool true]) ∧ Fr w w' := by
 have HN := Lib.hid h
 obtain ⟨b1, b2⟩ := sgnI_bd h
 have H := Lib.hid (norm_to h); have hv := h.lt128; have hv0 := h.2.2.1; clear h
 obtain ⟨d1, d2⟩ := wrap64_bd (lo (sgnI W v))
 have E := Lib.hid (wrap_in64 _ s0 s1)
 have e1 : (hi (sgnI W v) == hi (wrap64 (lo (sgnI W v)))) = true := by rw [E.out]; exact beq_self_eq_true _
 have e2 : (lo (sgnI W v) == lo (wrap64 (lo (sgnI W v)))) = true := by rw [E.out]; exact beq_self_eq_true _
 go_enter Tryz.func103, Tryz.ntmps103
 go_wp2_with fail
 refine (normal_any _ _ hv0 hv _).mono ?_
 rintro e w1 ⟨rfl, hb1⟩
 have hz1 := hb1.size
 (try simp at hz1)
 have z1_0 : w.heap.size < w1.heap.size := (by omega)
 have c1_0_0 := hb1.get (b := w.heap.size) (o := 0) (v := .int .i64 (W)) (by first | (simp [go_sem]; done) | (simp [go_sem, *]; done))
 have c1_0_1 := hb1.get (b := w.heap.size) (o := 1) (v := .int .u64 (hi (v))) (by first | (simp [go_sem]; done) | (simp [go_sem, *]; done))
 have c1_0_2 := hb1.get (b := w.heap.size) (o := 2) (v := .int .u64 (lo (v))) (by first | (simp [go_sem]; done) | (simp [go_sem, *]; done))
 clear hz1
 rw [H.out]
 go_wp2_with fail
 refine (signed_any _ _ HN.out _).mono ?_
 rintro e w2 ⟨rfl, hb2⟩
 have hz2 := hb2.size
 (try simp at hz2)
 have z2_0 : w.heap.size < w2.heap.size := (by omega)
 have c2_0_0 := hb2.get (b := w.heap.size) (o := 0) (v := .int .i64 (W)) (by first | (simp [go_sem]; done) | (simp [go_sem, *]; done))
 have c2_0_1 := hb2.get (b := w.heap.size) (o := 1) (v := .int .u64 (hi (v))) (by first | (simp [go_sem]; done) | (simp [go_sem, *]; done))
 have c2_0_2 := hb2.get (b := w.heap.size) (o := 2) (v := .int .u64 (lo (v))) (by first | (simp [go_sem]; done) | (simp [go_sem, *]; done))
 clear hz2
 go_wp2_with fail
 go_region_held3 (fun w' => w'.cell? ⟨w2.heap.size, 0, none⟩ = some (.int .u64 (hi (sgnI W v))) ∧ w'.cell? ⟨w2.heap.size, 1, none⟩ = some (.int .u64 (lo (sgnI W v)))) (simp [go_sem, *])
   ((go_at_call 132; refine (fromInt_any _ (by assumption) (by assumption) _).mono ?_; rintro e w3 ⟨rfl, hb3⟩; have hz3 := hb3.size; (try simp at hz3); have z3_0 : w.heap.size < w3.heap.size := (by omega); have c3_0_0 := hb3.get (b := w.heap.size) (o := 0) (v := .int .i64 (W)) (by first | (simp [go_sem]; done) | (simp [go_sem, *]; done)); have c3_0_1 := hb3.get (b := w.heap.size) (o := 1) (v := .int .u64 (hi (v))) (by first | (simp [go_sem]; done) | (simp [go_sem, *]; done)); have c3_0_2 := hb3.get (b := w.heap.size) (o := 2) (v := .int .u64 (lo (v))) (by first | (simp [go_sem]; done) | (simp [go_sem, *]; done)); have z3_1 : w2.heap.size < w3.heap.size := (by omega); have c3_1_0 := hb3.get (b := w2.heap.size) (o := 0) (v := .int .u64 (hi (sgnI W v))) (by first | (simp [go_sem]; done) | (simp [go_sem, *]; done)); have c3_1_1 := hb3.get (b := w2.heap.size) (o := 1) (v := .int .u64 (lo (sgnI W v))) (by first | (simp [go_sem]; done) | (simp [go_sem, *]; done)); clear hz3))
 go_wp2
 go_ret2
 exact ⟨by rw [E.out]; rfl, by repeat (first | with_reducible exact Fr.refl _ | with_reducible apply Fr.drewN | with_reducible apply Fr.drew | with_reducible apply Fr.alloc | (with_reducible refine Fr.set ?_ (by simp; try omega) _) | (with_reducible refine Fr.call ?_ (by assumption)))⟩
set_option maxHeartbeats 4000000 in
theorem make_ok (W v : Int) (h0 : 1 ≤ W) (h1 : W ≤ 128) (w : World) :
   Calls Tryz.prog 104 #[.int .i64 W, .int .u64 (hi v), .int .u64 (lo v)] w fun e w' => e = .returned (bv W (cutI W.toNat v)) ∧ Fr w w' := by
 go_enter Tryz.func104, Tryz.ntmps104
 go_wp2_with fail
 refine (cut_to _ _ (by omega) (by omega) _).mono ?_
 rintro e w1 ⟨rfl, hb1⟩
 have hz1 := hb1.size
 (try simp at hz1)
 have z1_0 : w.heap.size < w1.heap.size := (by omega)
 have c1_0_0 := hb1.get (b := w.heap.size) (o := 0) (v := .int .i64 0) (by first | (simp [go_sem]; done) | (simp [go_sem, *]; done))
 have f1_0_0 := hb1.free (b := w.heap.size) (o := 0) (v := .int .i64 0) (by first | (simp [go_sem]; done) | (simp [go_sem, *]; done)) (by first | (simp [go_sem]; done) | (simp [go_sem, *]; done))
 have c1_0_1 := hb1.get (b := w.heap.size) (o := 1) (v := .int .u64 0) (by first | (simp [go_sem]; done) | (simp [go_sem, *]; done))
 have f1_0_1 := hb1.free (b := w.heap.size) (o := 1) (v := .int .u64 0) (by first | (simp [go_sem]; done) | (simp [go_sem, *]; done)) (by first | (simp [go_sem]; done) | (simp [go_sem, *]; done))
 have c1_0_2 := hb1.get (b := w.heap.size) (o := 2) (v := .int .u64 0) (by first | (simp [go_sem]; done) | (simp [go_sem, *]; done))
 have f1_0_2 := hb1.free (b := w.heap.size) (o := 2) (v := .int .u64 0) (by first | (simp [go_sem]; done) | (simp [go_sem, *]; done)) (by first | (simp [go_sem]; done) | (simp [go_sem, *]; done))
 clear hz1
 go_wp2
 exact bodyPost_ret (v := bv W (cutI W.toNat v)) (by simp [results, Tryz.results104, go_sem, *]) rfl ⟨rfl, by repeat (first | with_reducible exact Fr.refl _ | with_reducible apply Fr.drewN | with_reducible apply Fr.drew | with_reducible apply Fr.alloc | (with_reducible refine Fr.set ?_ (by simp; try omega) _) | (with_reducible refine Fr.call ?_ (by assumption)))⟩
end Go.Proofs.YtdipnhghdajplaaGreatDoor
