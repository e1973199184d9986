/- The document's Un, Make, FromInt, Ext, Extract: what they answer. -/
import Derived.Test.YtfnoocpopfapmaaRun
import Derived.Test.YtfnoocpopfapmaaNumc
import Derived.Test.YtfnoocpopfapmaaGd
namespace Go.Proofs.Ytfnoocpopfapmaa
open Go.RowKit

theorem cut_congr {n : Nat} {x y : Int} (h : x = y) : x % 2 ^ n = cutI n y := by rw [h]; rfl
theorem fill_false (m n : Nat) (x : Int) (h : n ≤ m) : fillI m x false % 2 ^ n = cutI n x := by
  unfold fillI cutI
  rw [if_neg (by simp), Int.sub_zero]
  exact Int.emod_emod_of_dvd _ ⟨2 ^ (m - n), by rw [← Int.pow_add, Nat.add_sub_cancel' h]⟩
set_option maxHeartbeats 3200000 in
set_option maxRecDepth 10000 in
theorem run_18 (n : Nat) (v : Int) (h : Norm n v) (w : World) :
    Calls Try.prog 12 #[.int .i64 18, bv n v] w fun e w' => e = .returned (bv n ((-1 - v) % 2 ^ n)) ∧ Fr w w' := by
  obtain ⟨h1, h2, v0, v1⟩ := h
  rw [Int.toNat_natCast] at v1
  have HN := Lib.hid (fun wx => rnormal_any n v v0 (Int.lt_of_lt_of_le v1 (pow_le128 n (by omega))) wx)
  rw [norm_to ⟨h1, h2, v0, by rw [Int.toNat_natCast]; exact v1⟩] at HN
  have HO := Lib.hid (fun wx => of_b n v (by omega) wx)
  have HI := Lib.hid (fun A c wx hr => rnot_b A n c v (by omega) wx hr)
  have HT := Lib.hid (fun A c wx hr => to_any A n c (-1 - v) (by omega) (by omega) wx hr)
  obtain ⟨b1, b2⟩ := box_res w (.int .i64 (n : Int)) (.int .u64 (hi v)) (.int .u64 (lo v))
  have BA := Lib.hid b1
  have BR := Lib.hid b2
  clear b1 b2
  clear v0 v1 h1 h2
  go_enter Try.func12, Try.ntmps12
  go_wp2_with (first
    | (go_at_call 14
       refine (HN.out _).mono ?_
       rintro e w1 ⟨rfl, hf⟩
       have HS1 := Lib.hid (hf)
       clear hf
       obtain ⟨ba0_1, ba1_1, ba2_1⟩ := (BA.out.fr HS1.out).three)
    | (go_at_call 39
       refine (HO.out _).mono ?_
       rintro e w2 ⟨A2, c2, rfl, ho, hr, hl2, hm2, hf⟩
       have HO2 := Lib.hid ho
       have HR2 := Lib.hid hr
       clear ho hr
       have HS2 := Lib.hid (HS1.out.call hf)
       clear hf
       obtain ⟨ba0_2, ba1_2, ba2_2⟩ := (BA.out.fr HS2.out).three)
    | (go_at_call 43
       refine (HI.out _ _ _ HR2.out).mono ?_
       rintro e w3 ⟨A3, c3, rfl, ho, hr, hl3, hm3, hf⟩
       have HO3 := Lib.hid ho
       have HR3 := Lib.hid hr
       clear ho hr
       have HS3 := Lib.hid (HS2.out.call hf)
       clear hf
       obtain ⟨ba0_3, ba1_3, ba2_3⟩ := (BA.out.fr HS3.out).three)
    | (go_at_call 40
       refine (HT.out _ _ _ HR3.out).mono ?_
       rintro e w4 ⟨rfl, hf⟩
       have HS4 := Lib.hid (HS3.out.call hf)
       clear hf
       obtain ⟨ba0_4, ba1_4, ba2_4⟩ := (BA.out.fr HS4.out).three
       obtain ⟨br0_4, br1_4, br2_4⟩ := (BR.out.fr HS4.out).three
       obtain ⟨brf0_4, brf1_4, brf2_4⟩ := (BR.out.fr HS4.out).frees))
  have HF := Lib.hid ((((Fr.refl w).alloc _).alloc _).call HS4.out)
  exact bodyPost_ret (v := bv n ((-1 - v) % 2 ^ n)) (by simp [results, Try.results12, go_sem, hi_zero, lo_zero, *]) rfl ⟨rfl, by repeat (first | with_reducible exact HF.out | (with_reducible refine Fr.set ?_ (by simp) _))⟩
set_option maxHeartbeats 3200000 in
set_option maxRecDepth 10000 in
theorem run_19 (n : Nat) (v : Int) (h : Norm n v) (w : World) :
    Calls Try.prog 12 #[.int .i64 19, bv n v] w fun e w' => e = .returned (bv n ((-v) % 2 ^ n)) ∧ Fr w w' := by
  obtain ⟨h1, h2, v0, v1⟩ := h
  rw [Int.toNat_natCast] at v1
  have HN := Lib.hid (fun wx => rnormal_any n v v0 (Int.lt_of_lt_of_le v1 (pow_le128 n (by omega))) wx)
  rw [norm_to ⟨h1, h2, v0, by rw [Int.toNat_natCast]; exact v1⟩] at HN
  have HO := Lib.hid (fun wx => of_b n v (by omega) wx)
  have HI := Lib.hid (fun A c wx hr => rneg_b A n c v (by omega) wx hr)
  have HT := Lib.hid (fun A c wx hr => to_any A n c (-v) (by omega) (by omega) wx hr)
  obtain ⟨b1, b2⟩ := box_res w (.int .i64 (n : Int)) (.int .u64 (hi v)) (.int .u64 (lo v))
  have BA := Lib.hid b1
  have BR := Lib.hid b2
  clear b1 b2
  clear v0 v1 h1 h2
  go_enter Try.func12, Try.ntmps12
  go_wp2_with (first
    | (go_at_call 14
       refine (HN.out _).mono ?_
       rintro e w1 ⟨rfl, hf⟩
       have HS1 := Lib.hid (hf)
       clear hf
       obtain ⟨ba0_1, ba1_1, ba2_1⟩ := (BA.out.fr HS1.out).three)
    | (go_at_call 39
       refine (HO.out _).mono ?_
       rintro e w2 ⟨A2, c2, rfl, ho, hr, hl2, hm2, hf⟩
       have HO2 := Lib.hid ho
       have HR2 := Lib.hid hr
       clear ho hr
       have HS2 := Lib.hid (HS1.out.call hf)
       clear hf
       obtain ⟨ba0_2, ba1_2, ba2_2⟩ := (BA.out.fr HS2.out).three)
    | (go_at_call 52
       refine (HI.out _ _ _ HR2.out).mono ?_
       rintro e w3 ⟨A3, c3, rfl, ho, hr, hl3, hm3, hf⟩
       have HO3 := Lib.hid ho
       have HR3 := Lib.hid hr
       clear ho hr
       have HS3 := Lib.hid (HS2.out.call hf)
       clear hf
       obtain ⟨ba0_3, ba1_3, ba2_3⟩ := (BA.out.fr HS3.out).three)
    | (go_at_call 40
       refine (HT.out _ _ _ HR3.out).mono ?_
       rintro e w4 ⟨rfl, hf⟩
       have HS4 := Lib.hid (HS3.out.call hf)
       clear hf
       obtain ⟨ba0_4, ba1_4, ba2_4⟩ := (BA.out.fr HS4.out).three
       obtain ⟨br0_4, br1_4, br2_4⟩ := (BR.out.fr HS4.out).three
       obtain ⟨brf0_4, brf1_4, brf2_4⟩ := (BR.out.fr HS4.out).frees))
  have HF := Lib.hid ((((Fr.refl w).alloc _).alloc _).call HS4.out)
  exact bodyPost_ret (v := bv n ((-v) % 2 ^ n)) (by simp [results, Try.results12, go_sem, hi_zero, lo_zero, *]) rfl ⟨rfl, by repeat (first | with_reducible exact HF.out | (with_reducible refine Fr.set ?_ (by simp) _))⟩
set_option maxHeartbeats 3200000 in
set_option maxRecDepth 10000 in
theorem run_no (op W v : Int) (h : Norm W v) (o1 : (op == 18) = false) (o2 : (op == 19) = false) (w : World) :
    Calls Try.prog 12 #[.int .i64 op, bv W v] w fun e w' => e = .returned (bv 0 0) ∧ Fr w w' := by
  obtain ⟨h1, h2, v0, v1⟩ := h
  have HN := Lib.hid (fun wx => rnormal_any W v v0 (Int.lt_of_lt_of_le v1 (pow_le128 W.toNat (by omega))) wx)
  rw [norm_to ⟨h1, h2, v0, v1⟩] at HN
  obtain ⟨b1, b2⟩ := box_res w (.int .i64 W) (.int .u64 (hi v)) (.int .u64 (lo v))
  have BA := Lib.hid b1
  have BR := Lib.hid b2
  clear b1 b2
  clear v0 v1 h1 h2
  go_enter Try.func12, Try.ntmps12
  go_wp2_with (first
    | (go_at_call 14
       refine (HN.out _).mono ?_
       rintro e w1 ⟨rfl, hf⟩
       have HS1 := Lib.hid (hf)
       clear hf
       obtain ⟨ba0_1, ba1_1, ba2_1⟩ := (BA.out.fr HS1.out).three
       obtain ⟨br0_1, br1_1, br2_1⟩ := (BR.out.fr HS1.out).three
       obtain ⟨brf0_1, brf1_1, brf2_1⟩ := (BR.out.fr HS1.out).frees))
  have HF := Lib.hid ((((Fr.refl w).alloc _).alloc _).call HS1.out)
  exact bodyPost_ret (v := bv 0 0) (by simp [results, Try.results12, go_sem, hi_zero, lo_zero, *]) rfl ⟨rfl, by repeat (first | with_reducible exact HF.out | (with_reducible refine Fr.set ?_ (by simp) _))⟩
set_option maxHeartbeats 3200000 in
set_option maxRecDepth 10000 in
theorem rmake_ok (n : Nat) (v : Int) (h1 : 1 ≤ n) (hn : n ≤ 128) (w : World) :
    Calls Try.prog 22 #[.int .i64 (n : Int), .int .u64 (hi v), .int .u64 (lo v)] w fun e w' => e = .returned (bv n (cutI n v)) ∧ Fr w w' := by
  have HO := Lib.hid (show ∀ wx, Calls Try.prog 39 #[.agg #[.int .i64 128, .int .u64 (hi v), .int .u64 (lo v)]] wx fun e w' => AnsB wx 128 v e w' from fun wx => of_b 128 v (by omega) wx)
  have HC := Lib.hid (fun A c wx hr => rcut_b A 128 c n v false (by omega) (by omega) wx hr)
  have HT := Lib.hid (fun A c wx hr => to_any A n c (fillI 128 v false) h1 hn wx hr)
  rw [fill_false 128 n v hn] at HT
  have BR := Lib.hid (Bk.new w 24 #[.int .i64 0, .int .u64 0, .int .u64 0])
  have q1 : ¬ (n : Int) < 1 := by omega
  have q2 : (n : Int) ≤ 128 := by omega
  go_enter Try.func22, Try.ntmps22
  go_wp2_with (first
    | (go_at_call 39
       refine (HO.out _).mono ?_
       rintro e w1 ⟨A1, c1, rfl, ho, hr, hl1, hm1, hf⟩
       have HO1 := Lib.hid ho
       have HR1 := Lib.hid hr
       clear ho hr
       have HS1 := Lib.hid (hf)
       clear hf)
    | (go_at_call 60
       refine (HC.out _ _ _ HR1.out).mono ?_
       rintro e w2 ⟨A2, c2, rfl, ho, hr, hl2, hm2, hf⟩
       have HO2 := Lib.hid ho
       have HR2 := Lib.hid hr
       clear ho hr
       have HS2 := Lib.hid (HS1.out.call hf)
       clear hf)
    | (go_at_call 40
       refine (HT.out _ _ _ HR2.out).mono ?_
       rintro e w3 ⟨rfl, hf⟩
       have HS3 := Lib.hid (HS2.out.call hf)
       clear hf
       obtain ⟨br0_3, br1_3, br2_3⟩ := (BR.out.fr HS3.out).three
       obtain ⟨brf0_3, brf1_3, brf2_3⟩ := (BR.out.fr HS3.out).frees))
  have HF := Lib.hid (((Fr.refl w).alloc _).call HS3.out)
  exact bodyPost_ret (v := bv n (cutI n v)) (by simp [results, Try.results22, go_sem, hi_zero, lo_zero, *]) rfl ⟨rfl, by repeat (first | with_reducible exact HF.out | (with_reducible refine Fr.set ?_ (by simp) _))⟩
set_option maxHeartbeats 3200000 in
set_option maxRecDepth 10000 in
theorem rmake_lo (W h l : Int) (h0 : W < 1) (w : World) :
    Calls Try.prog 22 #[.int .i64 W, .int .u64 h, .int .u64 l] w fun e w' => e = .returned (bv 0 0) ∧ Fr w w' := by
  have BR := Lib.hid (Bk.new w 24 #[.int .i64 0, .int .u64 0, .int .u64 0])
  go_enter Try.func22, Try.ntmps22
  go_wp2
  exact bodyPost_ret (v := bv 0 0) (by simp [results, Try.results22, go_sem, hi_zero, lo_zero, *]) rfl ⟨rfl, by repeat (first | with_reducible exact Fr.refl _ | with_reducible apply Fr.alloc | (with_reducible refine Fr.set ?_ (by simp) _))⟩
set_option maxHeartbeats 3200000 in
set_option maxRecDepth 10000 in
theorem rmake_hi (W h l : Int) (h0 : 128 < W) (w : World) :
    Calls Try.prog 22 #[.int .i64 W, .int .u64 h, .int .u64 l] w fun e w' => e = .returned (bv 0 0) ∧ Fr w w' := by
  have BR := Lib.hid (Bk.new w 24 #[.int .i64 0, .int .u64 0, .int .u64 0])
  go_enter Try.func22, Try.ntmps22
  go_wp2
  exact bodyPost_ret (v := bv 0 0) (by simp [results, Try.results22, go_sem, hi_zero, lo_zero, *]) rfl ⟨rfl, by repeat (first | with_reducible exact Fr.refl _ | with_reducible apply Fr.alloc | (with_reducible refine Fr.set ?_ (by simp) _))⟩
theorem hi_64 (x : Int) : hi (x % 18446744073709551616) = 0 := by unfold hi; omega
theorem lo_64 (x : Int) : lo (x % 18446744073709551616) = x % 18446744073709551616 := by unfold lo; omega
theorem fill_64 (x : Int) (h0 : -9223372036854775808 ≤ x) (h1 : x ≤ 9223372036854775807) : fillI 64 (x % 18446744073709551616) (decide (x < 0)) = x := by
  have e : (2 : Int) ^ 64 = 18446744073709551616 := by decide
  unfold fillI
  rw [e]
  by_cases h : x < 0
  · rw [if_pos (by simpa using h)]; omega
  · rw [if_neg (by simpa using h)]; omega
set_option maxHeartbeats 3200000 in
set_option maxRecDepth 10000 in
theorem rfromInt_ok (n : Nat) (x : Int) (h1 : 1 ≤ n) (hn : n ≤ 128) (x0 : -9223372036854775808 ≤ x) (x1 : x ≤ 9223372036854775807) (w : World) :
    Calls Try.prog 24 #[.int .i64 (n : Int), .int .i64 x] w fun e w' => e = .returned (bv n (x % 2 ^ n)) ∧ Fr w w' := by
  have HO := Lib.hid (show ∀ wx, Calls Try.prog 39 #[.agg #[.int .i64 64, .int .u64 (hi (x % 18446744073709551616)), .int .u64 (lo (x % 18446744073709551616))]] wx fun e w' => AnsB wx 64 (x % 18446744073709551616) e w' from fun wx => of_b 64 _ (by omega) wx)
  rw [hi_64, lo_64] at HO
  have HC := Lib.hid (fun A c wx hr => rcut_b A 64 c n (x % 18446744073709551616) (decide (x < 0)) (by omega) (by omega) wx hr)
  rw [fill_64 x x0 x1] at HC
  have HT := Lib.hid (fun A c wx hr => to_any A n c x h1 hn wx hr)
  have BR := Lib.hid (Bk.new w 24 #[.int .i64 0, .int .u64 0, .int .u64 0])
  have q1 : ¬ (n : Int) < 1 := by omega
  have q2 : (n : Int) ≤ 128 := by omega
  generalize hX : x % 18446744073709551616 = X at *
  have HX := Lib.hid (show IntKind.u64.wrap x = X by rw [IntKind.wrap_u64]; exact hX)
  have hx := HX.out
  clear hX
  go_enter Try.func24, Try.ntmps24
  go_wp2_with (first
    | (go_at_call 39
       refine (HO.out _).mono ?_
       rintro e w1 ⟨A1, c1, rfl, ho, hr, hl1, hm1, hf⟩
       have HO1 := Lib.hid ho
       have HR1 := Lib.hid hr
       clear ho hr
       have HS1 := Lib.hid (hf)
       clear hf)
    | (go_at_call 60
       refine (HC.out _ _ _ HR1.out).mono ?_
       rintro e w2 ⟨A2, c2, rfl, ho, hr, hl2, hm2, hf⟩
       have HO2 := Lib.hid ho
       have HR2 := Lib.hid hr
       clear ho hr
       have HS2 := Lib.hid (HS1.out.call hf)
       clear hf)
    | (go_at_call 40
       refine (HT.out _ _ _ HR2.out).mono ?_
       rintro e w3 ⟨rfl, hf⟩
       have HS3 := Lib.hid (HS2.out.call hf)
       clear hf
       obtain ⟨br0_3, br1_3, br2_3⟩ := (BR.out.fr HS3.out).three
       obtain ⟨brf0_3, brf1_3, brf2_3⟩ := (BR.out.fr HS3.out).frees))
  have HF := Lib.hid (((Fr.refl w).alloc _).call HS3.out)
  exact bodyPost_ret (v := bv n (x % 2 ^ n)) (by simp [results, Try.results24, go_sem, hi_zero, lo_zero, *]) rfl ⟨rfl, by repeat (first | with_reducible exact HF.out | (with_reducible refine Fr.set ?_ (by simp) _))⟩
set_option maxHeartbeats 3200000 in
set_option maxRecDepth 10000 in
theorem rfromInt_lo (W x : Int) (h0 : W < 1) (w : World) :
    Calls Try.prog 24 #[.int .i64 W, .int .i64 x] w fun e w' => e = .returned (bv 0 0) ∧ Fr w w' := by
  have BR := Lib.hid (Bk.new w 24 #[.int .i64 0, .int .u64 0, .int .u64 0])
  go_enter Try.func24, Try.ntmps24
  go_wp2
  exact bodyPost_ret (v := bv 0 0) (by simp [results, Try.results24, go_sem, hi_zero, lo_zero, *]) rfl ⟨rfl, by repeat (first | with_reducible exact Fr.refl _ | with_reducible apply Fr.alloc | (with_reducible refine Fr.set ?_ (by simp) _))⟩
set_option maxHeartbeats 3200000 in
set_option maxRecDepth 10000 in
theorem rfromInt_hi (W x : Int) (h0 : 128 < W) (w : World) :
    Calls Try.prog 24 #[.int .i64 W, .int .i64 x] w fun e w' => e = .returned (bv 0 0) ∧ Fr w w' := by
  have BR := Lib.hid (Bk.new w 24 #[.int .i64 0, .int .u64 0, .int .u64 0])
  go_enter Try.func24, Try.ntmps24
  go_wp2
  exact bodyPost_ret (v := bv 0 0) (by simp [results, Try.results24, go_sem, hi_zero, lo_zero, *]) rfl ⟨rfl, by repeat (first | with_reducible exact Fr.refl _ | with_reducible apply Fr.alloc | (with_reducible refine Fr.set ?_ (by simp) _))⟩
theorem top_bit (n : Nat) (v : Int) (h1 : 1 ≤ n) (v0 : 0 ≤ v) (v1 : v < 2 ^ n) : bitI v (n - 1) = decide (¬ v < 2 ^ (n - 1)) := by
  have e : (2 : Int) ^ n = 2 ^ (n - 1) * 2 := pow_pred n h1
  have hp := two_pos (n - 1)
  unfold bitI
  refine decide_eq_decide.2 ?_
  by_cases h : v < 2 ^ (n - 1)
  · rw [Int.ediv_eq_zero_of_lt v0 h]; simp; exact h
  · have e1 : v = (v - 2 ^ (n - 1)) + 2 ^ (n - 1) * 1 := by omega
    rw [e1, Int.add_mul_ediv_left _ _ (by omega), Int.ediv_eq_zero_of_lt (by omega) (by omega)]
    simp; omega
theorem fill_sign (n : Nat) (v : Int) (h1 : 1 ≤ n) (v0 : 0 ≤ v) (v1 : v < 2 ^ n) : fillI n v (bitI v (n - 1)) = sgnI n v := by
  rw [top_bit n v h1 v0 v1]
  unfold fillI sgnI
  rw [Int.toNat_natCast, Int.emod_eq_of_lt v0 v1]
  by_cases h : v < 2 ^ (n - 1)
  · rw [if_neg (by simpa using h), if_pos h]; omega
  · rw [if_pos (by simpa using h), if_neg h]
theorem fill_norm (n : Nat) (v : Int) (v0 : 0 ≤ v) (v1 : v < 2 ^ n) : fillI n v false = v := by
  unfold fillI
  rw [if_neg (by simp), Int.emod_eq_of_lt v0 v1]; omega
set_option maxHeartbeats 3200000 in
set_option maxRecDepth 10000 in
theorem rext_bad (W v x : Int) (b : Bool) (v0 : 0 ≤ v) (v1 : v < 340282366920938463463374607431768211456) (h : normB W v = false) (w : World) :
    Calls Try.prog 26 #[bv W v, .int .i64 x, .bool b] w fun e w' => e = .returned (bv 0 0) ∧ Fr w w' := by
  have HN := Lib.hid (fun wx => rnormal_any W v v0 v1 wx)
  rw [h] at HN
  obtain ⟨b1, b2⟩ := box_res w (.int .i64 W) (.int .u64 (hi v)) (.int .u64 (lo v))
  have BA := Lib.hid b1
  have BR := Lib.hid b2
  clear b1 b2
  clear v0 v1 h
  go_enter Try.func26, Try.ntmps26
  go_wp2_with (first
    | (go_at_call 14
       refine (HN.out _).mono ?_
       rintro e w1 ⟨rfl, hf⟩
       have HS1 := Lib.hid (hf)
       clear hf
       obtain ⟨ba0_1, ba1_1, ba2_1⟩ := (BA.out.fr HS1.out).three
       obtain ⟨br0_1, br1_1, br2_1⟩ := (BR.out.fr HS1.out).three
       obtain ⟨brf0_1, brf1_1, brf2_1⟩ := (BR.out.fr HS1.out).frees))
  have HF := Lib.hid ((((Fr.refl w).alloc _).alloc _).call HS1.out)
  exact bodyPost_ret (v := bv 0 0) (by simp [results, Try.results26, go_sem, hi_zero, lo_zero, *]) rfl ⟨rfl, by repeat (first | with_reducible exact HF.out | (with_reducible refine Fr.set ?_ (by simp) _))⟩
set_option maxHeartbeats 3200000 in
set_option maxRecDepth 10000 in
theorem rext_lo (W v x : Int) (b : Bool) (h : Norm W v) (h0 : x < 1) (w : World) :
    Calls Try.prog 26 #[bv W v, .int .i64 x, .bool b] w fun e w' => e = .returned (bv 0 0) ∧ Fr w w' := by
  obtain ⟨k1, k2, v0, v1⟩ := h
  have HN := Lib.hid (fun wx => rnormal_any W v v0 (Int.lt_of_lt_of_le v1 (pow_le128 W.toNat (by omega))) wx)
  rw [norm_to ⟨k1, k2, v0, v1⟩] at HN
  obtain ⟨b1, b2⟩ := box_res w (.int .i64 W) (.int .u64 (hi v)) (.int .u64 (lo v))
  have BA := Lib.hid b1
  have BR := Lib.hid b2
  clear b1 b2
  clear v0 v1 k1 k2
  go_enter Try.func26, Try.ntmps26
  go_wp2_with (first
    | (go_at_call 14
       refine (HN.out _).mono ?_
       rintro e w1 ⟨rfl, hf⟩
       have HS1 := Lib.hid (hf)
       clear hf
       obtain ⟨ba0_1, ba1_1, ba2_1⟩ := (BA.out.fr HS1.out).three
       obtain ⟨br0_1, br1_1, br2_1⟩ := (BR.out.fr HS1.out).three
       obtain ⟨brf0_1, brf1_1, brf2_1⟩ := (BR.out.fr HS1.out).frees))
  have HF := Lib.hid ((((Fr.refl w).alloc _).alloc _).call HS1.out)
  exact bodyPost_ret (v := bv 0 0) (by simp [results, Try.results26, go_sem, hi_zero, lo_zero, *]) rfl ⟨rfl, by repeat (first | with_reducible exact HF.out | (with_reducible refine Fr.set ?_ (by simp) _))⟩
set_option maxHeartbeats 3200000 in
set_option maxRecDepth 10000 in
theorem rext_hi (W v x : Int) (b : Bool) (h : Norm W v) (h0 : 128 < x) (w : World) :
    Calls Try.prog 26 #[bv W v, .int .i64 x, .bool b] w fun e w' => e = .returned (bv 0 0) ∧ Fr w w' := by
  obtain ⟨k1, k2, v0, v1⟩ := h
  have HN := Lib.hid (fun wx => rnormal_any W v v0 (Int.lt_of_lt_of_le v1 (pow_le128 W.toNat (by omega))) wx)
  rw [norm_to ⟨k1, k2, v0, v1⟩] at HN
  obtain ⟨b1, b2⟩ := box_res w (.int .i64 W) (.int .u64 (hi v)) (.int .u64 (lo v))
  have BA := Lib.hid b1
  have BR := Lib.hid b2
  clear b1 b2
  clear v0 v1 k1 k2
  go_enter Try.func26, Try.ntmps26
  go_wp2_with (first
    | (go_at_call 14
       refine (HN.out _).mono ?_
       rintro e w1 ⟨rfl, hf⟩
       have HS1 := Lib.hid (hf)
       clear hf
       obtain ⟨ba0_1, ba1_1, ba2_1⟩ := (BA.out.fr HS1.out).three
       obtain ⟨br0_1, br1_1, br2_1⟩ := (BR.out.fr HS1.out).three
       obtain ⟨brf0_1, brf1_1, brf2_1⟩ := (BR.out.fr HS1.out).frees))
  have HF := Lib.hid ((((Fr.refl w).alloc _).alloc _).call HS1.out)
  exact bodyPost_ret (v := bv 0 0) (by simp [results, Try.results26, go_sem, hi_zero, lo_zero, *]) rfl ⟨rfl, by repeat (first | with_reducible exact HF.out | (with_reducible refine Fr.set ?_ (by simp) _))⟩
set_option maxHeartbeats 3200000 in
set_option maxRecDepth 10000 in
theorem rext_false (n m : Nat) (v : Int) (h : Norm n v) (h1 : 1 ≤ m) (hm : m ≤ 128) (w : World) :
    Calls Try.prog 26 #[bv n v, .int .i64 (m : Int), .bool false] w fun e w' => e = .returned (bv m ((v) % 2 ^ m)) ∧ Fr w w' := by
  obtain ⟨k1, k2, v0, v1⟩ := h
  rw [Int.toNat_natCast] at v1
  have HN := Lib.hid (fun wx => rnormal_any n v v0 (Int.lt_of_lt_of_le v1 (pow_le128 n (by omega))) wx)
  rw [norm_to ⟨k1, k2, v0, by rw [Int.toNat_natCast]; exact v1⟩] at HN
  have HO := Lib.hid (fun wx => of_b n v (by omega) wx)
  have HC := Lib.hid (fun A c wx hr => rcut_b A n c m v false (by omega) (by omega) wx hr)
  rw [fill_norm n v v0 v1] at HC
  have HT := Lib.hid (fun A c wx hr => to_any A m c (v) h1 hm wx hr)
  obtain ⟨b1, b2⟩ := box_res w (.int .i64 (n : Int)) (.int .u64 (hi v)) (.int .u64 (lo v))
  have BA := Lib.hid b1
  have BR := Lib.hid b2
  clear b1 b2
  have q1 : ¬ (m : Int) < 1 := by omega
  have q2 : (m : Int) ≤ 128 := by omega
  clear v0 v1 k1 k2
  go_enter Try.func26, Try.ntmps26
  go_wp2_with (first
    | (go_at_call 14
       refine (HN.out _).mono ?_
       rintro e w1 ⟨rfl, hf⟩
       have HS1 := Lib.hid (hf)
       clear hf
       obtain ⟨ba0_1, ba1_1, ba2_1⟩ := (BA.out.fr HS1.out).three)
    | (go_at_call 39
       refine (HO.out _).mono ?_
       rintro e w2 ⟨A2, c2, rfl, ho, hr, hl2, hm2, hf⟩
       have HO2 := Lib.hid ho
       have HR2 := Lib.hid hr
       clear ho hr
       have HS2 := Lib.hid (HS1.out.call hf)
       clear hf
       obtain ⟨ba0_2, ba1_2, ba2_2⟩ := (BA.out.fr HS2.out).three)
    | (go_at_call 60
       refine (HC.out _ _ _ HR2.out).mono ?_
       rintro e w3 ⟨A3, c3, rfl, ho, hr, hl3, hm3, hf⟩
       have HO3 := Lib.hid ho
       have HR3 := Lib.hid hr
       clear ho hr
       have HS3 := Lib.hid (HS2.out.call hf)
       clear hf
       obtain ⟨ba0_3, ba1_3, ba2_3⟩ := (BA.out.fr HS3.out).three)
    | (go_at_call 40
       refine (HT.out _ _ _ HR3.out).mono ?_
       rintro e w4 ⟨rfl, hf⟩
       have HS4 := Lib.hid (HS3.out.call hf)
       clear hf
       obtain ⟨ba0_4, ba1_4, ba2_4⟩ := (BA.out.fr HS4.out).three
       obtain ⟨br0_4, br1_4, br2_4⟩ := (BR.out.fr HS4.out).three
       obtain ⟨brf0_4, brf1_4, brf2_4⟩ := (BR.out.fr HS4.out).frees))
  have HF := Lib.hid ((((Fr.refl w).alloc _).alloc _).call HS4.out)
  exact bodyPost_ret (v := bv m ((v) % 2 ^ m)) (by simp [results, Try.results26, go_sem, hi_zero, lo_zero, *]) rfl ⟨rfl, by repeat (first | with_reducible exact HF.out | (with_reducible refine Fr.set ?_ (by simp) _))⟩
set_option maxHeartbeats 3200000 in
set_option maxRecDepth 10000 in
theorem rext_true (n m : Nat) (v : Int) (h : Norm n v) (h1 : 1 ≤ m) (hm : m ≤ 128) (w : World) :
    Calls Try.prog 26 #[bv n v, .int .i64 (m : Int), .bool true] w fun e w' => e = .returned (bv m ((sgnI n v) % 2 ^ m)) ∧ Fr w w' := by
  obtain ⟨k1, k2, v0, v1⟩ := h
  rw [Int.toNat_natCast] at v1
  have HN := Lib.hid (fun wx => rnormal_any n v v0 (Int.lt_of_lt_of_le v1 (pow_le128 n (by omega))) wx)
  rw [norm_to ⟨k1, k2, v0, by rw [Int.toNat_natCast]; exact v1⟩] at HN
  have HO := Lib.hid (fun wx => of_b n v (by omega) wx)
  have HG := Lib.hid (fun A c wx hr => sign_any A n c v (by omega) (by omega) wx hr)
  have HC := Lib.hid (fun A c wx hr => rcut_b A n c m v (bitI v (n - 1)) (by omega) (by omega) wx hr)
  rw [fill_sign n v (by omega) v0 v1] at HC
  generalize bitI v (n - 1) = sg at *
  have HT := Lib.hid (fun A c wx hr => to_any A m c (sgnI n v) h1 hm wx hr)
  obtain ⟨b1, b2⟩ := box_res w (.int .i64 (n : Int)) (.int .u64 (hi v)) (.int .u64 (lo v))
  have BA := Lib.hid b1
  have BR := Lib.hid b2
  clear b1 b2
  have q1 : ¬ (m : Int) < 1 := by omega
  have q2 : (m : Int) ≤ 128 := by omega
  clear v0 v1 k1 k2
  go_enter Try.func26, Try.ntmps26
  go_wp2_with (first
    | (go_at_call 14
       refine (HN.out _).mono ?_
       rintro e w1 ⟨rfl, hf⟩
       have HS1 := Lib.hid (hf)
       clear hf
       obtain ⟨ba0_1, ba1_1, ba2_1⟩ := (BA.out.fr HS1.out).three)
    | (go_at_call 39
       refine (HO.out _).mono ?_
       rintro e w2 ⟨A2, c2, rfl, ho, hr, hl2, hm2, hf⟩
       have HO2 := Lib.hid ho
       have HR2 := Lib.hid hr
       clear ho hr
       have HS2 := Lib.hid (HS1.out.call hf)
       clear hf
       obtain ⟨ba0_2, ba1_2, ba2_2⟩ := (BA.out.fr HS2.out).three)
    | (go_at_call 60
       refine (HC.out _ _ _ HR2.out).mono ?_
       rintro e w3 ⟨A3, c3, rfl, ho, hr, hl3, hm3, hf⟩
       have HO3 := Lib.hid ho
       have HR3 := Lib.hid hr
       clear ho hr
       have HS3 := Lib.hid (HS2.out.call hf)
       clear hf
       obtain ⟨ba0_3, ba1_3, ba2_3⟩ := (BA.out.fr HS3.out).three)
    | (go_at_call 40
       refine (HT.out _ _ _ HR3.out).mono ?_
       rintro e w4 ⟨rfl, hf⟩
       have HS4 := Lib.hid (HS3.out.call hf)
       clear hf
       obtain ⟨ba0_4, ba1_4, ba2_4⟩ := (BA.out.fr HS4.out).three
       obtain ⟨br0_4, br1_4, br2_4⟩ := (BR.out.fr HS4.out).three
       obtain ⟨brf0_4, brf1_4, brf2_4⟩ := (BR.out.fr HS4.out).frees)
    | (go_at_call 49
       refine (HG.out _ _ _ HR2.out).mono ?_
       rintro e w5 ⟨rfl, rfl⟩))
  have HF := Lib.hid ((((Fr.refl w).alloc _).alloc _).call HS4.out)
  exact bodyPost_ret (v := bv m ((sgnI n v) % 2 ^ m)) (by simp [results, Try.results26, go_sem, hi_zero, lo_zero, *]) rfl ⟨rfl, by repeat (first | with_reducible exact HF.out | (with_reducible refine Fr.set ?_ (by simp) _))⟩
set_option maxHeartbeats 3200000 in
set_option maxRecDepth 10000 in
theorem rextract_bad (W v x y : Int) (v0 : 0 ≤ v) (v1 : v < 340282366920938463463374607431768211456) (h : normB W v = false) (w : World) :
    Calls Try.prog 16 #[bv W v, .int .i64 x, .int .i64 y] w fun e w' => e = .returned (bv 0 0) ∧ Fr w w' := by
  have HN := Lib.hid (fun wx => rnormal_any W v v0 v1 wx)
  rw [h] at HN
  obtain ⟨b1, b2⟩ := box_res w (.int .i64 W) (.int .u64 (hi v)) (.int .u64 (lo v))
  have BA := Lib.hid b1
  have BR := Lib.hid b2
  clear b1 b2
  clear v0 v1 h
  go_enter Try.func16, Try.ntmps16
  go_wp2_with (first
    | (go_at_call 14
       refine (HN.out _).mono ?_
       rintro e w1 ⟨rfl, hf⟩
       have HS1 := Lib.hid (hf)
       clear hf
       obtain ⟨ba0_1, ba1_1, ba2_1⟩ := (BA.out.fr HS1.out).three
       obtain ⟨br0_1, br1_1, br2_1⟩ := (BR.out.fr HS1.out).three
       obtain ⟨brf0_1, brf1_1, brf2_1⟩ := (BR.out.fr HS1.out).frees))
  have HF := Lib.hid ((((Fr.refl w).alloc _).alloc _).call HS1.out)
  exact bodyPost_ret (v := bv 0 0) (by simp [results, Try.results16, go_sem, hi_zero, lo_zero, *]) rfl ⟨rfl, by repeat (first | with_reducible exact HF.out | (with_reducible refine Fr.set ?_ (by simp) _))⟩
set_option maxHeartbeats 3200000 in
set_option maxRecDepth 10000 in
theorem rextract_a (W v x y : Int) (h : Norm W v) (h0 : y < 0) (w : World) :
    Calls Try.prog 16 #[bv W v, .int .i64 x, .int .i64 y] w fun e w' => e = .returned (bv 0 0) ∧ Fr w w' := by
  obtain ⟨k1, k2, v0, v1⟩ := h
  have HN := Lib.hid (fun wx => rnormal_any W v v0 (Int.lt_of_lt_of_le v1 (pow_le128 W.toNat (by omega))) wx)
  rw [norm_to ⟨k1, k2, v0, v1⟩] at HN
  obtain ⟨b1, b2⟩ := box_res w (.int .i64 W) (.int .u64 (hi v)) (.int .u64 (lo v))
  have BA := Lib.hid b1
  have BR := Lib.hid b2
  clear b1 b2
  clear v0 v1 k1 k2
  go_enter Try.func16, Try.ntmps16
  go_wp2_with (first
    | (go_at_call 14
       refine (HN.out _).mono ?_
       rintro e w1 ⟨rfl, hf⟩
       have HS1 := Lib.hid (hf)
       clear hf
       obtain ⟨ba0_1, ba1_1, ba2_1⟩ := (BA.out.fr HS1.out).three
       obtain ⟨br0_1, br1_1, br2_1⟩ := (BR.out.fr HS1.out).three
       obtain ⟨brf0_1, brf1_1, brf2_1⟩ := (BR.out.fr HS1.out).frees))
  have HF := Lib.hid ((((Fr.refl w).alloc _).alloc _).call HS1.out)
  exact bodyPost_ret (v := bv 0 0) (by simp [results, Try.results16, go_sem, hi_zero, lo_zero, *]) rfl ⟨rfl, by repeat (first | with_reducible exact HF.out | (with_reducible refine Fr.set ?_ (by simp) _))⟩
set_option maxHeartbeats 3200000 in
set_option maxRecDepth 10000 in
theorem rextract_b (W v x y : Int) (h : Norm W v) (h00 : 0 ≤ y) (h0 : x < y) (w : World) :
    Calls Try.prog 16 #[bv W v, .int .i64 x, .int .i64 y] w fun e w' => e = .returned (bv 0 0) ∧ Fr w w' := by
  obtain ⟨k1, k2, v0, v1⟩ := h
  have HN := Lib.hid (fun wx => rnormal_any W v v0 (Int.lt_of_lt_of_le v1 (pow_le128 W.toNat (by omega))) wx)
  rw [norm_to ⟨k1, k2, v0, v1⟩] at HN
  obtain ⟨b1, b2⟩ := box_res w (.int .i64 W) (.int .u64 (hi v)) (.int .u64 (lo v))
  have BA := Lib.hid b1
  have BR := Lib.hid b2
  clear b1 b2
  clear v0 v1 k1 k2
  go_enter Try.func16, Try.ntmps16
  go_wp2_with (first
    | (go_at_call 14
       refine (HN.out _).mono ?_
       rintro e w1 ⟨rfl, hf⟩
       have HS1 := Lib.hid (hf)
       clear hf
       obtain ⟨ba0_1, ba1_1, ba2_1⟩ := (BA.out.fr HS1.out).three
       obtain ⟨br0_1, br1_1, br2_1⟩ := (BR.out.fr HS1.out).three
       obtain ⟨brf0_1, brf1_1, brf2_1⟩ := (BR.out.fr HS1.out).frees))
  have HF := Lib.hid ((((Fr.refl w).alloc _).alloc _).call HS1.out)
  exact bodyPost_ret (v := bv 0 0) (by simp [results, Try.results16, go_sem, hi_zero, lo_zero, *]) rfl ⟨rfl, by repeat (first | with_reducible exact HF.out | (with_reducible refine Fr.set ?_ (by simp) _))⟩
set_option maxHeartbeats 3200000 in
set_option maxRecDepth 10000 in
theorem rextract_c (W v x y : Int) (h : Norm W v) (h00 : 0 ≤ y) (h01 : y ≤ x) (h0 : W ≤ x) (w : World) :
    Calls Try.prog 16 #[bv W v, .int .i64 x, .int .i64 y] w fun e w' => e = .returned (bv 0 0) ∧ Fr w w' := by
  obtain ⟨k1, k2, v0, v1⟩ := h
  have HN := Lib.hid (fun wx => rnormal_any W v v0 (Int.lt_of_lt_of_le v1 (pow_le128 W.toNat (by omega))) wx)
  rw [norm_to ⟨k1, k2, v0, v1⟩] at HN
  obtain ⟨b1, b2⟩ := box_res w (.int .i64 W) (.int .u64 (hi v)) (.int .u64 (lo v))
  have BA := Lib.hid b1
  have BR := Lib.hid b2
  clear b1 b2
  clear v0 v1 k1 k2
  go_enter Try.func16, Try.ntmps16
  go_wp2_with (first
    | (go_at_call 14
       refine (HN.out _).mono ?_
       rintro e w1 ⟨rfl, hf⟩
       have HS1 := Lib.hid (hf)
       clear hf
       obtain ⟨ba0_1, ba1_1, ba2_1⟩ := (BA.out.fr HS1.out).three
       obtain ⟨br0_1, br1_1, br2_1⟩ := (BR.out.fr HS1.out).three
       obtain ⟨brf0_1, brf1_1, brf2_1⟩ := (BR.out.fr HS1.out).frees))
  have HF := Lib.hid ((((Fr.refl w).alloc _).alloc _).call HS1.out)
  exact bodyPost_ret (v := bv 0 0) (by simp [results, Try.results16, go_sem, hi_zero, lo_zero, *]) rfl ⟨rfl, by repeat (first | with_reducible exact HF.out | (with_reducible refine Fr.set ?_ (by simp) _))⟩
end Go.Proofs.Ytfnoocpopfapmaa
